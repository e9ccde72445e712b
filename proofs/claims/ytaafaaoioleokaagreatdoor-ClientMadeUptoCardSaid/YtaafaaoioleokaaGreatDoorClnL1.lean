
/- The law: a client that is made trusts just its header. -/
import Derived.Test.YtaafaaoioleokaaGreatDoorClnF
import Derived.Test.YtaafaaoioleokaaGreatDoorClnQ
import Derived.Test.YtaafaaoioleokaaGreatDoorMsgV
import Derived.Test.YtaafaaoioleokaaGreatDoorAtP
import Derived.Test.YtaafaaoioleokaaGreatDoorSto1
namespace Go.Proofs.YtaafaaoioleokaaGreatDoor
set_option maxRecDepth 100000
open Go Go.RowKit
set_option linter.unusedVariables false

def sCl1F : ByteArray := ⟨#[99, 108, 105, 101, 110, 116, 45, 49]⟩
theorem id0_ok : identB sCl0F = true := by decide +kernel
theorem id1_ok : identB sCl1F = true := by decide +kernel
theorem id1_of {R : List Pr} (e : numN R sClient = 1) : newID R sClient = sCl1F := by
  unfold newID
  rw [e]
  decide +kernel
set_option maxHeartbeats 32000000 in
theorem clmade_law (w : World) (v0 : Value) (ps : List Pr) (hps : RdP w w.heap.size v0 ps) (hnl : ∀ p ∈ ps, p.1.size ≤ maxLen) (hlen : ps.length ≤ 2000000)
    (H : HdW) (hH : H.rd w) (hch : H.ch.size ≤ 100000000) (pe now : Nat) (h_pe : pe < 18446744073709551616)
    (fr : TypeId × Nat × Nat) (hk : w.heap[2]? = some (.cells kVals fr.1 fr.2)) :
    Calls Tryz.prog 4 #[v0, .agg #[.string H.ch, .int .u64 (H.ht : Int), .int .u64 (H.tm : Int), H.vr, H.vv, H.vn], .agg #[.int .u64 (pe : Int), .int .u64 (now : Int)]] w fun e w' => e = .returned (.bool true) ∧ Below w.heap.size w w' := by
  have HN := Lib.hid (fun (Z : World) (hz : Below w.heap.size w Z) => new_any Z v0 ps (hps.keptP (Kept.of_belowX hz)) hnl)
  have HFX : Hid (∀ Z, Below w.heap.size w Z → Calls Tryz.prog 16 #[] Z fun e w' => e = .returned (.bool true) ∧ Below Z.heap.size Z w') := Lib.hid fun Z hz => clfixed_any Z fr ((hz.block _ (blk_lt hk)).trans hk)
  have HPS := Lib.hid (fun (Z : World) (hz : Kept w Z) => hps.keptP hz)
  have HNL := Lib.hid hnl
  have HLE := Lib.hid hlen
  have HRD := Lib.hid (fun (Z : World) (hz : Kept w Z) => hH.keptM hz)
  obtain ⟨ch, ht, tm, vr, vv, vn, rt, va, nx⟩ := H
  obtain ⟨hr0, hv0, hn0, h_ht, h_tm⟩ := hH
  dsimp only at hch hr0 hv0 hn0 h_ht h_tm ⊢
  obtain ⟨Ar, cr, rfl⟩ := hr0.form
  obtain ⟨Av, cv, rfl⟩ := hv0.form
  obtain ⟨An, cn, rfl⟩ := hn0.form
  have HBD := Lib.hid (And.intro hch (And.intro h_ht (And.intro h_tm h_pe)))
  obtain ⟨A0, c0, rfl⟩ : ∃ A c, v0 = .slice A ps.length c := by obtain ⟨A, c, h, _⟩ := hps; exact ⟨A, c, h⟩
  have hbox1 := heap_alloc_new w (.cells #[.string ch, .int .u64 (ht : Int), .int .u64 (tm : Int), .slice Ar rt.length cr, .slice Av va.length cv, .slice An nx.length cn] 48)
  have ha1 : Below w.heap.size w (w.alloc (.cells #[.string ch, .int .u64 (ht : Int), .int .u64 (tm : Int), .slice Ar rt.length cr, .slice Av va.length cv, .slice An nx.length cn] 48)) := (Below.refl _ _).alloc (Nat.le_refl _) _
  have ha2 := ha1.alloc ha1.size (.cells #[.int .u64 (pe : Int), .int .u64 (now : Int)] 50)
  have hbox2 := heap_alloc_new (w.alloc (.cells #[.string ch, .int .u64 (ht : Int), .int .u64 (tm : Int), .slice Ar rt.length cr, .slice Av va.length cv, .slice An nx.length cn] 48)) (.cells #[.int .u64 (pe : Int), .int .u64 (now : Int)] 50)
  replace hbox1 := (Below.heap_alloc (w.alloc (.cells #[.string ch, .int .u64 (ht : Int), .int .u64 (tm : Int), .slice Ar rt.length cr, .slice Av va.length cv, .slice An nx.length cn] 48)) (.cells #[.int .u64 (pe : Int), .int .u64 (now : Int)] 50) _ (blk_lt hbox1)).trans hbox1
  rw [show (w.alloc (.cells #[.string ch, .int .u64 (ht : Int), .int .u64 (tm : Int), .slice Ar rt.length cr, .slice Av va.length cv, .slice An nx.length cn] 48)).heap.size = w.heap.size + 1 by simp] at hbox2
  generalize hW0 : (w.alloc (.cells #[.string ch, .int .u64 (ht : Int), .int .u64 (tm : Int), .slice Ar rt.length cr, .slice Av va.length cv, .slice An nx.length cn] 48)).alloc (.cells #[.int .u64 (pe : Int), .int .u64 (now : Int)] 50) = W0 at *
  generalize hgg : w.heap.size = g0 at *
  have HC : Hid (∀ Z, Kept W0 Z → Z.cell? ⟨g0, 0, none⟩ = some (.string ch) ∧ Z.cell? ⟨g0, 1, none⟩ = some (.int .u64 (ht : Int)) ∧ Z.cell? ⟨g0, 2, none⟩ = some (.int .u64 (tm : Int)) ∧ Z.cell? ⟨g0, 3, none⟩ = some (.slice Ar rt.length cr) ∧ Z.cell? ⟨g0, 4, none⟩ = some (.slice Av va.length cv) ∧ Z.cell? ⟨g0, 5, none⟩ = some (.slice An nx.length cn) ∧ Z.cell? ⟨g0 + 1, 0, none⟩ = some (.int .u64 (pe : Int)) ∧ Z.cell? ⟨g0 + 1, 1, none⟩ = some (.int .u64 (now : Int))) := Lib.hid fun Z hz => ⟨hz.cell (blk_cell hbox1 0), hz.cell (blk_cell hbox1 1), hz.cell (blk_cell hbox1 2), hz.cell (blk_cell hbox1 3), hz.cell (blk_cell hbox1 4), hz.cell (blk_cell hbox1 5), hz.cell (blk_cell hbox2 0), hz.cell (blk_cell hbox2 1)⟩
  have HA2 := Lib.hid ha2
  have HGG := Lib.hid hgg
  have HKW0 : Hid (Kept w W0) := Lib.hid (Kept.of_belowX (by rw [HGG.out]; exact HA2.out))
  clear hps hnl hlen hr0 hv0 hn0 h_ht h_tm h_pe hk hch hbox1 hbox2 ha1 ha2
  go_enter Tryz.func4, Tryz.ntmps4
  go_wp2_with fail
  try rw [hgg]
  try rw [hW0]
  clear hW0
  refine (HN.out _ HA2.out).mono ?_
  rintro e w1 ⟨⟨-, rfl⟩ | ⟨-, y, rfl, hyb, hym, hyn, hly, hri, hp1⟩, hb1⟩
  · have hq1 := below_trG HGG.out HA2.out hb1
    clear HN hb1
    go_wp2_with fail
    refine (HFX.out _ hq1).mono ?_
    rintro e w2 ⟨rfl, hb2⟩
    have hq2 := below_trG HGG.out hq1 hb2
    go_wp2_with fail
    refine (HFX.out _ hq2).mono ?_
    rintro e w3 ⟨rfl, hb3⟩
    have hq3 := below_trG HGG.out hq2 hb3
    go_wp2_with fail
    go_ret
    exact ⟨rfl, hq3⟩
  have A1' := At.made hp1 hly hri HNL.out
  have HRS := Lib.hid hri
  have HYN := Lib.hid (show y.n ≤ 2000000 by rw [show y.n = ps.length from hyn]; exact HLE.out)
  obtain ⟨yb, ym, yn, yf⟩ := y
  have hq1 := below_trG HGG.out HA2.out hb1
  have HB1 : Hid (Below g0 w w1 ∧ g0 ≤ ym ∧ Below W0.heap.size W0 w1) := Lib.hid ⟨hq1, Nat.le_trans (by rw [← HGG.out]; exact HA2.out.size) hym, hb1⟩
  clear hyb hym hyn hly hri hp1 HN hb1
  dsimp only at HYN ⊢
  go_wp2_with fail
  refine (HFX.out _ hq1).mono ?_
  rintro e w2 ⟨rfl, hb2⟩
  have A2 := A1'.up hb2
  have HK2 := Lib.hid ((Kept.of_belowX HB1.out.2.2).transX (Kept.of_belowX hb2))
  have hq2 := below_trG HGG.out hq1 hb2
  have HPI := Lib.hid (A2.pairs (show yn + 0 + 0 ≤ 1000000000 by have := HYN.out; omega) ibcP (by decide +kernel))
  obtain ⟨L1, hL1⟩ : ∃ L, L = ps.filter (fun p => begB ibcP p.1) := ⟨_, rfl⟩
  rw [← hL1] at HPI
  have HL1 := Lib.hid hL1
  have HA2' := Lib.hid A2
  unfold ibcP at HPI
  clear hL1 A1' hb2 A2 hq1
  go_wp2_with fail
  refine HPI.out.mono ?_
  rintro e w3 ⟨v3, rfl, ho3, hb3⟩
  obtain ⟨A3v, c3, rfl⟩ := ho3.form
  have hq3 := below_trG HGG.out hq2 hb3
  by_cases z1 : L1.length = 0
  rotate_left
  · have q1 : (0 : Int) < (L1.length : Int) := by omega
    clear HPI ho3 hb3 z1
    generalize L1.length = n1 at *
    go_wp2_with fail
    refine (HFX.out _ hq3).mono ?_
    rintro e w4 ⟨rfl, hb4⟩
    have hq4 := below_trG HGG.out hq3 hb4
    go_wp2_with fail
    go_ret
    exact ⟨rfl, hq4⟩
  rw [z1]
  have HNO := Lib.hid (fun (key : ByteArray) (hkey : begB ibcP key = true) => untouched HRS.out (HL1.out.symm.trans (List.length_eq_zero_iff.1 z1)) hkey)
  have A3 := HA2'.out.up hb3
  have hk3 := HK2.out.transX (Kept.of_belowX hb3)
  have hnum : numN ps sClient = 0 := by
    unfold numN
    rw [HNO.out _ (ibc_num _)]
    rfl
  have hid0 : newID ps sClient = sCl0F := (newID_num (R' := []) (by rw [hnum]; decide +kernel)).trans fx42
  have hrd := HRD.out w3 (HKW0.out.transX hk3)
  have HCR := Lib.hid (clcreate_any A3 (show yn + 0 + 3 ≤ maxLen by have := HYN.out; unfold maxLen; omega) (by rw [hnum]; decide) ⟨ch, ht, tm, rt, va, nx⟩ pe now (.slice Ar rt.length cr) (.slice Av va.length cv) (.slice An nx.length cn) hrd.r hrd.v hrd.n HBD.out.1 HBD.out.2.1 HBD.out.2.2.1 HBD.out.2.2.2)
  dsimp only at HCR
  rw [hid0] at HCR
  have HKW := Lib.hid hk3
  obtain ⟨r0, r1, r2, r3, r4, r5, r6, r7⟩ := HC.out w3 hk3
  by_cases he : createE ⟨ch, ht, tm, rt, va, nx⟩ pe now = 0
  rotate_left
  · rw [if_neg he, if_neg he] at HCR
    have hne : (createE ⟨ch, ht, tm, rt, va, nx⟩ pe now != 0) = true := by simpa using he
    generalize createE ⟨ch, ht, tm, rt, va, nx⟩ pe now = E at *
    clear he ho3 hb3 z1 A3 hk3 hnum hid0 hrd HPI
    go_wp2_with fail
    refine HCR.out.mono ?_
    rintro e w4 ⟨rfl, A4, hk4⟩
    have HP4 := Lib.hid (A4.pairs (show yn + (0 + 3) + 0 ≤ 1000000000 by have := HYN.out; omega) ⟨#[]⟩ (by decide +kernel))
    rw [show ps.filter (fun p => begB ⟨#[]⟩ p.1) = ps from List.filter_eq_self.2 fun q _ => begB_empty q.1] at HP4
    have HPD := Lib.hid (fun (Z : World) (hz : Kept w4 Z) => HPS.out Z ((HKW0.out.transX (HKW.out.transX hk4)).transX hz))
    have hq4 : Below g0 w w4 := HB1.out.1.trans (A4.below HB1.out.2.1 (by rw [← HGG.out]; exact HB1.out.1.size))
    clear r0 r1 r2 r3 r4 r5 r6 r7 HCR A4 hk4 hq3 hq2
    go_wp2_with fail
    refine HP4.out.mono ?_
    rintro e w5 ⟨v5, rfl, ho5, hb5⟩
    have HSM := Lib.hid (samePs_any w5 v5 (.slice A0 ps.length c0) ps ps ho5.rdP (HPD.out w5 (Kept.of_belowX hb5)))
    rw [decide_eq_true rfl] at HSM
    obtain ⟨A5v, c5, rfl⟩ := ho5.form
    have hq5 := below_trG HGG.out hq4 hb5
    generalize ps.length = np at *
    clear HP4 HPD ho5 hb5
    go_wp2_with fail
    refine HSM.out.mono ?_
    rintro e w6 ⟨rfl, hb6⟩
    have hq6 := below_trG HGG.out hq5 hb6
    go_wp2_with fail
    go_ret
    exact ⟨rfl, hq6⟩
  rw [if_pos he, if_pos he, he] at HCR
  have M1 := MadeC.mk' (R := ps) (h := ⟨ch, ht, tm, rt, va, nx⟩) (pe := pe) (now := now) HRS.out he (by rw [hid0]; exact id0_ok) HBD.out.2.1 HBD.out.2.2.1 HBD.out.2.2.2 (HNO.out _ (ibc_cons _ _)) hnum (by decide)
  rw [hid0] at M1
  have hnum1 : numN (createR ps ⟨ch, ht, tm, rt, va, nx⟩ pe) sClient = 1 := numN_of (by decide) M1.num
  have hid1 := id1_of hnum1
  have M2 := MadeC.mk' (R := createR ps ⟨ch, ht, tm, rt, va, nx⟩ pe) (h := ⟨ch, ht, tm, rt, va, nx⟩) (pe := pe) (now := now) M1.rise he (by rw [hid1]; exact id1_ok) HBD.out.2.1 HBD.out.2.2.1 HBD.out.2.2.2 (by rw [hid1, M1.other _ _ (by decide +kernel)]; exact HNO.out _ (ibc_cons _ _)) hnum1 (by decide)
  have HLN := Lib.hid (show ((createR (createR ps ⟨ch, ht, tm, rt, va, nx⟩ pe) ⟨ch, ht, tm, rt, va, nx⟩ pe).filter (fun p => begB consP p.1)).length = 2 by
    have e0 : ps.filter (fun p => begB consP p.1) = [] := List.filter_eq_nil_iff.2 fun q hq hb => by
      have e1 := HRS.out.get hq
      obtain ⟨r, hr⟩ := (begQ_iff consP q.1).1 hb
      rw [HNO.out q.1 (beg_ibc _ ([99, 111, 110, 115, 47] ++ r) (by rw [hr]; rfl))] at e1
      cases e1
    rw [M2.len, M1.len, e0]
    rfl)
  have HG1 := Lib.hid M1.cl
  have HS1 := Lib.hid M1.cs
  have HN1 := Lib.hid (And.intro hnum1 hid1)
  have HE := Lib.hid he
  clear M1 M2 hnum1 hid1 ho3 hb3 z1 A3 hk3 hnum hid0 hrd HPI hq3 hq2 HA2' HK2 HL1 he
  unfold sCl0F at HCR
  generalize createR ps ⟨ch, ht, tm, rt, va, nx⟩ pe = R3 at *
  go_wp2_with fail
  refine HCR.out.mono ?_
  rintro e w4 ⟨rfl, A4, hk4⟩
  have hk4' := HKW.out.transX hk4
  have HG4 := Lib.hid (clget_any A4 sCl0F (by decide +kernel))
  rw [HG1.out] at HG4
  unfold clV ClV.val sCl0F at HG4
  dsimp only at HG4
  have HA4 := Lib.hid A4
  have HK4 := Lib.hid hk4'
  clear r0 r1 r2 r3 r4 r5 r6 r7 HCR A4 hk4 hk4'
  go_wp2_with fail
  refine HG4.out.mono ?_
  rintro e w5 ⟨rfl, hb5⟩
  have m5 := heap_alloc_new w5 (.cells #[.string ch, .int .u64 (ht : Int), .int .u64 (pe : Int), .bool false] 55)
  have ha5 := hb5.alloc hb5.size (.cells #[.string ch, .int .u64 (ht : Int), .int .u64 (pe : Int), .bool false] 55)
  have A5 := HA4.out.up ha5
  have hk5 := HK4.out.transX (Kept.of_belowX ha5)
  have HM5 := Lib.hid m5
  have HA5 := Lib.hid A5
  have HK5 := Lib.hid hk5
  obtain ⟨r0, r1, r2, r3, r4, r5, r6, r7⟩ := HC.out _ hk5
  have HT5 := Lib.hid (csget_any A5 sCl0F ht HBD.out.2.1 (by decide +kernel))
  unfold sCl0F at HT5
  clear HG4 HA4 HK4 hb5 ha5 A5 hk5 m5
  go_wp2_with fail
  generalize hW5 : w5.alloc (.cells #[.string ch, .int .u64 (ht : Int), .int .u64 (pe : Int), .bool false] 55) = W5 at *
  generalize hg5 : w5.heap.size = g5 at *
  clear hW5 hg5
  refine HT5.out.mono ?_
  rintro e w6 ⟨⟨v, vr6, vn6, hcs, rfl, ho1, ho2⟩ | ⟨hcs, -⟩, hb6⟩
  rotate_left
  · have := HS1.out.symm.trans hcs
    cases this
  obtain rfl : v = ⟨tm, rt, nx⟩ := Option.some.inj (hcs.symm.trans HS1.out)
  dsimp only at ho1 ho2 ⊢
  have hr6 := ho1.rd
  have hn6 := ho2.rd
  obtain ⟨Ax, cx, rfl⟩ := hr6.form
  obtain ⟨Ay, cy, rfl⟩ := hn6.form
  have m6 := heap_alloc_new w6 (.cells #[.int .u64 (tm : Int), .slice Ax rt.length cx, .slice Ay nx.length cy] 59)
  have ha6 := hb6.alloc hb6.size (.cells #[.int .u64 (tm : Int), .slice Ax rt.length cx, .slice Ay nx.length cy] 59)
  have A6 := HA5.out.up ha6
  have hk6 := HK5.out.transX (Kept.of_belowX ha6)
  have hra := (Below.refl w6.heap.size w6).alloc (Nat.le_refl _) (.cells #[.int .u64 (tm : Int), .slice Ax rt.length cx, .slice Ay nx.length cy] 59)
  have HRX := Lib.hid (And.intro ((hr6.more (Nat.le_refl _)).up (Nat.le_refl _) hra) ((hn6.more (Nat.le_refl _)).up (Nat.le_refl _) hra))
  have k5 := (ha6.block _ (blk_lt HM5.out)).trans HM5.out
  have HM6 := Lib.hid (And.intro k5 m6)
  have HK6 := Lib.hid hk6
  have hrd6 := HRD.out _ (HKW0.out.transX hk6)
  have HC6 := Lib.hid (clcreate_any A6 (show yn + (0 + 3) + 3 ≤ maxLen by have := HYN.out; unfold maxLen; omega) (by rw [HN1.out.1]; decide) ⟨ch, ht, tm, rt, va, nx⟩ pe now (.slice Ar rt.length cr) (.slice Av va.length cv) (.slice An nx.length cn) hrd6.r hrd6.v hrd6.n HBD.out.1 HBD.out.2.1 HBD.out.2.2.1 HBD.out.2.2.2)
  dsimp only at HC6
  rw [HN1.out.2, HE.out, if_pos rfl, if_pos rfl] at HC6
  unfold sCl1F at HC6
  clear r0 r1 r2 r3 r4 r5 r6 r7
  obtain ⟨r0, r1, r2, r3, r4, r5, r6, r7⟩ := HC.out _ hk6
  clear HT5 HM5 HA5 HK5 hcs ho1 ho2 hb6 hr6 hn6 m6 ha6 A6 hk6 hra k5 hrd6
  go_wp2_with fail
  generalize hW6 : w6.alloc (.cells #[.int .u64 (tm : Int), .slice Ax rt.length cx, .slice Ay nx.length cy] 59) = W6 at *
  generalize hg6 : w6.heap.size = g6 at *
  clear hW6 hg6
  refine HC6.out.mono ?_
  rintro e w7 ⟨rfl, A7, hk7⟩
  clear r0 r1 r2 r3 r4 r5 r6 r7
  obtain ⟨r0, r1, r2, r3, r4, r5, r6, r7⟩ := HC.out _ (HK6.out.transX hk7)
  have s0 := hk7.cell (blk_cell HM6.out.1 0)
  have s1 := hk7.cell (blk_cell HM6.out.1 1)
  have s2 := hk7.cell (blk_cell HM6.out.1 2)
  have s3 := hk7.cell (blk_cell HM6.out.1 3)
  have u0 := hk7.cell (blk_cell HM6.out.2 0)
  have u1 := hk7.cell (blk_cell HM6.out.2 1)
  have u2 := hk7.cell (blk_cell HM6.out.2 2)
  have hrx := hk7.rd HRX.out.1
  have hnx := hk7.rd HRX.out.2
  have hrd7 := HRD.out _ (HKW0.out.transX (HK6.out.transX hk7))
  have hrr := hrd7.r
  have hnn := hrd7.n
  dsimp only at hrr hnn
  have cv1 := run_str Tryz.underlying37 Tryz.underlying5 Tryz.isString hrx
  have cv2 := run_str Tryz.underlying37 Tryz.underlying5 Tryz.isString hrr
  have cv3 := run_str Tryz.underlying37 Tryz.underlying5 Tryz.isString hnx
  have cv4 := run_str Tryz.underlying37 Tryz.underlying5 Tryz.isString hnn
  obtain ⟨S1, hS1⟩ : ∃ S : ByteArray, S = ⟨rt.toArray⟩ := ⟨_, rfl⟩
  obtain ⟨S2, hS2⟩ : ∃ S : ByteArray, S = ⟨nx.toArray⟩ := ⟨_, rfl⟩
  rw [← hS1] at cv1 cv2
  rw [← hS2] at cv3 cv4
  have q1 : (S1.toList == S1.toList) = true := beq_self_eq_true _
  have q2 : (S2.toList == S2.toList) = true := beq_self_eq_true _
  have hq1 := fun W => eql_self (by kernel_rfl) (by kernel_rfl) (cl_self ⟨ch, ht, pe, false⟩) W
  have hq2 := fun W => eqIn_selfL (by kernel_rfl) (by kernel_rfl) (cl_self ⟨ch, ht, pe, false⟩) W
  unfold ClV.cs at hq1 hq2
  dsimp only at hq1 hq2
  have HP7 := Lib.hid (A7.pairs (show yn + (0 + 3 + 3) + 0 ≤ 1000000000 by have := HYN.out; omega) consP (by decide +kernel))
  have HQ7 : Hid (Below g0 w w7) := Lib.hid (HB1.out.1.trans (A7.below HB1.out.2.1 (by rw [← HGG.out]; exact HB1.out.1.size)))
  generalize createR R3 ⟨ch, ht, tm, rt, va, nx⟩ pe = R4 at *
  obtain ⟨L4, hL4⟩ : ∃ L, L = R4.filter (fun p => begB consP p.1) := ⟨_, rfl⟩
  rw [← hL4] at HP7 HLN
  unfold consP at HP7
  clear hS1 hS2 HC6 HM6 A7 hk7 hrx hnx hrd7 hrr hnn HRX hL4
  go_wp2_with fail
  refine HP7.out.mono ?_
  rintro e w8 ⟨v8, rfl, ho8, hb8⟩
  obtain ⟨A8v, c8, rfl⟩ := ho8.form
  rw [HLN.out]
  have hq8 := below_trG HGG.out HQ7.out hb8
  clear ho8 hb8 HP7 cv1 cv2 cv3 cv4 hq1 hq2
  go_wp2_with fail
  go_ret
  exact ⟨rfl, hq8⟩
end Go.Proofs.YtaafaaoioleokaaGreatDoor
