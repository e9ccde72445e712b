/- Texts joined: AuthQ, AuthG, HeldBy, OpenB0, OpenM0, OpenG1. -/
import Derived.Test.YtniclaapiabmdaaGreatDoorM19
import Derived.Test.YtniclaapiabmdaaGreatDoorM12
import Derived.Test.YtniclaapiabmdaaGreatDoorM13
import Derived.Deep.RegionHeldLaw
import Derived.Test.YtniclaapiabmdaaGreatDoorM01
import Derived.Test.YtniclaapiabmdaaGreatDoorRows
import Derived.ProofKit
import Derived.OpenShut
import Derived.ShutString
import Derived.JoinedCond
import Derived.Deep.Slices
import Derived.Deep.Fields
import Derived.Carry
import Derived.Test.YtniclaapiabmdaaGreatDoorM03
import Derived.Deep.Grids
import Derived.Test.YtniclaapiabmdaaGreatDoorM05
import Derived.Test.YtniclaapiabmdaaGreatDoorM06
import Derived.Laws.IdiomArrays
namespace Go.Proofs.YtniclaapiabmdaaGreatDoor
set_option maxRecDepth 100000
open Go Go.RowKit
set_option linter.unusedVariables false

def feesS : ByteArray := ⟨#[102, 101, 101, 115]⟩
def fuelS : ByteArray := ⟨#[102, 117, 101, 108]⟩
/-- the fee paid -/
def paidM (R : List Pr) (t : TxV) : Int × List Pr := if eqB t.fee U4.zero = true then (0, R) else sendM R t.sg feesS fuelS t.fee
def anteM (R : List Pr) (ch : ByteArray) (t : TxV) : Int × List Pr :=
  if checkM R ch t = 0 then
    if (paidM R t).1 = 0 then
      match getA R t.sg with
      | none => (0, R)
      | some (r, b, s) => (0, putA (paidM R t).2 t.sg r b ((s + 1) % 18446744073709551616))
    else ((paidM R t).1, R)
  else (checkM R ch t, R)
theorem kAcc_ne_bal (a c d : ByteArray) : kAcc a ≠ kBal c d := fun e => by
  have h : (kAcc a).data.toList = (kBal c d).data.toList := congrArg (fun z : ByteArray => z.data.toList) e
  rw [kBal_list] at h
  unfold kAcc at h
  rw [data_list] at h
  have : accP.data.toList = [97, 99, 99, 47] := rfl
  rw [this] at h
  injection h with h _
  revert h; decide
theorem getL_send {R : List Pr} {a b d key : ByteArray} {x : U4} (h1 : key ≠ kBal a d) (h2 : key ≠ kBal b d) : getL (sendM R a b d x).2 key = getL R key := by
  unfold sendM
  split
  · split
    · split
      · split
        · rfl
        · split
          · dsimp only
            rw [getL_keep, if_neg h2, getL_keep, if_neg h1]
          · rfl
      · rfl
    · rfl
  · rfl
theorem getA_paid (R : List Pr) (t : TxV) (a : ByteArray) : getA (paidM R t).2 a = getA R a := by
  unfold paidM
  split
  · rfl
  · unfold getA
    rw [getL_send (kAcc_ne_bal _ _ _) (kAcc_ne_bal _ _ _)]
theorem check_ok {R : List Pr} {ch : ByteArray} {t : TxV} (h : checkM R ch t = 0) : ∃ r b s, getA R t.sg = some (r, b, s) ∧ t.seq = s ∧ b ≤ s ∧ s - b < 8 ∧ r.length = 32 ∧ encE t.bare = 0 := by
  unfold checkM at h
  cases e : getA R t.sg with
  | none => rw [e] at h; cases h
  | some x =>
    obtain ⟨r, b, s⟩ := x
    simp only [e] at h
    by_cases h1 : t.seq = s
    · rw [if_pos h1] at h
      by_cases h2 : b ≤ s ∧ s - b < 8
      · rw [if_pos h2] at h
        by_cases h3 : encE t.bare = 0
        · rw [if_pos h3] at h
          by_cases h4 : verB r ((s - b : Nat) : Int) (shaSum (encSgn ch t)) t.sig = true
          · refine ⟨r, b, s, rfl, h1, h2.1, h2.2, ?_, h3⟩
            unfold verB at h4
            simp only [Bool.and_eq_true, decide_eq_true_eq] at h4
            exact h4.1.2.2.2
          · rw [if_neg h4] at h; cases h
        · rw [if_neg h3] at h; exact absurd h h3
      · rw [if_neg h2] at h; cases h
    · rw [if_neg h1] at h; cases h
set_option maxHeartbeats 8000000 in
theorem aante_any {W W' : World} {y : Lyr} {R : List Pr} {k : Nat} (h : Acc W y R k W') (hn : y.n + k + 3 ≤ maxLen) (ch : ByteArray) (hch : ch.size ≤ maxLen) (t : TxV) (ht : t.rd W') (hs : t.sg.size ≤ 100000000) (fr : TypeId × Nat × Nat) (hk : W'.heap[0]? = some (.cells kVals fr.1 fr.2)) :
    Calls Tryz.prog 10 #[.pointer (some ⟨y.b, 0, none⟩), .string ch, .agg t.cells] W' fun e w' => e = .returned (.int .i64 (anteM R ch t).1) ∧ Acc W y (anteM R ch t).2 (k + 3) w' ∧ Kept W' w' := by
  obtain ⟨Am, cm, hvm⟩ : ∃ A c, t.vms = .slice A t.ms.length c := by obtain ⟨A, c, e, _⟩ := ht.ms; exact ⟨A, c, e⟩
  obtain ⟨As, cs, hvs⟩ := ht.sig.form
  have hcl : t.cells = #[.string t.sg, .int .u64 (t.seq : Int), .int .u64 (t.gas : Int), .int .u64 (t.fee.a : Int), .int .u64 (t.fee.b : Int), .int .u64 (t.fee.c : Int), .int .u64 (t.fee.d : Int), .slice Am t.ms.length cm, .slice As t.sig.length cs] := by rw [TxV.cells, hvm, hvs]
  have HCK := Lib.hid (fun (Z : World) (hb : Below W'.heap.size W' Z) => acheck_any (h.up hb) ch hch t (ht.up hb) hs fr ((hb.block _ (blk_lt hk)).trans hk))
  rw [hcl] at HCK
  have hfee := ht.fee
  have HZ := Lib.hid (fun Z => zero_any t.fee Z)
  have HSD := Lib.hid (fun (Z : World) (hb : Below W'.heap.size W' Z) => (h.up hb).send (by omega) t.sg feesS fuelS t.fee hfee hs (by decide +kernel) (by decide +kernel))
  have HFI := Lib.hid (fun v (e : getL R (kAcc t.sg) = some v) => (h.fits e).1)
  have HA0 := Lib.hid h
  have hgp := getA_paid R t t.sg
  have HSS := Lib.hid hs
  rw [hcl]
  have m1 : checkM R ch t ≠ 0 → anteM R ch t = (checkM R ch t, R) := fun e => by unfold anteM; rw [if_neg e]
  have m2 : checkM R ch t = 0 → (paidM R t).1 ≠ 0 → anteM R ch t = ((paidM R t).1, R) := fun e e2 => by unfold anteM; rw [if_pos e, if_neg e2]
  have m3 : checkM R ch t = 0 → (paidM R t).1 = 0 → ∀ r b s, getA R t.sg = some (r, b, s) → anteM R ch t = (0, putA (paidM R t).2 t.sg r b ((s + 1) % 18446744073709551616)) := fun e e2 r b s e3 => by unfold anteM; rw [if_pos e, if_pos e2]; simp only [e3]
  have hck := fun e => check_ok (R := R) (ch := ch) (t := t) e
  have p1 : eqB t.fee U4.zero = true → paidM R t = (0, R) := fun e => by unfold paidM; rw [if_pos e]
  have p2 : eqB t.fee U4.zero = false → paidM R t = sendM R t.sg feesS fuelS t.fee := fun e => by unfold paidM; rw [if_neg (by rw [e]; decide)]
  have hsn : (sendM R t.sg feesS fuelS t.fee).1 ≠ 0 → (sendM R t.sg feesS fuelS t.fee).2 = R := fun e => send_no e
  have HM := Lib.hid (And.intro m1 (And.intro m2 m3))
  have HCO := Lib.hid hck
  have HP := Lib.hid (And.intro p1 p2)
  have HGP := Lib.hid hgp
  have HSN := Lib.hid hsn
  have HNN := Lib.hid hn
  clear m1 m2 m3 hck p1 p2 hgp hsn hcl hvm hvs ht h hk hfee hn
  obtain ⟨Q, hQ⟩ : ∃ Q, Q = checkM R ch t := ⟨_, rfl⟩
  rw [← hQ] at HCK HM HCO
  obtain ⟨QA, hQA⟩ : ∃ QA, QA = anteM R ch t := ⟨_, rfl⟩
  rw [← hQA] at HM ⊢
  obtain ⟨PD, hPD⟩ : ∃ PD, PD = paidM R t := ⟨_, rfl⟩
  rw [← hPD] at HM HP HGP
  clear hQ hQA hPD
  generalize encE t.bare = E at *
  generalize t.ms.length = nm at *
  generalize t.sig.length = sl at *
  obtain ⟨x, hx⟩ : ∃ x, x = t.fee := ⟨_, rfl⟩
  rw [← hx] at HCK HZ HSD HP HSN ⊢
  generalize t.gas = gas at *
  generalize t.seq = q at *
  generalize t.sg = sg at *
  clear hx
  obtain ⟨fa, fb, fc, fd⟩ := x
  dsimp only at HCK ⊢
  obtain ⟨ez, hez⟩ : ∃ ez, ez = eqB ⟨fa, fb, fc, fd⟩ U4.zero := ⟨_, rfl⟩
  rw [← hez] at HZ HP
  obtain ⟨SD, hSD⟩ : ∃ SD, SD = sendM R sg feesS fuelS ⟨fa, fb, fc, fd⟩ := ⟨_, rfl⟩
  rw [← hSD] at HSD HP HSN
  clear hez hSD
  unfold U4.val U4.cells at HZ HSD
  unfold feesS fuelS at HSD
  have hbox := heap_alloc_new W' (.cells #[.string sg, .int .u64 (q : Int), .int .u64 (gas : Int), .int .u64 (fa : Int), .int .u64 (fb : Int), .int .u64 (fc : Int), .int .u64 (fd : Int), .slice Am nm cm, .slice As sl cs] 29)
  have ha0 : Below W'.heap.size W' (W'.alloc (.cells #[.string sg, .int .u64 (q : Int), .int .u64 (gas : Int), .int .u64 (fa : Int), .int .u64 (fb : Int), .int .u64 (fc : Int), .int .u64 (fd : Int), .slice Am nm cm, .slice As sl cs] 29)) := (Below.refl _ _).alloc (Nat.le_refl _) _
  go_enter Tryz.func10, Tryz.ntmps10
  go_wp2_with fail
  generalize W'.alloc (.cells #[.string sg, .int .u64 (q : Int), .int .u64 (gas : Int), .int .u64 (fa : Int), .int .u64 (fb : Int), .int .u64 (fc : Int), .int .u64 (fd : Int), .slice Am nm cm, .slice As sl cs] 29) = W0 at *
  have HC : Hid (∀ Z, Below W0.heap.size W0 Z → Z.cell? ⟨W'.heap.size, 0, none⟩ = some (.string sg) ∧ Z.cell? ⟨W'.heap.size, 3, none⟩ = some (.int .u64 (fa : Int)) ∧ Z.cell? ⟨W'.heap.size, 4, none⟩ = some (.int .u64 (fb : Int)) ∧ Z.cell? ⟨W'.heap.size, 5, none⟩ = some (.int .u64 (fc : Int)) ∧ Z.cell? ⟨W'.heap.size, 6, none⟩ = some (.int .u64 (fd : Int))) := Lib.hid fun Z hb => by
    have hz := (hb.block _ (blk_lt hbox)).trans hbox
    exact ⟨blk_cell hz 0, blk_cell hz 3, blk_cell hz 4, blk_cell hz 5, blk_cell hz 6⟩
  refine (HCK.out _ ha0).mono ?_
  rintro e w1 ⟨rfl, hb1⟩
  have hq1 := below_chain ha0 ha0.size hb1
  by_cases hQ0 : Q = 0
  rotate_left
  · have f1 : (Q != 0) = true := by simpa using hQ0
    have HR := Lib.hid (HM.out.1 hQ0)
    have A1 := (HA0.out.up hq1).more (k' := k + 3) (by omega)
    clear HCK HSD HZ HM HC
    go_wp2_with fail
    go_ret
    obtain rfl := HR.out
    exact ⟨rfl, A1, Kept.of_below hq1⟩
  obtain ⟨r, b, s, hga, -, -, -, hrl, -⟩ := HCO.out hQ0
  obtain ⟨l, g1, g2, g3, g4⟩ := getA_ok hga
  have HKF : Hid (keyB (kAcc sg) = true) := Lib.hid (HFI.out _ g1)
  have HRL : Hid (r.length ≤ 60000) := Lib.hid (by omega)
  have HBL : Hid (b < 18446744073709551616) := Lib.hid g3
  have HM2 : Hid (PD.1 ≠ 0 → QA = (PD.1, R)) := Lib.hid fun e => HM.out.2.1 hQ0 e
  have HM3 : Hid (PD.1 = 0 → QA = (0, putA PD.2 sg r b ((s + 1) % 18446744073709551616))) := Lib.hid fun e => HM.out.2.2 hQ0 e r b s hga
  have HGA := Lib.hid hga
  subst hQ0
  obtain ⟨c0, c3, c4, c5, c6⟩ := HC.out _ hb1
  clear HM HCO hga hrl g1 g2 HFI HCK hbox
  go_wp2_with fail
  refine (HZ.out _).mono ?_
  rintro e w2 ⟨rfl, hb2⟩
  have hb02 := below_chain hb1 hb1.size hb2
  have hq2 := below_chain hq1 hq1.size hb2
  obtain ⟨c0, c3, c4, c5, c6⟩ := HC.out _ hb02
  have HKC := Lib.hid c0
  cases ez with
  | true =>
    have hpd := HP.out.1 rfl
    subst hpd
    have hQA := HM3.out rfl
    obtain ⟨QE, QR⟩ := QA
    have HQ0 : Hid (QE = 0) := Lib.hid (by injection hQA)
    have hQR : QR = putA R sg r b ((s + 1) % 18446744073709551616) := by injection hQA
    have HA3 := Lib.hid (HA0.out.up hq2)
    have HG3 := Lib.hid (aget_any HA3.out sg HSS.out)
    have HGR := HGA
    have HNK : Hid (y.n + k < maxLen) := Lib.hid (by have := HNN.out; omega)
    have HAX : Hid (∀ w', Acc W y (putA R sg r b ((s + 1) % 18446744073709551616)) (k + 1) w' → Acc W y QR (k + 3) w') := Lib.hid fun w' a => by rw [hQR]; exact a.more (by omega)
    have HK3 : Hid (Kept W' w2) := Lib.hid (Kept.of_below hq2)
    clear hQA hQR HSD HZ HM2 HM3 HC HA0 HP HGP HSN HNN hq2 hb02 hq1 hb1 hb2 ha0 c3 c4 c5 c6
    go_wp2_with fail
    refine HG3.out.mono ?_
    rintro e w5 ⟨⟨v5, r5, b5, s5, hga, rfl, ho5⟩ | ⟨hga, -⟩, hb5⟩
    rotate_left
    · rw [HGR.out] at hga; cases hga
    rw [HGR.out] at hga
    injection hga with e1
    injection e1 with e1 e2
    injection e2 with e2 e3
    subst e1
    subst e2
    subst e3
    have HO5 := Lib.hid ho5
    obtain ⟨A5, c5, hv5⟩ := ho5.form
    subst hv5
    obtain ⟨n5, hn5⟩ : ∃ n, n = r.length := ⟨_, rfl⟩
    rw [← hn5] at HO5 ⊢
    clear hn5
    have hk6 := heap_alloc_new w5 (.cells #[.slice A5 n5 c5, .int .u64 (b : Int), .int .u64 (s : Int)] 38)
    have hal : Below w5.heap.size w5 (w5.alloc (.cells #[.slice A5 n5 c5, .int .u64 (b : Int), .int .u64 (s : Int)] 38)) := (Below.refl _ _).alloc (Nat.le_refl _) _
    have z0 := blk_cell hk6 0
    have z1 := blk_cell hk6 1
    have z2 := blk_cell hk6 2
    have f2 := blk_free hk6 2
    simp at z0 z1 z2
    obtain ⟨x, hx⟩ : ∃ x, x = (s + 1) % 18446744073709551616 := ⟨_, rfl⟩
    have hw : IntKind.u64.wrap ((s : Int) + 1) = (x : Int) := by rw [hx, IntKind.wrap_u64]; omega
    have hc5 : w5.cell? ⟨W'.heap.size, 0, none⟩ = some (.string sg) := (Kept.of_below hb5).cell HKC.out
    have hlt5 : W'.heap.size < w5.heap.size := World.block_lt_of_cell? w5 _ hc5
    have hne5 : W'.heap.size ≠ w5.heap.size := Nat.ne_of_lt hlt5
    have hne6 : w5.heap.size ≠ W'.heap.size := fun h => hne5 h.symm
    have HPT : Hid (Calls Tryz.prog 37 #[.pointer (some ⟨y.b, 0, none⟩), .string sg, .agg #[.slice A5 n5 c5, .int .u64 (b : Int), .int .u64 (x : Int)]] (w5.alloc (.cells #[.slice A5 n5 c5, .int .u64 (b : Int), .int .u64 (x : Int)] 38)) fun e w' => e = .returned (.tuple #[]) ∧ Acc W y QR (k + 3) w' ∧ Kept W' w') := Lib.hid (by
      have hbb : Below w5.heap.size w5 (w5.alloc (.cells #[.slice A5 n5 c5, .int .u64 (b : Int), .int .u64 (x : Int)] 38)) := (Below.refl _ _).alloc (Nat.le_refl _) _
      have hb6 := below_chain hb5 hb5.size hbb
      have q := aput_any (HA3.out.up hb6) HNK.out sg HKF.out (.slice A5 n5 c5) r (HO5.out.rd.up (Nat.le_refl _) hbb) HRL.out b x HBL.out (by omega)
      refine q.mono ?_
      rintro e w' ⟨q1, q2, q3⟩
      exact ⟨q1, HAX.out _ (by rw [← hx]; exact q2), HK3.out.trans ((Kept.of_below hb6).trans q3)⟩)
    clear HG3 HGR HO5 ho5 hk6 hal hb5 HA3 HNK HKF HRL HBL HK3 HAX HKC hx
    go_wp2_with fail
    refine HPT.out.mono ?_
    rintro e w7 ⟨rfl, A7, K7⟩
    go_wp2_with fail
    go_ret
    obtain rfl := HQ0.out
    exact ⟨rfl, A7, K7⟩
  | false =>
    have hpd := HP.out.2 rfl
    subst hpd
    have HSD2 := Lib.hid (HSD.out _ hq2)
    clear HSD HZ HP
    go_wp2_with fail
    refine HSD2.out.mono ?_
    rintro e w4 ⟨rfl, A4, K4⟩
    obtain ⟨se, SR⟩ := PD
    by_cases hs0 : se = 0
    · subst hs0
      have hQA := HM3.out rfl
      obtain ⟨QE, QR⟩ := QA
      have HQ0 : Hid (QE = 0) := Lib.hid (by injection hQA)
      have hQR : QR = putA SR sg r b ((s + 1) % 18446744073709551616) := by injection hQA
      have HA3 := Lib.hid A4
      have HG3 := Lib.hid (aget_any HA3.out sg HSS.out)
      have HGR : Hid (getA SR sg = some (r, b, s)) := Lib.hid (HGP.out.trans HGA.out)
      have HNK : Hid (y.n + (k + 2) < maxLen) := Lib.hid (by have := HNN.out; omega)
      have HAX : Hid (∀ w', Acc W y (putA SR sg r b ((s + 1) % 18446744073709551616)) (k + 2 + 1) w' → Acc W y QR (k + 3) w') := Lib.hid fun w' a => by rw [hQR]; exact a
      have HK3 : Hid (Kept W' w4) := Lib.hid ((Kept.of_below hq2).trans K4)
      have hkc4 := K4.cell c0
      have HKC := Lib.hid hkc4
      clear hQA hQR HSD2 HM2 HM3 HC HA0 HGP HSN HNN hq2 hb02 hq1 hb1 hb2 ha0 c0 c3 c4 c5 c6 K4 A4
      go_wp2_with fail
      refine HG3.out.mono ?_
      rintro e w5 ⟨⟨v5, r5, b5, s5, hga, rfl, ho5⟩ | ⟨hga, -⟩, hb5⟩
      rotate_left
      · rw [HGR.out] at hga; cases hga
      rw [HGR.out] at hga
      injection hga with e1
      injection e1 with e1 e2
      injection e2 with e2 e3
      subst e1
      subst e2
      subst e3
      have HO5 := Lib.hid ho5
      obtain ⟨A5, c5, hv5⟩ := ho5.form
      subst hv5
      obtain ⟨n5, hn5⟩ : ∃ n, n = r.length := ⟨_, rfl⟩
      rw [← hn5] at HO5 ⊢
      clear hn5
      have hk6 := heap_alloc_new w5 (.cells #[.slice A5 n5 c5, .int .u64 (b : Int), .int .u64 (s : Int)] 38)
      have hal : Below w5.heap.size w5 (w5.alloc (.cells #[.slice A5 n5 c5, .int .u64 (b : Int), .int .u64 (s : Int)] 38)) := (Below.refl _ _).alloc (Nat.le_refl _) _
      have z0 := blk_cell hk6 0
      have z1 := blk_cell hk6 1
      have z2 := blk_cell hk6 2
      have f2 := blk_free hk6 2
      simp at z0 z1 z2
      obtain ⟨x, hx⟩ : ∃ x, x = (s + 1) % 18446744073709551616 := ⟨_, rfl⟩
      have hw : IntKind.u64.wrap ((s : Int) + 1) = (x : Int) := by rw [hx, IntKind.wrap_u64]; omega
      have hc5 : w5.cell? ⟨W'.heap.size, 0, none⟩ = some (.string sg) := (Kept.of_below hb5).cell HKC.out
      have hlt5 : W'.heap.size < w5.heap.size := World.block_lt_of_cell? w5 _ hc5
      have hne5 : W'.heap.size ≠ w5.heap.size := Nat.ne_of_lt hlt5
      have hne6 : w5.heap.size ≠ W'.heap.size := fun h => hne5 h.symm
      have HPT : Hid (Calls Tryz.prog 37 #[.pointer (some ⟨y.b, 0, none⟩), .string sg, .agg #[.slice A5 n5 c5, .int .u64 (b : Int), .int .u64 (x : Int)]] (w5.alloc (.cells #[.slice A5 n5 c5, .int .u64 (b : Int), .int .u64 (x : Int)] 38)) fun e w' => e = .returned (.tuple #[]) ∧ Acc W y QR (k + 3) w' ∧ Kept W' w') := Lib.hid (by
        have hbb : Below w5.heap.size w5 (w5.alloc (.cells #[.slice A5 n5 c5, .int .u64 (b : Int), .int .u64 (x : Int)] 38)) := (Below.refl _ _).alloc (Nat.le_refl _) _
        have hb6 := below_chain hb5 hb5.size hbb
        have q := aput_any (HA3.out.up hb6) HNK.out sg HKF.out (.slice A5 n5 c5) r (HO5.out.rd.up (Nat.le_refl _) hbb) HRL.out b x HBL.out (by omega)
        refine q.mono ?_
        rintro e w' ⟨q1, q2, q3⟩
        exact ⟨q1, HAX.out _ (by rw [← hx]; exact q2), HK3.out.trans ((Kept.of_below hb6).trans q3)⟩)
      clear HG3 HGR HO5 ho5 hk6 hal hb5 HA3 HNK HKF HRL HBL HK3 HAX HKC hx
      go_wp2_with fail
      refine HPT.out.mono ?_
      rintro e w7 ⟨rfl, A7, K7⟩
      go_wp2_with fail
      go_ret
      obtain rfl := HQ0.out
      exact ⟨rfl, A7, K7⟩
    · have f1 : (se != 0) = true := by simpa using hs0
      have HR := Lib.hid (HM2.out hs0)
      have hSR : SR = R := HSN.out hs0
      subst hSR
      have HKK := Lib.hid ((Kept.of_below hq2).trans K4)
      have A5 := A4.more (k' := k + 3) (by omega)
      clear HSD2 HM2 HM3 HC HA0 HGP HSN HNN hq2 hb02 hq1 hb1 hb2 ha0 c0 c3 c4 c5 c6 K4 A4
      go_wp2_with fail
      go_ret
      obtain rfl := HR.out
      exact ⟨rfl, A5, HKK.out⟩
end Go.Proofs.YtniclaapiabmdaaGreatDoor
namespace Go.Proofs.YtniclaapiabmdaaGreatDoor
set_option maxRecDepth 100000
open Go Go.RowKit
set_option linter.unusedVariables false

theorem make32 (W : World) : (Instr.makeSlice 27 (.int .i64 32) (.int .i64 32)).run Tryz.prog W = .ok (.slice (some ⟨W.heap.size, 0, none⟩) 32 32) (W.alloc (.cells (bcells (List.replicate 32 0)).toArray 5)) := by
  obtain ⟨i0, hi, hz, hsz, hby⟩ := info_parts Tryz.infoByte
  have h := run_make W 27 5 i0 (.int .u8 0) Tryz.underlying27 hi hz .i64 .i64 32 32 (by omega) (by omega) (by rw [hby]; omega) (by omega)
  rw [hsz] at h
  have e : madeCells (Value.int .u8 0).cells (Int.toNat 32 * 1) = (bcells (List.replicate 32 0)).toArray := by
    rw [show Int.toNat 32 * 1 = 32 from rfl]
    apply Array.ext'
    rw [show (Value.int IntKind.u8 0).cells = #[Value.int .u8 0] from rfl, toList_madeCells_one]
    rfl
  rw [e] at h
  exact h
def zR : List UInt8 := List.replicate 32 0
theorem zR_len : zR.length = 32 := by simp [zR]
def fxR : List Pr := putA [] kAnn zR 0 0
theorem fxA1 : createM [] kAnn zR = (0, fxR) := by
  have h1 : identB kAnn = true := by decide +kernel
  unfold createM
  rw [if_pos h1, if_pos zR_len, if_neg (by simp [getL])]
  rfl
theorem fxA2 : createM fxR kAnn zR = (111, fxR) := by
  have h := create_twice (R := []) (a := kAnn) (r := zR) (by rw [fxA1])
  rw [fxA1] at h
  exact h
theorem fxA3 : getA fxR kAnn = some (zR, 0, 0) := getA_put (by rw [zR_len]; omega) (by omega) (by omega)
theorem fxA4 : getA fxR kBob = none := by
  unfold getA fxR putA
  rw [getL_putL, if_neg (by decide +kernel)]
  rfl
def kC1 : ByteArray := ⟨#[99]⟩
set_option maxHeartbeats 8000000 in
theorem afixed_any (w : World) : Calls Tryz.prog 7 #[] w fun e w' => e = .returned (.bool true) ∧ Below w.heap.size w w' := by
  have HN := Lib.hid (new_any w (.slice none 0 0) [] ⟨none, 0, rfl, Nat.le_refl _, Nat.zero_le _, fun h => absurd h (by simp)⟩ (by simp))
  have hmk := make32
  go_enter Tryz.func7, Tryz.ntmps7
  go_wp2_with fail
  refine HN.out.mono ?_
  rintro e w1 ⟨h1 | ⟨-, y, rfl, hyb, hym, hyn, hly, hri, hp1⟩, hb1⟩
  · exact absurd h1.1 (by decide)
  have A1 := Acc.made hp1 hly hri (by simp)
  obtain ⟨yb, ym, yn, yf⟩ := y
  dsimp only at hyb hym hyn ⊢
  have hyn' : yn = 0 := hyn
  clear hyn
  subst hyn'
  have hW1 := hb1.size
  have HB1 := Lib.hid hb1
  have ho1 := Own.made (B := w1.heap.size) w1 (List.replicate 32 0) (Nat.le_refl _) (by simp [maxLen])
  have A1' := A1.up ((Below.refl _ _).alloc (Nat.le_refl _) (.cells (bcells (List.replicate 32 0)).toArray 5))
  have HM : Hid (Calls Tryz.prog 19 #[.pointer (some ⟨yb, 0, none⟩), .string kAnn, .slice (some ⟨w1.heap.size, 0, none⟩) 32 32] (w1.alloc (.cells (bcells (List.replicate 32 0)).toArray 5)) fun e w' => e = .returned (.int .i64 (createM [] kAnn zR).1) ∧ Acc w1 ⟨yb, ym, 0, yf⟩ (createM [] kAnn zR).2 1 w' ∧ Kept (w1.alloc (.cells (bcells (List.replicate 32 0)).toArray 5)) w') :=
    Lib.hid (acreate_any A1' (show 0 + 0 < maxLen by unfold maxLen; omega) kAnn (by decide +kernel) _ zR ho1.rd)
  rw [fxA1] at HM
  clear HN hb1 hp1 hly hri A1 A1' ho1
  go_wp2_with fail
  refine HM.out.mono ?_
  rintro e w2 ⟨rfl, A2, -⟩
  have ho2 := Own.made (B := w2.heap.size) w2 (List.replicate 32 0) (Nat.le_refl _) (by simp [maxLen])
  have A2' := A2.up ((Below.refl _ _).alloc (Nat.le_refl _) (.cells (bcells (List.replicate 32 0)).toArray 5))
  have HM2 : Hid (Calls Tryz.prog 19 #[.pointer (some ⟨yb, 0, none⟩), .string kAnn, .slice (some ⟨w2.heap.size, 0, none⟩) 32 32] (w2.alloc (.cells (bcells (List.replicate 32 0)).toArray 5)) fun e w' => e = .returned (.int .i64 (createM fxR kAnn zR).1) ∧ Acc w1 ⟨yb, ym, 0, yf⟩ (createM fxR kAnn zR).2 2 w' ∧ Kept (w2.alloc (.cells (bcells (List.replicate 32 0)).toArray 5)) w') :=
    Lib.hid (acreate_any A2' (show 0 + 1 < maxLen by unfold maxLen; omega) kAnn (by decide +kernel) _ zR ho2.rd)
  rw [fxA2] at HM2
  clear HM A2 A2' ho2
  go_wp2_with fail
  refine HM2.out.mono ?_
  rintro e w3 ⟨rfl, A3, -⟩
  replace A3 : Acc w1 ⟨yb, ym, 0, yf⟩ fxR 2 w3 := A3
  have HG := Lib.hid (aget_any A3 kAnn (by decide +kernel))
  have HA3 := Lib.hid A3
  clear HM2 A3 hmk
  go_wp2_with fail
  refine HG.out.mono ?_
  rintro e w4 ⟨⟨v, r, b, s, hga, rfl, ho4⟩ | ⟨hga, -⟩, hb4⟩
  rotate_left
  · rw [fxA3] at hga; cases hga
  have HGA := Lib.hid hga
  rw [fxA3] at hga
  have hrl : r.length = 32 := by
    injection hga with e1
    injection e1 with e1 _
    rw [← e1, zR_len]
  have hs0 : s = 0 := by
    injection hga with e1
    injection e1 with _ e1
    injection e1 with _ e1
    exact e1.symm
  have hs1 : ((s : Int) == 0) = true := by simp [hs0]
  obtain ⟨A, c, rfl⟩ := ho4.form' hrl
  have hk5 := heap_alloc_new w4 (.cells #[.slice A 32 c, .int .u64 (b : Int), .int .u64 (s : Int)] 38)
  have hb5 := hb4.alloc hb4.size (.cells #[.slice A 32 c, .int .u64 (b : Int), .int .u64 (s : Int)] 38)
  have z0 := blk_cell hk5 0
  have z1 := blk_cell hk5 1
  have z2 := blk_cell hk5 2
  simp at z0 z1 z2
  have A5 := HA3.out.up hb5
  have HAn : Hid (Calls Tryz.prog 10 #[.pointer (some ⟨yb, 0, none⟩), .string kC1, .agg #[.string kBob, .int .u64 0, .int .u64 0, .int .u64 0, .int .u64 0, .int .u64 0, .int .u64 0, .slice none 0 0, .slice none 0 0]] (w4.alloc (.cells #[.slice A 32 c, .int .u64 (b : Int), .int .u64 (s : Int)] 38)) fun e w' => e = .returned (.int .i64 80) ∧ Below (w4.alloc (.cells #[.slice A 32 c, .int .u64 (b : Int), .int .u64 (s : Int)] 38)).heap.size (w4.alloc (.cells #[.slice A 32 c, .int .u64 (b : Int), .int .u64 (s : Int)] 38)) w') :=
    Lib.hid (aante_early A5 kC1 kBob (by decide +kernel) 0 80 (Or.inl ⟨fxA4, rfl⟩))
  have HCk : Hid (∀ Z, Below (w4.alloc (.cells #[.slice A 32 c, .int .u64 (b : Int), .int .u64 (s : Int)] 38)).heap.size (w4.alloc (.cells #[.slice A 32 c, .int .u64 (b : Int), .int .u64 (s : Int)] 38)) Z → Calls Tryz.prog 9 #[.pointer (some ⟨yb, 0, none⟩), .string kC1, .agg #[.string kAnn, .int .u64 1, .int .u64 0, .int .u64 0, .int .u64 0, .int .u64 0, .int .u64 0, .slice none 0 0, .slice none 0 0]] Z fun e w' => e = .returned (.int .i64 81) ∧ Below Z.heap.size Z w') :=
    Lib.hid fun Z hz => acheck_early (A5.up hz) kC1 kAnn (by decide +kernel) 1 81 (Or.inr ⟨⟨r, b, s, HGA.out, by omega⟩, rfl⟩)
  have HF : Hid (∀ Z, Below (w4.alloc (.cells #[.slice A 32 c, .int .u64 (b : Int), .int .u64 (s : Int)] 38)).heap.size (w4.alloc (.cells #[.slice A 32 c, .int .u64 (b : Int), .int .u64 (s : Int)] 38)) Z → Below w.heap.size w Z) := Lib.hid fun Z hz => HB1.out.trans ((A5.up hz).below hym hW1)
  clear HG HA3 HGA hga hrl hs0 ho4 hk5 hb4 hb5 A5 HB1 hyb hym
  go_wp2_with fail
  generalize w4.alloc (.cells #[.slice A 32 c, .int .u64 (b : Int), .int .u64 (s : Int)] 38) = w5 at *
  refine HAn.out.mono ?_
  rintro e w6 ⟨rfl, hb6⟩
  have HC2 := Lib.hid (HCk.out _ hb6)
  clear HAn HCk
  go_wp2_with fail
  refine HC2.out.mono ?_
  rintro e w7 ⟨rfl, hb7⟩
  have hq := HF.out _ (below_chain hb6 hb6.size hb7)
  go_wp2_with fail
  go_ret
  exact ⟨rfl, hq⟩
end Go.Proofs.YtniclaapiabmdaaGreatDoor
namespace Go.Proofs.YtniclaapiabmdaaGreatDoor
set_option maxRecDepth 100000
open Go Go.RowKit
section
variable {P : Program} {ops : Array Oper} {Q : Exit → Act → World → Prop} {md : Region.Mode} {S S' : World → Prop}
theorem wpAnyH_stronger (h : ∀ w, S' w → S w) : ∀ (fuel : Nat) (listed : Array Bool) (a : Act) (w : World), wpAnyH P md ops Q S' fuel listed a w → wpAnyH P md ops Q S fuel listed a w
  | 0, _, _, _, H => H
  | fuel + 1, _, _, _, H => ⟨H.1, fun i hi => wpOp_mono (fun a' w' h' => ⟨h _ h'.1, wpAnyH_stronger h fuel _ a' w' h'.2⟩) (H.2 i hi)⟩
end
/-- what stands in the world w reads so from here on -/
def BelS (w : World) : World → Prop := fun W => Below w.heap.size w W
theorem BelS.refl (w : World) : BelS w w := Below.refl _ _
end Go.Proofs.YtniclaapiabmdaaGreatDoor
namespace Go.Proofs.YtniclaapiabmdaaGreatDoor
set_option maxRecDepth 100000
open Go.ChangeShapes Go.WideShapes Go.ChangeAt Go.RowKit Go.Deep

section
variable {H : Type} {enc : TypeId × Value → H} {P : Program} {w : World}

theorem bulk_pos (d : DataW H) : 1 ≤ Rows.uptoBulk d := by
  cases d with
  | lit l => cases l <;> simp [Rows.uptoBulk]
  | _ => simp [Rows.uptoBulk]
theorem bulk_len (l : List (DataW H)) : l.length ≤ Rows.uptoBulkAll l := by
  induction l with
  | nil => simp
  | cons x r ih => have := bulk_pos x; simp only [Rows.uptoBulkAll, List.length_cons]; omega
theorem bulk_bound {l : List (DataW H)} (hk : Rows.uptoSmall H l = true) : Rows.uptoBulkAll l ≤ 1048576 := of_decide_eq_true hk

/-- a byte that an integer in range is -/
def byteOf (z : Int) : UInt8 := UInt8.ofNat z.toNat
theorem bval_byteOf {z : Int} (h : (Lit.int .u8 z).wf = true) : bval (byteOf z) = .int .u8 z := by
  have h2 : 0 ≤ z ∧ z ≤ 255 := by simpa [Lit.wf, IntKind.min, IntKind.max, IntKind.signed, IntKind.bits] using h
  unfold bval byteOf
  congr 1
  rw [UInt8.toNat_ofNat']
  omega

theorem addr_add_none (b o i : Nat) : (⟨b, o, none⟩ : Addr).add i = ⟨b, o + i, none⟩ := by unfold Addr.add; split <;> simp_all

theorem open_bytes {t : TypeId} {fuel : Nat} {v : Value} {x : DataW H × List MemPlace} (ht : P.underlying t = some (.slice 5)) (he : P.underlying 5 = some (.int .u8)) (hc : P.cellsOf 5 = 1)
    (h : DataW.trod enc P w 0 (fun _ => true) true fuel t [v] = some x) : ∃ l : List UInt8, Rd w w.heap.size v l ∧ l.length ≤ Rows.uptoBulk x.1 := by
  rcases open_ints ht he hc h with ⟨hcs, rfl⟩ | ⟨a, len, cap, zs, hcs, _, hl, hm, hz, hx, hcell, hwz⟩
  · simp at hcs
    subst hcs
    exact ⟨[], Rd.nil _ _, by simp⟩
  · simp at hcs
    subst hcs
    simp only [if_true] at hz
    have hlen : ((zs.take len).map byteOf).length = len := by simp; omega
    refine ⟨(zs.take len).map byteOf, ⟨some a, cap, by rw [hlen], by rw [hlen]; exact hl, hm, fun h0 => ?_⟩, ?_⟩
    · rw [hlen] at h0
      have hc0 := hcell 0 (by omega)
      obtain ⟨b, o, spot⟩ := a
      have hspot : spot = none := by simpa [Addr.add] using World.cell?_spot hc0
      subst hspot
      refine ⟨b, o, rfl, ?_, fun j hj => ?_⟩
      · have := World.block_lt_of_cell? w _ hc0
        simpa [Addr.add] using this
      · rw [hlen] at hj
        have hcj := hcell j (by omega)
        rw [addr_add_none] at hcj
        rw [hcj]
        have hw := hwz (zs.getD j 0) (by rw [List.getD_eq_getElem?_getD, List.getElem?_eq_getElem (by omega)]; exact List.getElem_mem _)
        rw [List.getElem_map, List.getElem_take, bval_byteOf]
        · simp [List.getD_eq_getElem?_getD, List.getElem?_eq_getElem (show j < zs.length by omega)]
        · simpa [List.getD_eq_getElem?_getD, List.getElem?_eq_getElem (show j < zs.length by omega)] using hw
    · rw [hx, hlen]
      simp only [Rows.uptoBulk]
      have := bulk_len (lits (H := H) .u8 (zs.take len))
      simp [lits] at this ⊢
      omega

end
end Go.Proofs.YtniclaapiabmdaaGreatDoor
namespace Go.Proofs.YtniclaapiabmdaaGreatDoor
set_option maxRecDepth 100000
open Go.ChangeShapes Go.WideShapes Go.ChangeAt Go.RowKit Go.Deep

theorem str_bulk {H : Type} {d : DataW H} {a : ByteArray} (e : d = .lit (.string a.data.toList)) : a.size ≤ Rows.uptoBulk d := by
  have ea : a.data.toList.length = a.size := by rw [Array.length_toList]; rfl
  rw [e]
  simp only [Rows.uptoBulk, ea]
  omega
end Go.Proofs.YtniclaapiabmdaaGreatDoor
namespace Go.Proofs.YtniclaapiabmdaaGreatDoor
set_option maxRecDepth 100000
open Go Go.ChangeShapes Go.WideShapes Go.ChangeAt Go.RowKit Go.Deep
set_option linter.unusedVariables false

theorem list2p {α : Type} {l : List α} (h : l.length = 2) : ∃ a b, l = [a, b] := by
  match l, h with
  | [a, b], _ => exact ⟨a, b, rfl⟩
theorem Tryz.pairFields : ∃ f0 f1 : Field, Tryz.prog.underlying 48 = some (.struct #[f0, f1]) ∧ f0.type = 9 ∧ f1.type = 27 ∧ Hid (oneCellFields Tryz.prog #[f0, f1] = true) :=
  ⟨_, _, Tryz.underlying48, rfl, rfl, (by kernel_rfl : oneCellFields Tryz.prog _ = true)⟩
instance : Inhabited (ByteArray × List UInt8) := ⟨(⟨#[]⟩, [])⟩
theorem addP_none (b o k : Nat) : ((⟨b, o, none⟩ : Addr).add k) = ⟨b, o + k, none⟩ := by simp [Addr.add]
theorem addP_zero (a : Addr) : a.add 0 = a := by
  obtain ⟨b, o, s⟩ := a
  cases s <;> simp [Addr.add]
theorem addP_none' (b o k : Nat) : ((⟨b, o, none⟩ : Addr).add k) = ⟨b, o + k, none⟩ := by simp [Addr.add]

theorem bulk_sumP {H : Type} (n : Nat) (D : Nat → DataW H) (L : Nat → ByteArray × List UInt8) (h : ∀ i, i < n → (L i).2.length ≤ Rows.uptoBulk (D i)) : (((List.range n).map L).map fun f => f.2.length).sum ≤ Rows.uptoBulkAll ((List.range n).map D) := by
  have : ∀ (l : List Nat), (∀ i ∈ l, (L i).2.length ≤ Rows.uptoBulk (D i)) → ((l.map L).map fun f => f.2.length).sum ≤ Rows.uptoBulkAll (l.map D) := by
    intro l
    induction l with
    | nil => intro _; simp
    | cons x l ih =>
      intro hl
      have h1 := ih fun i hi => hl i (by simp [hi])
      have h2 := hl x (by simp)
      simp only [List.map_cons, List.sum_cons, Rows.uptoBulkAll]
      omega
  exact this _ fun i hi => h i (List.mem_range.1 hi)

theorem open_pairs_arg {H : Type} {enc : TypeId × Value → H} {W : World} {v : Value} {d : DataW H} {p : List MemPlace} {base : Nat} (hv : Value.okWide Tryz.prog W .any base 22 v)
    (h : DataW.Trod enc Tryz.prog W 0 (fun _ => true) true 22 v d p) : ∃ fs : List (ByteArray × List UInt8), RdP W W.heap.size v fs ∧ (fs.map fun f => f.2.length).sum ≤ Rows.uptoBulk d ∧ fs.length ≤ Rows.uptoBulk d ∧ ∀ f ∈ fs, f.1.size ≤ maxLen := by
  obtain ⟨fuel, hf⟩ := h
  obtain ⟨b0, c0, k0, rfl⟩ := okWide_slice Tryz.underlying22 hv
  rcases open_slice Tryz.underlying22 hf with ⟨hcs, hx⟩ | ⟨a, len, cap, m, n, D, Pl, hcs, _, hl, hcm, hm, hx, hi⟩
  · simp [Value.cells] at hcs
    obtain ⟨rfl, rfl, rfl⟩ := hcs
    exact ⟨[], ⟨none, 0, rfl, by simp, by simp [maxLen], fun h => absurd h (by simp)⟩, by simp, by simp, by simp⟩
  · simp [Value.cells] at hcs
    obtain ⟨rfl, rfl, rfl⟩ := hcs
    simp only [if_true] at hm
    obtain rfl : m = k0 := hm
    simp only [Prod.mk.injEq] at hx
    have hall : ∀ i, i < m → ∃ f : ByteArray × List UInt8, ∃ x : Value, W.cell? (a.add (i * 2)) = some (.string f.1) ∧ W.cell? ((a.add (i * 2)).add 1) = some x ∧ Rd W W.heap.size x f.2 ∧ f.2.length ≤ Rows.uptoBulk (D i) ∧ f.1.size ≤ maxLen := fun i hi2 => by
      obtain ⟨cs, hc, ht⟩ := hi i hi2
      have h1 : Tryz.prog.cellsOf 48 = 2 := by kernel_rfl
      rw [h1] at hc
      obtain ⟨_, hcl, hat⟩ := World.cells?_some hc
      obtain ⟨x0, x1, rfl⟩ := list2p hcl
      obtain ⟨f0, f1, hu, e0, e1, ho⟩ := Tryz.pairFields
      obtain ⟨xs, n', _, hy, _, hlen, hg⟩ := DataW.trod_struct hu ht
      obtain ⟨y0, y1, rfl⟩ := list2p hlen
      have fld : ∀ (j : Nat) (f : Field), (#[f0, f1] : Array Field)[j]? = some f → f.offset = j ∧ Tryz.prog.cellsOf f.type = 1 := hone_of ho.out
      have g0 := hg 0 f0 rfl
      have g1 := hg 1 f1 rfl
      rw [(fld 0 f0 rfl).1, (fld 0 f0 rfl).2, e0] at g0
      rw [(fld 1 f1 rfl).1, (fld 1 f1 rfl).2, e1] at g1
      obtain ⟨s, q0, _, hs⟩ := DataW.trod_string Tryz.underlying9 g0
      obtain ⟨l, hr, hb⟩ := open_bytes (x := y1) Tryz.underlying27 Tryz.underlying5 (by kernel_rfl) g1
      simp at q0
      subst q0
      have a0 := hat 0 (by omega)
      have a1 := hat 1 (by omega)
      have ez : ∀ x : Addr, x.add 0 = x := fun x => addP_zero x
      rw [ez] at a0
      simp at a0 a1
      refine ⟨(s, l), x1, a0, a1, hr, ?_, hs⟩
      simp only [Prod.mk.injEq] at hy
      rw [hy.1]
      simp only [List.map_cons, List.map_nil, Rows.uptoBulk, Rows.uptoBulkAll]
      omega
    obtain ⟨L, hL⟩ := choose_lt (α := ByteArray × List UInt8) (p := fun i f => ∃ x : Value, W.cell? (a.add (i * 2)) = some (.string f.1) ∧ W.cell? ((a.add (i * 2)).add 1) = some x ∧ Rd W W.heap.size x f.2 ∧ f.2.length ≤ Rows.uptoBulk (D i) ∧ f.1.size ≤ maxLen) hall
    have hs := bulk_sumP (H := H) c0 D L fun i hi2 => by obtain ⟨_, _, _, _, h, _⟩ := hL i (by omega); exact h
    refine ⟨(List.range c0).map L, ⟨some a, m, by simp, by simpa using hl, hcm, fun h0 => ?_⟩, ?_, ?_, ?_⟩
    · simp at h0
      obtain ⟨x0, q0, _⟩ := hL 0 (by omega)
      obtain ⟨b, o, spot⟩ := a
      have hspot : spot = none := by simpa [Addr.add] using World.cell?_spot q0
      subst hspot
      refine ⟨b, o, rfl, ?_, fun j hj => ?_⟩
      · have := World.block_lt_of_cell? W _ q0
        simpa [Addr.add] using this
      · simp at hj
        obtain ⟨x, qx, qy, hr, _⟩ := hL j (by omega)
        rw [addP_none', addP_none'] at qy
        rw [addP_none'] at qx
        exact ⟨by simpa using qx, x, qy, by simpa using hr⟩
    · rw [hx.1]
      simp only [Rows.uptoBulk]
      omega
    · rw [hx.1]
      have := bulk_len ((List.range c0).map D)
      simp only [Rows.uptoBulk]
      simp at this ⊢
      omega
    · intro f hf
      obtain ⟨i, hi2, rfl⟩ := List.mem_map.1 hf
      obtain ⟨_, _, _, _, _, h⟩ := hL i (by have := List.mem_range.1 hi2; omega)
      exact h
end Go.Proofs.YtniclaapiabmdaaGreatDoor
namespace Go.Proofs.YtniclaapiabmdaaGreatDoor
set_option maxRecDepth 100000
open Go Go.ChangeShapes Go.WideShapes Go.ChangeAt Go.RowKit Go.Deep
set_option linter.unusedVariables false

section
variable {H : Type} {enc : TypeId × Value → H} {W : World} {fuel : Nat}
instance : Inhabited Lf := ⟨⟨0, ⟨#[]⟩, [], []⟩⟩
theorem list4p {α : Type} {l : List α} (h : l.length = 4) : ∃ a b c d, l = [a, b, c, d] := by
  match l, h with
  | [a, b, c, d], _ => exact ⟨a, b, c, d, rfl⟩
theorem open_path {v : Value} {x : DataW H × List MemPlace} (h : DataW.trod enc Tryz.prog W 0 (fun _ => true) true fuel 107 [v] = some x) : ∃ ls : List (List UInt8), PathV W W.heap.size v ls := by
  rcases open_slice1 Tryz.underlying107 (by kernel_rfl) h with ⟨hcs, _⟩ | ⟨a, len, cap, m, n, V, D, Pl, hcs, _, hl, hcm, hm, hx, hi⟩
  · simp at hcs
    subst hcs
    exact ⟨[], PathV.none_ none 0 (by simp [maxLen])⟩
  · simp at hcs
    subst hcs
    simp only [if_true] at hm
    subst hm
    have hall : ∀ i, i < m → ∃ l : List UInt8, Rd W W.heap.size (V i) l := fun i hi2 => by
      obtain ⟨l, hr, _⟩ := open_bytes Tryz.underlying27 Tryz.underlying5 (by kernel_rfl) (hi i hi2).2
      exact ⟨l, hr⟩
    obtain ⟨L, hL⟩ := choose_lt (α := List UInt8) (p := fun i l => Rd W W.heap.size (V i) l) hall
    refine ⟨(List.range len).map L, some a, m, by simp, by simpa using hl, hcm, fun h0 => ?_⟩
    simp at h0
    have q0 := (hi 0 (by omega)).1
    obtain ⟨b, o, spot⟩ := a
    have hspot : spot = none := by simpa [Addr.add] using World.cell?_spot q0
    subst hspot
    refine ⟨b, o, rfl, ?_, fun j hj => ?_⟩
    · have := World.block_lt_of_cell? W _ q0
      simpa [Addr.add] using this
    · simp at hj
      have qj := (hi j (by omega)).1
      rw [addP_none] at qj
      exact ⟨V j, qj, by simpa using hL j (by omega)⟩
theorem Tryz.leafFields : ∃ f0 f1 f2 f3 : Field, Tryz.prog.underlying 232 = some (.struct #[f0, f1, f2, f3]) ∧ f0.type = 3 ∧ f1.type = 9 ∧ f2.type = 27 ∧ f3.type = 107 ∧ Hid (oneCellFields Tryz.prog #[f0, f1, f2, f3] = true) :=
  ⟨_, _, _, _, Tryz.underlying232, rfl, rfl, rfl, rfl, (by kernel_rfl : oneCellFields Tryz.prog _ = true)⟩
theorem open_leaf {cs : List Value} {x : DataW H × List MemPlace} (h : DataW.trod enc Tryz.prog W 0 (fun _ => true) true fuel 232 cs = some x) : ∃ (l : Lf) (sv pv : Value), cs = [.int .i64 l.at_, .string l.key, sv, pv] ∧ LeafV W W.heap.size (.agg #[.int .i64 l.at_, .string l.key, sv, pv]) l := by
  obtain ⟨f0, f1, f2, f3, hu, e0, e1, e2, e3, hone⟩ := Tryz.leafFields
  have hC : Tryz.prog.cellsOf 232 = 4 := by kernel_rfl
  obtain ⟨xs, n', _, hy, hcl, hlen, hg⟩ := DataW.trod_struct hu h
  obtain ⟨x0, x1, x2, x3, rfl⟩ := list4p (hcl.trans hC)
  obtain ⟨y0, y1, y2, y3, rfl⟩ := list4p hlen
  have fld : ∀ (j : Nat) (f : Field), (#[f0, f1, f2, f3] : Array Field)[j]? = some f → f.offset = j ∧ Tryz.prog.cellsOf f.type = 1 := hone_of hone.out
  have g0 := hg 0 f0 rfl
  have g1 := hg 1 f1 rfl
  have g2 := hg 2 f2 rfl
  have g3 := hg 3 f3 rfl
  rw [(fld 0 f0 rfl).1, (fld 0 f0 rfl).2, e0] at g0
  rw [(fld 1 f1 rfl).1, (fld 1 f1 rfl).2, e1] at g1
  rw [(fld 2 f2 rfl).1, (fld 2 f2 rfl).2, e2] at g2
  rw [(fld 3 f3 rfl).1, (fld 3 f3 rfl).2, e3] at g3
  obtain ⟨z, ez, _, hw⟩ := DataW.trod_int Tryz.underlying3 g0
  obtain ⟨s, es, _, hs⟩ := DataW.trod_string Tryz.underlying9 g1
  obtain ⟨l, hl, _⟩ := open_bytes (v := x2) Tryz.underlying27 Tryz.underlying5 (by kernel_rfl) g2
  obtain ⟨p, hp⟩ := open_path (v := x3) g3
  simp at ez es
  subst ez; subst es
  have b0 : -9223372036854775808 ≤ z ∧ z ≤ 9223372036854775807 := by simpa [Lit.wf, IntKind.min, IntKind.max, IntKind.signed, IntKind.bits] using hw
  exact ⟨⟨z, s, l, p⟩, x2, x3, rfl, x2, x3, rfl, hl, hp, hs, b0.1, b0.2⟩
theorem open_leaves {v : Value} {x : DataW H × List MemPlace} (h : DataW.trod enc Tryz.prog W 0 (fun _ => true) true fuel 168 [v] = some x) : ∃ ls : List Lf, LeavesV W W.heap.size v ls := by
  rcases open_slice Tryz.underlying168 h with ⟨hcs, _⟩ | ⟨a, len, cap, m, n, D, Pl, hcs, _, hl, hcm, hm, hx, hi⟩
  · simp at hcs
    subst hcs
    exact ⟨[], none, 0, rfl, by simp, by simp [maxLen], fun h => absurd h (by simp)⟩
  · simp at hcs
    subst hcs
    simp only [if_true] at hm
    subst hm
    have hall : ∀ i, i < m → ∃ l : Lf, ∃ sv pv : Value, W.cell? (a.add (i * 4)) = some (.int .i64 l.at_) ∧ W.cell? ((a.add (i * 4)).add 1) = some (.string l.key) ∧ W.cell? ((a.add (i * 4)).add 2) = some sv ∧ W.cell? ((a.add (i * 4)).add 3) = some pv ∧ LeafV W W.heap.size (.agg #[.int .i64 l.at_, .string l.key, sv, pv]) l := fun i hi2 => by
      obtain ⟨cs, hc, ht⟩ := hi i hi2
      have h1 : Tryz.prog.cellsOf 232 = 4 := by kernel_rfl
      rw [h1] at hc
      obtain ⟨_, hcl, hat⟩ := World.cells?_some hc
      obtain ⟨l, sv, pv, rfl, hlv⟩ := open_leaf ht
      have a0 := hat 0 (by omega)
      have a1 := hat 1 (by omega)
      have a2 := hat 2 (by omega)
      have a3 := hat 3 (by omega)
      rw [addP_zero] at a0
      simp at a0 a1 a2 a3
      exact ⟨l, sv, pv, a0, a1, a2, a3, hlv⟩
    obtain ⟨L, hL⟩ := choose_lt (α := Lf) (p := fun i l => ∃ sv pv : Value, W.cell? (a.add (i * 4)) = some (.int .i64 l.at_) ∧ W.cell? ((a.add (i * 4)).add 1) = some (.string l.key) ∧ W.cell? ((a.add (i * 4)).add 2) = some sv ∧ W.cell? ((a.add (i * 4)).add 3) = some pv ∧ LeafV W W.heap.size (.agg #[.int .i64 l.at_, .string l.key, sv, pv]) l) hall
    refine ⟨(List.range len).map L, some a, m, by simp, by simpa using hl, hcm, fun h0 => ?_⟩
    simp at h0
    obtain ⟨_, _, q0, _⟩ := hL 0 (by omega)
    obtain ⟨b, o, spot⟩ := a
    have hspot : spot = none := by simpa [Addr.add] using World.cell?_spot q0
    subst hspot
    refine ⟨b, o, rfl, ?_, fun j hj => ?_⟩
    · have := World.block_lt_of_cell? W _ q0
      simpa [Addr.add] using this
    · simp at hj
      obtain ⟨sv, pv, a0, a1, a2, a3, hlv⟩ := hL j (by omega)
      simp only [addP_none] at a0 a1 a2 a3
      have e : ((List.range len).map L)[j]'(by simpa using hj) = L j := by simp
      rw [e]
      exact ⟨sv, pv, a0, a1, a2, a3, hlv⟩
end
end Go.Proofs.YtniclaapiabmdaaGreatDoor
namespace Go.Proofs.YtniclaapiabmdaaGreatDoor
set_option maxRecDepth 100000
open Go Go.ChangeShapes Go.WideShapes Go.ChangeAt Go.RowKit Go.Deep
set_option linter.unusedVariables false

theorem u64_natG {c : Value} {H : Type} {enc : TypeId × Value → H} {W : World} {n : Nat} {y : DataW H × List MemPlace}
    (h : DataW.trod enc Tryz.prog W 0 (fun _ => true) true n 23 [c] = some y) : ∃ k : Nat, c = .int .u64 (k : Int) ∧ k < 18446744073709551616 := by
  obtain ⟨z, hc, _, hw⟩ := DataW.trod_int Tryz.underlying23 h
  have h2 : 0 ≤ z ∧ z ≤ 18446744073709551615 := by simpa [Lit.wf, IntKind.min, IntKind.max, IntKind.signed, IntKind.bits] using hw
  obtain ⟨k, rfl⟩ := Int.eq_ofNat_of_zero_le h2.1
  refine ⟨k, by simpa using hc, by omega⟩
theorem trod_u4G {H : Type} {enc : TypeId × Value → H} {W : World} {n : Nat} {c0 c1 c2 c3 : Value} {y : DataW H × List MemPlace}
    (h : DataW.trod enc Tryz.prog W 0 (fun _ => true) true n 25 [c0, c1, c2, c3] = some y) : ∃ x : U4, c0 = .int .u64 (x.a : Int) ∧ c1 = .int .u64 (x.b : Int) ∧ c2 = .int .u64 (x.c : Int) ∧ c3 = .int .u64 (x.d : Int) ∧ x.ok := by
  obtain ⟨y0, y1, y2, y3, n, _, h0, h1, h2, h3⟩ := trod_array4 Tryz.underlying25 (by kernel_rfl) h
  obtain ⟨k0, rfl, b0⟩ := u64_natG h0
  obtain ⟨k1, rfl, b1⟩ := u64_natG h1
  obtain ⟨k2, rfl, b2⟩ := u64_natG h2
  obtain ⟨k3, rfl, b3⟩ := u64_natG h3
  exact ⟨⟨k0, k1, k2, k3⟩, rfl, rfl, rfl, rfl, b0, b1, b2, b3⟩
theorem one_intG : Tryz.prog.cellsOf 3 = 1 := by kernel_rfl
theorem one_stringG : Tryz.prog.cellsOf 9 = 1 := by kernel_rfl
theorem one_u64G : Tryz.prog.cellsOf 23 = 1 := by kernel_rfl
theorem one_boolG : Tryz.prog.cellsOf 4 = 1 := by kernel_rfl
theorem one_bytesG : Tryz.prog.cellsOf 27 = 1 := by kernel_rfl
theorem four_uG : Tryz.prog.cellsOf 25 = 4 := by kernel_rfl
end Go.Proofs.YtniclaapiabmdaaGreatDoor
namespace Go.Proofs.YtniclaapiabmdaaGreatDoor
set_option maxRecDepth 100000
open Go Go.ChangeShapes Go.WideShapes Go.ChangeAt Go.RowKit Go.Deep
set_option linter.unusedVariables false

end Go.Proofs.YtniclaapiabmdaaGreatDoor
namespace Go.Proofs.YtniclaapiabmdaaGreatDoor
set_option maxRecDepth 100000
open Go Go.ChangeShapes Go.WideShapes Go.ChangeAt Go.RowKit Go.Deep
set_option linter.unusedVariables false

end Go.Proofs.YtniclaapiabmdaaGreatDoor
namespace Go.Proofs.YtniclaapiabmdaaGreatDoor
set_option maxRecDepth 100000
open Go Go.ChangeShapes Go.WideShapes Go.ChangeAt Go.RowKit Go.Deep
set_option linter.unusedVariables false

end Go.Proofs.YtniclaapiabmdaaGreatDoor
namespace Go.Proofs.YtniclaapiabmdaaGreatDoor
set_option maxRecDepth 100000
open Go Go.RowKit Go.ChangeShapes Go.WideShapes
set_option linter.unusedVariables false

end Go.Proofs.YtniclaapiabmdaaGreatDoor
