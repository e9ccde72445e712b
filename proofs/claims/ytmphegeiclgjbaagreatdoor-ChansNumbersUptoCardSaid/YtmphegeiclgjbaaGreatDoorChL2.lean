/- The law: a channel begins with the numbers 1, and no handshake and no closing touches them. -/
import Derived.Test.YtmphegeiclgjbaaGreatDoorChE
import Derived.Test.YtmphegeiclgjbaaGreatDoorM24
import Derived.Test.YtmphegeiclgjbaaGreatDoorM16
namespace Go.Proofs.YtmphegeiclgjbaaGreatDoor
set_option maxRecDepth 100000
open Go Go.RowKit
set_option linter.unusedVariables false
set_option maxHeartbeats 64000000 in
theorem chnumbers_law (w : World) (v1 v2 v3 : Value) (ps1 ps2 : List Pr) (xs : List StepV) (h1 : RdP w w.heap.size v1 ps1) (h2 : RdP w w.heap.size v2 ps2) (n1 : ∀ p ∈ ps1, p.1.size ≤ maxLen) (n2 : ∀ p ∈ ps2, p.1.size ≤ maxLen) (l1 : ps1.length ≤ 2000000) (l2 : ps2.length ≤ 2000000)
    (hx : RdSt w v3 xs) (hf : ∀ x ∈ xs, x.fine) (lx : xs.length ≤ 2000000) (hT : Pows w) (fr : TypeId × Nat × Nat) (hk : w.heap[0]? = some (.cells kVals fr.1 fr.2)) :
    Calls Tryz.prog 10 #[v1, v2, v3] w fun e w' => e = .returned (.bool true) ∧ Below w.heap.size w w' := by
  have HS := Lib.hid (chstores_any w v1 v2 ps1 ps2 h1 h2 n1 n2 l1 l2)
  have HFX : Hid (∀ Z, Below w.heap.size w Z → Calls Tryz.prog 38 #[] Z fun e w' => e = .returned (.bool true) ∧ Below Z.heap.size Z w') := Lib.hid fun Z hz => chfixed_any Z
  have HX := Lib.hid (fun (Z : World) (hz : Kept w Z) => hx.keptM hz)
  have HFI := Lib.hid hf
  have HTB : Hid (∀ Z, Kept w Z → Pows Z ∧ Z.heap[0]? = some (.cells kVals fr.1 fr.2)) := Lib.hid fun Z hz => ⟨hT.kept hz, hz.blockP hk⟩
  obtain ⟨A1, c1, rfl⟩ : ∃ A c, v1 = .slice A ps1.length c := by obtain ⟨A, c, h, _⟩ := h1; exact ⟨A, c, h⟩
  obtain ⟨A2, c2, rfl⟩ : ∃ A c, v2 = .slice A ps2.length c := by obtain ⟨A, c, h, _⟩ := h2; exact ⟨A, c, h⟩
  obtain ⟨A3, c3, rfl⟩ : ∃ A c, v3 = .slice A xs.length c := by obtain ⟨A, c, h, _⟩ := hx; exact ⟨A, c, h⟩
  obtain ⟨n, hn⟩ : ∃ n, n = xs.length := ⟨_, rfl⟩
  rw [← hn] at HX ⊢
  have HN : Hid (n = xs.length ∧ n ≤ 2000000) := Lib.hid ⟨hn, by rw [hn]; exact lx⟩
  have HLL := Lib.hid (And.intro l1 l2)
  clear h1 h2 n1 n2 l1 l2 hx hf lx hT hk hn
  go_enter Tryz.func10, Tryz.ntmps10
  go_wp2_with fail
  refine HS.out.mono ?_
  rintro e w1 ⟨p1, p2, ok, rfl, hb1, hok⟩
  have HBL : Hid (∀ Z, Z = w1.alloc (.cells #[.pointer p1, .pointer p2] 25) → Below w.heap.size w Z) := Lib.hid fun Z e => by rw [e]; exact hb1.trans (((Below.refl _ _).alloc (Nat.le_refl _) _).mono hb1.size)
  have HUP : Hid (∀ (Z : World) (b m b' m' : Nat) (R R' : List Pr) (N : Nat), Z = w1.alloc (.cells #[.pointer p1, .pointer p2] 25) → Sts w b m b' m' R R' N w1 → Sts w b m b' m' R R' N Z) := Lib.hid fun Z b m b' m' R R' N e h => by rw [e]; exact h.up ((Below.refl _ _).alloc (Nat.le_refl _) _)
  have HRG := Lib.hid (heap_alloc_new w1 (.cells #[.pointer p1, .pointer p2] 25))
  have HOK := Lib.hid hok
  clear HS hb1 hok
  go_wp2_with fail
  generalize w1.alloc (.cells #[.pointer p1, .pointer p2] 25) = wB at *
  generalize w1.heap.size = g7 at *
  have hqB := HBL.out _ rfl
  refine (HFX.out _ hqB).mono ?_
  rintro e w4 ⟨rfl, hb4⟩
  have hq4 : Below w.heap.size w w4 := hqB.trans (hb4.mono hqB.size)
  cases ok with
  | false =>
    clear HBL HUP HRG HOK hqB hb4
    go_wp2_with fail
    refine (HFX.out _ hq4).mono ?_
    rintro e w5 ⟨rfl, hb5⟩
    have hq5 : Below w.heap.size w w5 := hq4.trans (hb5.mono hq4.size)
    clear hq4 hb5
    go_wp2_with fail
    go_ret
    exact ⟨rfl, hq5⟩
  | true =>
    obtain ⟨b1, m1, b2, m2, rfl, rfl, hst, hn1, hn2⟩ := HOK.out rfl
    have HL : Hid (LSP w b1 m1 b2 m2 g7 2000000 (fun R => ChN R 0 ∧ R.length ≤ 2000000 + 3 * 0) w4) := Lib.hid (by
      have hs := (HUP.out _ _ _ _ _ _ _ _ rfl hst).up hb4
      have hk4 := Kept.of_belowX hb4
      exact ⟨⟨_, _, ⟨ChN.start hs.rise hn1, HLL.out.1⟩, ⟨ChN.start hs.swap.rise hn2, HLL.out.2⟩, hs⟩, hk4.cell (blk_cell HRG.out 0), hk4.cell (blk_cell HRG.out 1)⟩)
    clear HLL HBL HUP HRG HOK hqB hb4 hst hn1 hn2 hq4 HFX
    go_wp2_with fail
    have HON : Hid (∀ Z : World, Calls Tryz.prog 42 #[.slice none 0 0, .int .u64 1] Z fun e w' => ∃ v', e = .returned v' ∧ Own w' Z.heap.size v' (be 1 8) ∧ Below Z.heap.size Z w') := Lib.hid fun Z => by
      have := N_any (.slice none 0 0) [] 1 Z (Rd.nil _ _) (by decide) (by simp)
      rwa [List.nil_append] at this
    obtain ⟨ONE, hONE⟩ : ∃ l, l = be 1 8 := ⟨_, rfl⟩
    rw [← hONE] at HON
    have HE1 := Lib.hid hONE
    clear hONE
    refine (HON.out _).mono ?_
    rintro e wn ⟨v1, rfl, hon, hbn⟩
    have HRO := Lib.hid (fun (Z : World) (hz : Kept wn Z) => hz.rd hon.rd)
    obtain ⟨A9, c9, rfl⟩ := hon.form
    have HLN : Hid (LSP w b1 m1 b2 m2 g7 2000000 (fun R => ChN R 0 ∧ R.length ≤ 2000000 + 3 * 0) wn) := Lib.hid (by
      obtain ⟨⟨R1, R2, p1, p2, hs⟩, hx1, hy1⟩ := HL.out
      have hk := Kept.of_belowX hbn
      exact ⟨⟨R1, R2, p1, p2, hs.up hbn⟩, hk.cell hx1, hk.cell hy1⟩)
    clear HL HON hon hbn
    go_wp2_with fail
    go_loopw [38] (fun i Z => ∃ j : Nat, j ≤ n ∧ i = .int .i64 (j : Int) ∧ LSP w b1 m1 b2 m2 g7 (2000000 + 6 * j) (fun R => ChN R j ∧ R.length ≤ 2000000 + 6 * j) Z ∧ Kept wn Z)
      (fun i _ => n - (intOf i).toNat)
    case atStart => exact ⟨0, by omega, rfl, HLN.out, Kept.refl _⟩
    case round => as_aux_lemma =>
      clear HLN
      obtain ⟨j, hj, rfl, HX0, hkn⟩ := hrel
      have HKN := Lib.hid hkn
      clear hkn
      by_cases hlt : j < n
      · have hkr := Kept.of_belowX HX0.bel
        have HTR := Lib.hid (fun (Z : World) (hz : Kept wr Z) => HTB.out _ (hkr.transX hz))
        obtain ⟨A', c', e', hrd, hcell⟩ := HX.out _ hkr
        have hjl : j < xs.length := by have := HN.out.1; omega
        obtain ⟨g, o, hA', -, hcl⟩ := hcell (by omega)
        injection e' with e1 e2 e3
        subst e1 e3
        subst hA'
        have hck := hcl j hjl
        have hmem : xs[j] ∈ xs := List.getElem_mem hjl
        have hm0 := hrd _ hmem
        have hfn := HFI.out _ hmem
        generalize xs[j] = x at *
        have HM := Lib.hid (fun (Z : World) (hz : Kept wr Z) => hm0.keptM hz)
        have HFQ := Lib.hid hfn
        have HJ : Hid (2000000 + 6 * j + 6 ≤ 100000000 ∧ 2000000 + 6 * j + 6 = 2000000 + 6 * (j + 1)) := Lib.hid (by have := HN.out.2; omega)
        obtain ⟨SL, hSL⟩ : ∃ L : List Value, L = x.cells := ⟨_, rfl⟩
        rw [← hSL] at hck
        have hl66 : SL.length = 66 := by rw [hSL]; rfl
        have hrng : wr.rangeAt g (o + j * 66) SL := fun i u hu => hck i u (by have := (List.getElem?_eq_some_iff.1 hu).1; omega) hu
        have HRNG := Lib.hid hrng
        have HINF : Hid ((Tryz.prog.info? 48).map (·.size) = some SL.length) := Lib.hid (by rw [hl66]; kernel_rfl)
        have HONE : Hid (SL.toArray.all (·.oneCell') = true) := Lib.hid (by rw [hSL]; exact x.one hm0)
        have HSL := Lib.hid hSL
        have hz66 : Array.size Tryz.zeroCells48 = 66 := by kernel_rfl
        have HTH : Hid ((wr.alloc (.cells Tryz.zeroCells48 48)).there wr.heap.size 0 SL.toArray.size) := Lib.hid (there_new _ _ _ _ (by rw [hz66]; simp [hl66]))
        have hrg0 := range_new wr (Tryz.zeroCells48) 48 SL (by rw [hz66, hl66]; exact Nat.le_refl _)
        have hb0 := below_new wr (Tryz.zeroCells48) 48 SL
        obtain ⟨i, b, m, b', m', R, R', hi, hi2, hpr, hs, hcb, hre⟩ := HX0.pick _ (and1i x.on)
        have HPR := Lib.hid hpr
        clear hpr
        have hs0 := hs.up hb0
        have hk0 := Kept.of_belowX hb0
        have k0 := range_cellT hrg0 0 (.int .i64 x.on) (by rw [hSL]; rfl)
        have k11 := range_cellT hrg0 11 (.string x.m.cl) (by rw [hSL]; rfl)
        have kb := hk0.cell hcb
        have hj9 : n ≤ 2000000 := HN.out.2
        have j1 : (0 : Int) ≤ (j : Int) := by omega
        have j2 : (j : Int) < (n : Int) := by omega
        have i1 : (0 : Int) ≤ (i : Int) := by omega
        have i2 : (i : Int) < 2 := by omega
        have HR0 := Lib.hid (And.intro hs0 (And.intro hk0 (And.intro hrg0 hb0)))
        have HRE := Lib.hid hre
        have HKB := Lib.hid (fun (Z : World) (hz : Kept wr Z) => hz.cell hcb)
        clear hz66 hck hcl hcell hrd hmem hm0 hfn hl66 hrng hSL hrg0 hb0 hs0 hk0 hs hcb hre HX0 hkr e2
        have HRG0 := Lib.hid HR0.out.2.2.1
        go_wp2_with (first
          | (with_reducible refine at_load 48 ?_; refine wpList_load_mid rfl 48 (.tmp 11) rfl wr.heap.size 0 rfl SL _ HRG0.out Tryz.underlying48 rfl HINF.out ?_)
          | (with_reducible refine at_load 48 ?_; refine wpList_load_mid rfl 48 (.tmp 40) rfl g (o + j * 66) rfl SL _ HRNG.out Tryz.underlying48 rfl HINF.out ?_)
          | (with_reducible refine at_store 48 ?_; refine wpList_store_mid rfl 48 (.tmp 11) (.tmp 41) rfl wr.heap.size 0 SL.toArray rfl rfl HTH.out (by have := HINF.out; simpa using this) HONE.out ?_))
        try simp only [List.toList_toArray]
        clear k0 k11 kb
        obtain ⟨hs0, hk0, hrg0, hb0⟩ := HR0.out
        generalize (wr.alloc (.cells Tryz.zeroCells48 48)).setCells wr.heap.size 0 SL = w0 at *
        obtain ⟨nn, ff, hnn, AT0⟩ := hs0.at
        have hrun := chrun_any AT0 (show nn + 0 + 6 ≤ maxLen by have := HJ.out.1; unfold maxLen; omega) x (HM.out _ hk0) HFQ.out (HTR.out _ hk0).1 fr (HTR.out _ hk0).2
        have hgo := ch_step (x := x) hs0.rise HPR.out.1 (by have := HN.out.2; omega)
        have hsl := step16_len R x
        have hr0 := hs0.rise
        obtain ⟨⟨E, R2⟩, hU⟩ : ∃ p, p = stepM16 R x := ⟨_, rfl⟩
        rw [← HSL.out, ← hU] at hrun
        rw [← hU] at hgo hsl
        dsimp only at hrun hgo hsl
        have HRUN := Lib.hid hrun
        have HCH := Lib.hid hgo.n
        have HLR : Hid (R2.length ≤ 2000000 + 6 * (j + 1)) := Lib.hid (by have := HPR.out.2; omega)
        have HNN := Lib.hid hnn
        have HS0 := Lib.hid hs0
        have HK0 := Lib.hid hk0
        clear hk0 hrg0 hs0 hb0 hnn AT0 hrun hgo hU hsl hr0 HR0 HTH HRNG HONE HKB
        generalize wr.heap.size = g10 at *
        refine HRUN.out.mono ?_
        rintro e w2 ⟨rfl, A2, hk2⟩
        have hs2 := HS0.out.step HNN.out A2
        obtain ⟨n2, f2, hn2, AT2⟩ := hs2.at
        have HFT := Lib.hid (fun (key : ByteArray) (v : List UInt8) (e : getL R2 key = some v) => show pairB (key, v) = true from by
          have := AT2.fits e
          unfold pairB
          simp only [Bool.and_eq_true, decide_eq_true_eq]
          exact this)
        have HP2 := Lib.hid (AT2.pairs (show n2 + 0 + 0 ≤ 1000000000 by have := HJ.out.1; omega) chanP (by decide +kernel))
        obtain ⟨L1, hL1⟩ : ∃ L, L = R2.filter (fun p => begB chanP p.1) := ⟨_, rfl⟩
        rw [← hL1] at HP2
        have HL1 := Lib.hid hL1
        have hfl : L1.length ≤ R2.length := by rw [hL1]; exact List.length_filter_le _ _
        have HLL1 : Hid (L1.length ≤ 20000000) := Lib.hid (by have := HLR.out; have := HN.out.2; omega)
        have HRS := Lib.hid hs2.rise
        have HS2 := Lib.hid (And.intro hs2 (HK0.out.transX hk2))
        unfold chanP at HP2
        clear A2 hk2 hs2 hn2 AT2 hL1 hfl HRUN HS0 HK0
        go_wp2_with fail
        refine HP2.out.mono ?_
        rintro e w4 ⟨v2, rfl, ho2, hb4⟩
        have HRP4 := Lib.hid ho2.rdP
        obtain ⟨Aw, cw, rfl⟩ := ho2.form
        have HS4 := Lib.hid (HS2.out.1.up hb4)
        have hkr4 := HS2.out.2.transX (Kept.of_belowX hb4)
        have HKN4 := Lib.hid (HKN.out.transX hkr4)
        have HFN : Hid (∀ Z, Below w4.heap.size w4 Z → LSP w b1 m1 b2 m2 g7 (2000000 + 6 * (j + 1)) (fun R => ChN R (j + 1) ∧ R.length ≤ 2000000 + 6 * (j + 1)) Z ∧ Kept wn Z) := Lib.hid fun Z hz => ⟨HRE.out _ (fun S hS => ⟨hS.1.more (Nat.le_succ _), by have := hS.2; omega⟩) _ _ _ ⟨HCH.out, HLR.out⟩ ((HS4.out.up hz).more (by omega)) (hkr4.transX (Kept.of_belowX hz)), HKN4.out.transX (Kept.of_belowX hz)⟩
        have HRO4 := Lib.hid (fun (Z : World) (hz : Below w4.heap.size w4 Z) => HRO.out Z (HKN4.out.transX (Kept.of_belowX hz)))
        have HGV := Lib.hid (fun (Z : World) (hz : Below w4.heap.size w4 Z) (key : ByteArray) (hk : key.size ≤ maxLen) (val : List UInt8) (e : getL R2 key = some val) => (HS4.out.up hz).getv key hk e)
        clear ho2 hb4 hkr4 HP2 HS2 HKN HKN4 HNN HJ HLR HM HFQ HTR HPR HRE HINF HSL HRG0
        have l4 : L1.length ≤ 20000000 := HLL1.out
        go_wp2_with fail
        clear l4
        go_loopw [53] (fun i Z => ∃ q : Nat, q ≤ L1.length ∧ i = .int .i64 (q : Int) ∧ Below w4.heap.size w4 Z)
          (fun i _ => L1.length - (intOf i).toNat)
        case atStart => exact ⟨0, by omega, rfl, Below.refl _ _⟩
        case round => as_aux_lemma =>
          obtain ⟨q, hq, rfl, hbz⟩ := hrel
          have HBZ := Lib.hid hbz
          have hL8 : L1.length ≤ 20000000 := HLL1.out
          have i0 : (0 : Int) ≤ (q : Int) := by omega
          by_cases hql : q < L1.length
          · have i1 : (q : Int) < (L1.length : Int) := by omega
            obtain ⟨Aw2, cw2, ew, hc1, hc2, hrow⟩ := HRP4.out.keptP (Kept.of_belowX HBZ.out)
            injection ew with ew1 ew2 ew3
            subst ew1 ew3
            obtain ⟨g, ob, rfl, hgl, hcell⟩ := hrow (by omega)
            obtain ⟨q1, xv, q2, q3⟩ := hcell q hql
            have hrw := ch_row (R := R2) HRS.out (q := q) (by rw [← HL1.out]; exact hql)
            simp only [← HL1.out] at hrw
            obtain ⟨id, hkey, hget⟩ := hrw
            obtain ⟨one1, one2, one3⟩ := HCH.out.one id _ hget
            have hpb := HFT.out _ _ hget
            rw [← HE1.out] at one1 one2 one3
            rw [hkey] at q1
            obtain ⟨PV, hPV⟩ : ∃ l, l = L1[q].2 := ⟨_, rfl⟩
            rw [← hPV] at q3 hpb
            obtain ⟨Ap, cp, rfl⟩ := q3.form
            have hks := kChn_size id
            have hsz : (kChn id).size ≤ 200 := by
              unfold pairB keyB at hpb
              simp only [Bool.and_eq_true, decide_eq_true_eq] at hpb
              omega
            have z1 : (nextP ++ id).size ≤ maxLen := by rw [ByteArray.size_append, show nextP.size = 9 from rfl]; unfold maxLen; omega
            have z2 : (recvP ++ id).size ≤ maxLen := by rw [ByteArray.size_append, show recvP.size = 9 from rfl]; unfold maxLen; omega
            have z3 : (ackedP ++ id).size ≤ maxLen := by rw [ByteArray.size_append, show ackedP.size = 10 from rfl]; unfold maxLen; omega
            have HK1 := Lib.hid (fun Z : World => chnext_any id Z (by omega))
            have HK2 := Lib.hid (fun Z : World => chrecv_any id Z (by omega))
            have HK3 := Lib.hid (fun Z : World => chacked_any id Z (by omega))
            have HG1 := Lib.hid (fun (Z : World) (hz : Below w4.heap.size w4 Z) => HGV.out Z hz _ z1 _ one1)
            have HG2 := Lib.hid (fun (Z : World) (hz : Below w4.heap.size w4 Z) => HGV.out Z hz _ z2 _ one2)
            have HG3 := Lib.hid (fun (Z : World) (hz : Below w4.heap.size w4 Z) => HGV.out Z hz _ z3 _ one3)
            have hbp : Below wr.heap.size wr (wr.alloc (.cells #[.string (kChn id), .slice Ap PV.length cp] 74)) := (Below.refl _ _).alloc (Nat.le_refl _) _
            have mp := heap_alloc_new wr (.cells #[.string (kChn id), .slice Ap PV.length cp] 74)
            have hq4 := HBZ.out.trans (hbp.mono HBZ.out.size)
            have d0 := blk_cell mp 0
            have hsl := chan_cut id
            have i5 : (9 : Int) ≤ ((kChn id).size : Int) := by omega
            have HQ4 := Lib.hid hq4
            clear hc1 hc2 hrow hcell hget hpb hkey hPV hks hsz hq4 hbp mp q3 hbz ew2 one1 one2 one3 z1 z2 z3
            go_wp2_with fail
            generalize wr.alloc (.cells #[.string (kChn id), .slice Ap PV.length cp] 74) = wp at *
            clear q1 q2 d0 hsl i5
            refine (HK1.out _).mono ?_
            rintro e wx ⟨rfl, rfl⟩
            go_wp2_with fail
            refine (HG1.out _ HQ4.out).mono ?_
            rintro e w5 ⟨v5, rfl, ho5, hb5⟩
            have hq5 := HQ4.out.trans (hb5.mono HQ4.out.size)
            have HR5 := Lib.hid (fun (Z : World) (hz : Kept w5 Z) => hz.rd ho5.rd)
            obtain ⟨A5, c5, rfl⟩ := ho5.form
            clear ho5 hb5 HG1 HK1
            go_wp2_with fail
            refine (HK2.out _).mono ?_
            rintro e wx ⟨rfl, rfl⟩
            go_wp2_with fail
            refine (HG2.out _ hq5).mono ?_
            rintro e w6 ⟨v6, rfl, ho6, hb6⟩
            have hq6 := hq5.trans (hb6.mono hq5.size)
            have hk56 := Kept.of_belowX hb6
            have HR6 := Lib.hid (fun (Z : World) (hz : Kept w6 Z) => hz.rd ho6.rd)
            obtain ⟨A6, c6, rfl⟩ := ho6.form
            clear ho6 hb6 HG2 HK2 hq5
            go_wp2_with fail
            refine (HK3.out _).mono ?_
            rintro e wx ⟨rfl, rfl⟩
            go_wp2_with fail
            refine (HG3.out _ hq6).mono ?_
            rintro e w7 ⟨v7, rfl, ho7, hb7⟩
            have hq7 := hq6.trans (hb7.mono hq6.size)
            have hk67 := Kept.of_belowX hb7
            have r7 := ho7.rd
            obtain ⟨A7, c7, rfl⟩ := ho7.form
            have cv1 := run_str Tryz.underlying32 Tryz.underlying5 Tryz.isString (HR5.out _ (hk56.transX hk67))
            have cv2 := run_str Tryz.underlying32 Tryz.underlying5 Tryz.isString (HR6.out _ hk67)
            have cv3 := run_str Tryz.underlying32 Tryz.underlying5 Tryz.isString r7
            have cv4 := run_str Tryz.underlying32 Tryz.underlying5 Tryz.isString (HRO4.out _ hq7)
            have HQ7 := Lib.hid hq7
            clear ho7 hb7 HG3 HK3 hq6 hq7 hk56 hk67 r7 HR5 HR6 HQ4
            generalize (⟨ONE.toArray⟩ : ByteArray) = S1 at *
            go_wp2_with fail
            exact ⟨⟨q + 1, by omega, by simp, HQ7.out⟩, by simp [intOf]; omega⟩
          · have i1 : ¬ (q : Int) < (L1.length : Int) := by omega
            have hf := HFN.out _ HBZ.out
            clear HBZ hbz
            go_wp2_with fail
            exact ⟨⟨j + 1, by omega, by simp, hf⟩, by simp [intOf]; omega⟩
      · have hjn : j = n := by omega
        have i2 : ¬ (j : Int) < (n : Int) := by omega
        subst hjn
        have hqf := HX0.bel
        clear HX0
        go_wp2_with fail
        go_ret
        exact ⟨rfl, hqf⟩
end Go.Proofs.YtmphegeiclgjbaaGreatDoor
