
/- The law StoreMemory, walked. -/
import Derived.Test.YtohnhdandkkonaaDoorStoO
namespace Go.Proofs.YtohnhdandkkonaaDoor
set_option maxRecDepth 100000
open Go Go.RowKit
set_option linter.unusedVariables false

theorem seen_none : SeenL ⟨#[]⟩ [] [] := ⟨by simp [Rise], by simp, fun s _ => by rw [begB_empty]; rfl⟩
theorem Chg.grown1 {w w' : World} {m : Nat} (h : Chg w w' (fun k => k = m)) : w.grownBy w' (some m) := ⟨h.os, h.tape, h.output, h.size, fun k hk hn => h.block k hk fun e => hn (by rw [e])⟩
theorem OwnO.off {W W' : World} {B k : Nat} {v : Value} {l : List UInt8} (h : OwnO W B v k l) {row : Option Nat} (hg : W.grownBy W' row) (hn : v.ownBlock = none ∨ v.ownBlock ≠ row) : OwnO W' B v k l := by
  obtain ⟨cs, h, h1, h2, h3⟩ := h
  exact ⟨cs, World.ownsRow.kept h hg hn, h1, h2, h3⟩
theorem OneV.row {W W' : World} {yb ym Bs : Nat} {key : ByteArray} {sl : Value} {val : List UInt8} (h : OneV W yb ym key Bs sl val) {row : Option Nat} (hg : W.grownBy W' row) (hn : ∀ i, row = some i → yb ≠ i ∧ ym ≠ i ∧ sl.ownBlock ≠ some i) : OneV W' yb ym key Bs sl val := by
  refine ⟨(hg.block _ (blk_lt h.cells) (fun e => (hn yb e.symm).1 rfl)).trans h.cells, h.map.chg (F := fun k => row = some k) (.of_grown hg fun k e => e) (fun e => (hn ym e).2.1 rfl), h.own.grown hg ?_, h.ok⟩
  cases hs : sl.ownBlock with
  | none => exact .inl rfl
  | some b => exact .inr fun e => (hn b e.symm).2.2 hs

set_option maxHeartbeats 16000000 in
theorem memory_law (w : World) (key : ByteArray) (hks : key.size ≤ maxLen) (v : Value) (val : List UInt8) (hr : Rd w w.heap.size v val) (hvl : val.length ≤ 2000000) :
    Calls Tryd.prog 4 #[.string key, v] w fun e w' => e = .returned (.bool true) ∧ Below w.heap.size w w' := by
  obtain ⟨j0, hj0, hjz, hjs, hjb⟩ := info_parts Tryd.infoByte
  have HR := Lib.hid hr
  obtain ⟨A, c, rfl⟩ := hr.form
  obtain ⟨n, hn⟩ : ∃ n, n = val.length := ⟨_, rfl⟩
  have HN := Lib.hid hn
  rw [← hn] at HR hvl ⊢
  clear hr hn
  go_enter Tryd.func4, Tryd.ntmps4
  go_wp2_with fail
  refine (sfixed_any w).mono ?_
  rintro e w1 ⟨rfl, hb1⟩
  have HNEW := Lib.hid (new_any w1 (.slice none 0 0) [] ⟨none, 0, rfl, by simp, by simp [maxLen], fun h => absurd h (by simp)⟩ (by simp))
  go_wp2_with fail
  refine HNEW.out.mono ?_
  clear HNEW
  rintro e w2 ⟨⟨h2, -⟩ | ⟨-, y, rfl, hyb, hym, hyn, hly, -, hp2⟩, hb2⟩
  · cases h2
  obtain ⟨yb, ym, yn, yf⟩ := y
  dsimp only at hyb hym hyn ⊢
  obtain rfl : yn = 0 := hyn
  have hq2 := below_chain hb1 hb1.size hb2
  have HP2 := Lib.hid hp2
  have HLY := Lib.hid hly
  have hybl : yb < w2.heap.size := hp2.1.lt.1
  have hyml : ym < w2.heap.size := hp2.1.lt.2
  have hyb' := Nat.le_trans hb1.size hyb
  have hym' := Nat.le_trans hb1.size hym
  have hbe : Below w2.heap.size w2 (w2.alloc (.cells #[] 5)) := (Below.refl _ _).alloc (Nat.le_refl _) _
  have hr2 := (HR.out.below hq2).more hq2.size
  have hrE : Rd (w2.alloc (.cells #[] 5)) w2.heap.size (.slice A n c) val := hr2.below hbe
  clear hb1 hb2 hyb hym hly hp2 hr2
  go_wp2_with (at_builtin; refine wpList_append_rd rfl (.tmp 24) (.tmp 25) _ rfl j0 Tryd.underlying29 hj0 hjz hjs hjb rfl (own_empty w2 (Nat.le_refl _)) rfl hrE (by have := HN.out; simp; omega) hbe.size ?_; intro v3 w3 ho3 hg3 _)
  have hb3 : Below w2.heap.size w2 w3 := Own.below_grown hbe (own_empty w2 (Nat.le_refl _)) (Nat.le_refl _) hbe.size hg3
  have ho3' : Own w3 w2.heap.size v3 val := ho3
  obtain ⟨A3, c3, hv3⟩ : ∃ A c, v3 = .slice A n c := by rw [HN.out]; exact ho3'.form
  subst hv3
  have hq3 := below_chain hq2 hq2.size hb3
  have HO3 := Lib.hid ho3'
  clear ho3 ho3' hg3 hbe hrE hq2
  cases hpb : pairB (key, val) with
  | false =>
    have HS := Lib.hid (set_no (HP2.out.up hb3) (by show 0 < maxLen; unfold maxLen; omega) key hks _ val HO3.out.rd hpb)
    have hcase : (key = ⟨#[]⟩) ∨ (¬ key = ⟨#[]⟩ ∧ 200 < key.size) ∨ (¬ key = ⟨#[]⟩ ∧ ¬ 200 < key.size ∧ 65535 < n) := by
      by_cases h1 : key = ⟨#[]⟩
      · exact .inl h1
      · by_cases h2 : 200 < key.size
        · exact .inr (.inl ⟨h1, h2⟩)
        · refine .inr (.inr ⟨h1, h2, ?_⟩)
          have h3 : 1 ≤ key.size := by
            rcases Nat.eq_zero_or_pos key.size with h | h
            · exact absurd (by cases key with | mk a => exact congrArg ByteArray.mk (Array.eq_empty_of_size_eq_zero h)) h1
            · exact h
          have h4 : keyB key = true := by simp [keyB]; omega
          have h5 : ¬ val.length ≤ 65535 := by
            intro h
            simp [pairB, h4, h] at hpb
          have := HN.out
          omega
    clear hpb
    go_wp2_with fail
    refine HS.out.mono ?_
    rintro e w4 ⟨rfl, rfl⟩
    rcases hcase with rfl | ⟨h1, h2⟩ | ⟨h1, h2, h3⟩
    · go_wp2_with fail
      go_ret
      exact ⟨rfl, hq3⟩
    · have hk2 : ¬ key.toList = [] := fun e => by
        have := beq_toList_ne h1
        rw [e] at this
        revert this; decide +kernel
      have hk1 : key.toList.isEmpty = false := by simp [hk2]
      have i1 : (200 : Int) < (key.size : Int) := by omega
      go_wp2_with fail
      go_ret
      exact ⟨rfl, hq3⟩
    · have hk2 : ¬ key.toList = [] := fun e => by
        have := beq_toList_ne h1
        rw [e] at this
        revert this; decide +kernel
      have hk1 : key.toList.isEmpty = false := by simp [hk2]
      have i1 : ¬ (200 : Int) < (key.size : Int) := by omega
      have i2 : (65535 : Int) < (n : Int) := by omega
      go_wp2_with fail
      go_ret
      exact ⟨rfl, hq3⟩
  | true =>
    have hp3 := HP2.out.up hb3
    obtain ⟨g, hmg, hsg⟩ := hp3.1.own
    have HS := Lib.hid (set_at hp3 (by show 0 < maxLen; unfold maxLen; omega) key hks _ val HO3.out.rd hpb hmg)
    have hpl : keyB key = true ∧ val.length ≤ 65535 := by simpa [pairB] using hpb
    have HG : Hid (∀ s : ByteArray, s.size ≤ maxLen → g s = none) := Lib.hid fun s hs => by
      rcases hsg s hs with h | ⟨e, x, h1, h2, h3⟩
      · exact h.1
      · have := HLY.out s
        rw [h2] at this
        simp [getL] at this
    have HC3 := Lib.hid hp3.1.cells
    have HYM : Hid (¬ yb = ym) := Lib.hid hp3.ne
    clear hp3 hmg hsg hpb
    go_wp2_with fail
    refine HS.out.mono ?_
    clear HS
    rintro e w4 ⟨rfl, sl, hm4, ho4, hc4⟩
    have h1V : OneV w4 yb ym key w3.heap.size sl val := by
      refine ⟨(hc4.block yb (Nat.lt_of_lt_of_le hybl hb3.size) HYM.out).trans HC3.out, hm4.congr fun s hs => ?_, ho4, hpl⟩
      by_cases e : s = key
      · simp [e]
      · simp [e, HG.out s hs]
    have hO4 : Own w4 w2.heap.size (.slice A3 n c3) val := HO3.out.grown hc4.grown1 (.inr fun e => by have := (HO3.out.lt _ e).1; omega)
    have hb4 : Below w.heap.size w w4 := hq3.trans (hc4.below (fun k e => by rw [e]; exact hym') hq3.size)
    have HLT3 := Lib.hid (fun k (e : (Value.slice A3 n c3).ownBlock = some k) => HO3.out.lt k e)
    have HLS := Lib.hid (fun (W : World) (h : OneV W yb ym key w3.heap.size sl val) k (e : sl.ownBlock = some k) => (h.own.lt k e).1)
    have H4 := Lib.hid (And.intro (OwnO.start hO4) h1V)
    have hw43 := hc4.size
    clear hm4 ho4 hc4 h1V hO4 HC3 HYM HG HLY HP2
    go_wp2_with fail
    go_loopw [54] (fun iv W => ∃ k : Nat, k ≤ n ∧ iv = .int .i64 (k : Int) ∧ Below w.heap.size w W ∧ Hid (OwnO W w2.heap.size (.slice A3 n c3) k val ∧ OneV W yb ym key w3.heap.size sl val))
      (fun iv _ => n - (intOf iv).toNat)
    case atStart => exact ⟨0, Nat.zero_le _, rfl, hb4, H4⟩
    case round =>
      rename World => W
      clear hb4 H4
      obtain ⟨k, hkn, rfl, hbW, HM⟩ := hrel
      by_cases hlt : k < n
      · have hkl : k < val.length := by have := HN.out; omega
        obtain ⟨b, c', hv, hBb, hbl, ⟨cur, hblk⟩, a1, af, hst⟩ := HM.out.1.step hkl
        injection hv with hv1 hv2 hv3
        subst hv1
        have hb3lt := (HLT3.out b rfl).2
        have HST := Lib.hid hst
        have HBK := Lib.hid hblk
        have i1 : (0 : Int) ≤ (k : Int) := by omega
        have i2 : (k : Int) < (n : Int) := by omega
        clear hst hblk hv2 hv3
        generalize val[k] = u at *
        go_wp2_with fail
        refine ⟨⟨k + 1, by omega, by go_num, hbW.setCell (p := ⟨b, k, none⟩) (by show w.heap.size ≤ b; omega) _, Lib.hid ⟨HST.out _, HM.out.2.off HBK.out (grown_set (World.grownBy.refl W _) k _) (by omega) (fun e => by have := HLS.out W HM.out.2 b e; omega)⟩⟩, by simp [intOf]; omega⟩
      · have i2 : ¬ (k : Int) < (n : Int) := by omega
        have H1 := Lib.hid HM.out.2
        have HYB : Hid (yb < W.heap.size ∧ ym < W.heap.size) := Lib.hid ⟨blk_lt H1.out.cells, H1.out.map.lt⟩
        have HSL := Lib.hid (fun k (e : sl.ownBlock = some k) => (H1.out.own.lt k e).2)
        have hcv : visV [⟨yb, ym, 1, fun s => if s = key then some (some val) else none⟩] key = some val := by rw [visV_bot H1.out.lyrIs, getL_cons, if_pos rfl]
        have HGET : Hid (∀ (Z : World), OneV Z yb ym key w3.heap.size sl val → Calls Tryd.prog 9 #[.pointer (some ⟨yb, 0, none⟩), .string key] Z fun e w' => ∃ v, e = .returned (.tuple #[v, .bool true]) ∧ Own w' Z.heap.size v val ∧ Below Z.heap.size Z w') := Lib.hid fun Z hZ => by
          have := get_any hZ.pile key hks
          rw [hcv] at this; exact this
        have HPA : Hid (∀ (Z : World), OneV Z yb ym key w3.heap.size sl val → Calls Tryd.prog 14 #[.pointer (some ⟨yb, 0, none⟩), .string ⟨#[]⟩] Z fun e w' => ∃ v, e = .returned v ∧ OutP w' Z.heap.size v [(key, val)] ∧ Below Z.heap.size Z w') := Lib.hid fun Z hZ =>
          pairs_any hZ.pile (by simp [sumN]) ⟨#[]⟩ (by decide +kernel) (seen_bot0 hZ.lyrIs (by simp [Rise]) (fun p hp => by rw [List.mem_singleton.1 hp]; exact hks))
        clear hcv HM
        go_wp2_with fail
        refine (HGET.out W H1.out).mono ?_
        rintro e w5 ⟨v5, rfl, ho5, hb5⟩
        obtain ⟨A5, c5, hv5⟩ : ∃ A c, v5 = .slice A n c := by rw [HN.out]; exact ho5.form
        subst hv5
        have H5 := Lib.hid (And.intro (H1.out.up hb5) ho5)
        have hq5 := below_chain hbW hbW.size hb5
        clear ho5 H1
        go_wp2_with fail
        refine (HPA.out w5 H5.out.1).mono ?_
        rintro e w6 ⟨v6, rfl, ho6, hb6⟩
        obtain ⟨A6, c6, hv6⟩ : ∃ A c, v6 = .slice A 1 c := ho6.form
        subst hv6
        have hq6 := below_chain hq5 hq5.size hb6
        obtain ⟨B1, hB1, hBk, hox⟩ := ho6
        obtain ⟨g6, cs, hA6, -, -, -, hBg, hgl, -, hcell, pv, hcs, hpo⟩ := hox.at_ 0 (by simp)
        obtain ⟨bq, cq, curq, hvq, _, hblkq⟩ := hox.blk (by simp)
        subst hA6
        injection hvq with hvq1 hvq2 hvq3
        injection hvq1 with hvq1
        injection hvq1 with hvq1
        subst hvq1
        clear hvq2 hvq3
        have hgB1 := hBk g6 rfl
        have p0 := hcell 0 (by decide)
        have p1 := hcell 1 (by decide)
        rw [hcs] at p0 p1
        obtain ⟨Ap, cp, hpv⟩ : ∃ A c, pv = .slice A n c := by rw [HN.out]; exact hpo.form
        subst hpv
        have q0 : w6.cell? ⟨g6, 0, none⟩ = some (.string key) := p0
        have q1 : w6.cell? ⟨g6, 1, none⟩ = some (.slice Ap n cp) := p1
        have hq1c : curq[1]? = some (.slice Ap n cp) := by have := blk_cell hblkq 1; rw [q1] at this; exact this.symm
        have HQ1 := Lib.hid hq1c
        have hpo' : Own w6 B1 (.slice Ap n cp) val := hpo
        have H6 : Hid (OneV w6 yb ym key w3.heap.size sl val ∧ OwnO w6 W.heap.size (.slice A5 n c5) 0 val ∧ OwnO w6 B1 (.slice Ap n cp) 0 val ∧ w6.heap[g6]? = some (.cells curq 31 (0, 0))) := Lib.hid ⟨H5.out.1.up hb6, OwnO.start (H5.out.2.below hb6), OwnO.start hpo', hblkq⟩
        have HLT5 := Lib.hid (fun k (e : (Value.slice A5 n c5).ownBlock = some k) => H5.out.2.lt k e)
        have HLTP := Lib.hid (fun k (e : (Value.slice Ap n cp).ownBlock = some k) => hpo.lt k e)
        obtain ⟨SV, hSV⟩ : ∃ SV : ByteArray, SV = ⟨val.toArray⟩ := ⟨_, rfl⟩
        have CS : ∀ (Z : World) (v : Value), Rd Z Z.heap.size v val → ∀ m, (convert 29 9 v).run Tryd.prog (Z.drewN m) = .ok (.string SV) (Z.drewN m) := fun Z v h m => by rw [hSV]; exact run_str (w := Z.drewN m) (B := Z.heap.size) Tryd.underlying29 Tryd.underlying5 Tryd.isString h
        have HCS := Lib.hid CS
        have HC0 : Hid (∀ (Z : World) (v : Value), Rd Z Z.heap.size v val → (convert 29 9 v).run Tryd.prog Z = .ok (.string SV) Z) := Lib.hid fun Z v h => by rw [hSV]; exact run_str Tryd.underlying29 Tryd.underlying5 Tryd.isString h
        have cv1 := CS w6 _ (H5.out.2.below hb6).rd
        have cv2 := CS w6 _ ((HR.out.below hq6).more hq6.size)
        have cv3 := CS w6 _ hpo.rd
        have hW5 := hb5.size
        clear CS hcell p0 p1 hcs hox hpo hpo' hBk hSV hq1c hblkq
        go_wp2_with fail
        go_quiet (fail)
        have hb7 : Below w6.heap.size w6 (w6.drewN nq) := below_drewN' (Below.refl _ _) _
        have H7 : Hid (OneV (w6.drewN nq) yb ym key w3.heap.size sl val ∧ OwnO (w6.drewN nq) W.heap.size (.slice A5 n c5) 0 val ∧ OwnO (w6.drewN nq) B1 (.slice Ap n cp) 0 val ∧ (w6.drewN nq).heap[g6]? = some (.cells curq 31 (0, 0))) := Lib.hid ⟨H6.out.1.up hb7, H6.out.2.1, H6.out.2.2.1, H6.out.2.2.2⟩
        have hq7 := below_drewN' hq6 nq
        have hW7s : W.heap.size ≤ (w6.drewN nq).heap.size := Nat.le_trans hW5 hb6.size
        clear q0 q1 cv1 cv2 cv3 H6 hb7
        generalize w6.drewN nq = W7 at *
        go_wp2_with fail
        go_loopw [94] (fun iv Z => ∃ k : Nat, k ≤ n ∧ iv = .int .i64 (k : Int) ∧ Below w.heap.size w Z ∧ W.heap.size ≤ Z.heap.size ∧ Hid (OneV Z yb ym key w3.heap.size sl val ∧ OwnO Z W.heap.size (.slice A5 n c5) k val ∧ OwnO Z B1 (.slice Ap n cp) k val ∧ Z.heap[g6]? = some (.cells curq 31 (0, 0))))
          (fun iv _ => n - (intOf iv).toNat)
        case atStart => exact ⟨0, Nat.zero_le _, rfl, hq7, hW7s, H7⟩
        case round =>
          rename World => Z
          clear H7 hq7
          obtain ⟨q, hqn, rfl, hbZ, hZs, HM⟩ := hrel
          by_cases hltq : q < n
          · have hql : q < val.length := by have := HN.out; omega
            obtain ⟨h1V, hOv, hOp, hGz⟩ := HM.out
            obtain ⟨b, c', hv, hBb, hbl, ⟨cur, hblk⟩, a1, af, hst⟩ := hOv.step hql
            injection hv with hv1 hv2 hv3
            subst hv1
            obtain ⟨bp, cpp, hvp, hBp, hblp, ⟨curp, hblkp⟩, ap, apf, -⟩ := hOp.step hql
            injection hvp with hvp1 hvp2 hvp3
            subst hvp1
            have hbw5 := (HLT5.out b rfl).2
            have hne : b ≠ bp := by omega
            have hneg : g6 ≠ b := by omega
            have hnep : g6 ≠ bp := fun e => by
              rw [e, hblkp] at hGz
              injection hGz with hGz
              injection hGz with _ hGz _
              exact absurd hGz (by decide)
            have f1 : ∀ x, (Z.setCell ⟨b, q, none⟩ x).cell? ⟨g6, 1, none⟩ = some (.slice (some ⟨bp, 0, none⟩) n cp) := fun x => (cell_same (p := ⟨g6, 1, none⟩) (Below.heap_setCell Z ⟨b, q, none⟩ x g6 hneg)).trans ((blk_cell hGz 1).trans HQ1.out)
            have f2 : ∀ x, (Z.setCell ⟨b, q, none⟩ x).cell? ⟨bp, q, none⟩ = some (.int .u8 (val[q].toNat : Int)) := fun x => (cell_same (p := ⟨bp, q, none⟩) (Below.heap_setCell Z ⟨b, q, none⟩ x bp hne.symm)).trans ap
            have f3 : ∀ x, (Z.setCell ⟨b, q, none⟩ x).frozen? ⟨bp, q, none⟩ = false := fun x => blk_free ((Below.heap_setCell Z ⟨b, q, none⟩ x bp hne.symm).trans hblkp) q
            have HFIN : Hid (∀ (x y : Int), OneV ((Z.setCell ⟨b, q, none⟩ (.int .u8 x)).setCell ⟨bp, q, none⟩ (.int .u8 y)) yb ym key w3.heap.size sl val ∧ OwnO ((Z.setCell ⟨b, q, none⟩ (.int .u8 x)).setCell ⟨bp, q, none⟩ (.int .u8 y)) W.heap.size (.slice (some ⟨b, 0, none⟩) n c5) (q + 1) val ∧ OwnO ((Z.setCell ⟨b, q, none⟩ (.int .u8 x)).setCell ⟨bp, q, none⟩ (.int .u8 y)) B1 (.slice (some ⟨bp, 0, none⟩) n cp) (q + 1) val ∧ ((Z.setCell ⟨b, q, none⟩ (.int .u8 x)).setCell ⟨bp, q, none⟩ (.int .u8 y)).heap[g6]? = some (.cells curq 31 (0, 0)) ∧ Below w.heap.size w ((Z.setCell ⟨b, q, none⟩ (.int .u8 x)).setCell ⟨bp, q, none⟩ (.int .u8 y))) := Lib.hid fun x y => by
              have hg1 := grown_set (World.grownBy.refl Z (some b)) q (.int .u8 x)
              have hg2 := grown_set (World.grownBy.refl (Z.setCell ⟨b, q, none⟩ (.int .u8 x)) (some bp)) q (.int .u8 y)
              have hy := HYB.out
              have hp1 := OwnO.off hOp hg1 (.inr fun e => by injection e with e; exact hne e.symm)
              obtain ⟨b2, c2, hv2', -, -, -, -, -, hst2⟩ := OwnO.step hp1 hql
              injection hv2' with hv2'
              injection hv2' with hv2'
              injection hv2' with hv2'
              subst hv2'
              have hs1 : ∀ k, sl.ownBlock = some k → k < W.heap.size := HSL.out
              have hwW := hbW.size
              refine ⟨(h1V.row hg1 (fun i e => ?_)).row hg2 (fun i e => ?_), OwnO.off (hst x) hg2 (.inr fun e => by injection e with e; exact hne e), hst2 y, ?_, ((hbZ.setCell (p := ⟨b, q, none⟩) (by show w.heap.size ≤ b; omega) _).setCell (p := ⟨bp, q, none⟩) (by show w.heap.size ≤ bp; omega) _)⟩
              · injection e with e
                subst e
                exact ⟨by omega, by omega, fun e => by have := hs1 b e; omega⟩
              · injection e with e
                subst e
                exact ⟨by omega, by omega, fun e => by have := hs1 bp e; omega⟩
              · exact (Below.heap_setCell _ ⟨bp, q, none⟩ _ g6 hnep).trans ((Below.heap_setCell Z ⟨b, q, none⟩ _ g6 hneg).trans hGz)
            have i3 : (0 : Int) ≤ (q : Int) := by omega
            have i4 : (q : Int) < (n : Int) := by omega
            clear hv2 hv3 hvp2 hvp3 hst hOv hOp hGz h1V hblk hblkp ap apf HM
            generalize val[q] = u at *
            go_wp2_with fail
            exact ⟨⟨q + 1, by omega, by go_num, (HFIN.out _ _).2.2.2.2, by simpa [World.setCell] using hZs, Lib.hid ⟨(HFIN.out _ _).1, (HFIN.out _ _).2.1, (HFIN.out _ _).2.2.1, (HFIN.out _ _).2.2.2.1⟩⟩, by simp [intOf]; omega⟩
          · have i4 : ¬ (q : Int) < (n : Int) := by omega
            obtain ⟨h1V, hOv, -, -⟩ := HM.out
            have H1V := Lib.hid h1V
            obtain ⟨cs, hown, -⟩ := id hOv
            rw [markO_len, ← HN.out] at hown
            have hblz : Below Z.heap.size Z (Z.alloc (.cells #[.int .u8 1, .int .u8 2, .int .u8 3] 5)) := (Below.refl _ _).alloc (Nat.le_refl _) _
            have hgz := heap_alloc_new Z (.cells #[.int .u8 1, .int .u8 2, .int .u8 3] 5)
            have hown2 : (Z.alloc (.cells #[.int .u8 1, .int .u8 2, .int .u8 3] 5)).ownsRow W.heap.size 5 1 (.slice A5 n c5) n cs.flatten := World.ownsRow.alloc hown _
            have hnews : ∀ j u, ([.int .u8 1, .int .u8 2, .int .u8 3] : List Value)[j]? = some u → (Z.alloc (.cells #[.int .u8 1, .int .u8 2, .int .u8 3] 5)).cell? ((⟨Z.heap.size, 0, none⟩ : Addr).add j) = some u := fun j u hj => by
              have e1 : ((⟨Z.heap.size, 0, none⟩ : Addr).add j) = ⟨Z.heap.size, j, none⟩ := by unfold Addr.add; split <;> simp_all
              rw [e1, blk_cell hgz j]
              simpa using hj
            have hone : ∀ u ∈ ([.int .u8 1, .int .u8 2, .int .u8 3] : List Value), u.oneCell' = true := by
              intro u hu
              simp only [List.mem_cons, List.not_mem_nil, or_false] at hu
              rcases hu with rfl | rfl | rfl <;> rfl
            have hWZ : W.heap.size ≤ (Z.alloc (.cells #[.int .u8 1, .int .u8 2, .int .u8 3] 5)).heap.size := by
              have h1 := H1V.out.own
              have h2 := hblz.size
              have h3 : W.heap.size ≤ Z.heap.size := hZs
              omega
            have hq8 := below_chain hbZ hbZ.size hblz
            clear h1V hOv HM hown
            go_wp2_with (at_builtin; refine wpList_append_own_at _ rfl (.tmp 113) (.tmp 114) _ rfl W.heap.size 5 j0 (.int .u8 0) 1 1 Tryd.underlying29 hj0 hjz hjs hjb rfl (by decide) _ _ _ rfl hown2 ⟨Z.heap.size, 0, none⟩ 3 3 [.int .u8 1, .int .u8 2, .int .u8 3] rfl rfl hnews hone (by unfold maxLen; omega) (by omega) hWZ ?_; intro v9 w9 ho9 hg9 _ _)
            have hwW := hbW.size
            have hq9 : Below w.heap.size w w9 := hq8.grown hg9 hq8.size (fun k e => by have := (HLT5.out k e).1; omega)
            have H9 : Hid (OneV w9 yb ym key w3.heap.size sl val) := Lib.hid ((H1V.out.up hblz).row hg9 (fun i e => by
              have h1 := (HLT5.out i e).1
              have h2 := HYB.out
              exact ⟨by omega, by omega, fun e2 => by have := HSL.out i e2; omega⟩))
            obtain ⟨A9, c9, hv9⟩ : ∃ A c, v9 = .slice A (n + 3) c := by
              rcases ho9.2 with ⟨rfl, h0⟩ | ⟨g, cap, cur, rfl, _⟩
              · omega
              · exact ⟨_, _, rfl⟩
            subst hv9
            clear ho9 hg9 hblz hgz hown2 hnews hone hWZ hq8 H1V
            go_wp2_with fail
            refine (HGET.out w9 H9.out).mono ?_
            rintro e w10 ⟨v10, rfl, ho10, hb10⟩
            obtain ⟨A10, c10, hv10⟩ : ∃ A c, v10 = .slice A n c := by rw [HN.out]; exact ho10.form
            subst hv10
            have hq10 := below_chain hq9 hq9.size hb10
            have HO10 := Lib.hid ho10
            clear ho10
            have HG0 := Lib.hid (get_any (w := w10) (l := []) trivial key hks)
            have HG0' : Hid (Calls Tryd.prog 9 #[.pointer none, .string key] w10 fun e w' => ∃ v, e = .returned (.tuple #[v, .bool false]) ∧ Own w' w10.heap.size v [] ∧ Below w10.heap.size w10 w') := HG0
            clear HG0
            go_wp2_with fail
            refine HG0'.out.mono ?_
            rintro e w11 ⟨v11, rfl, ho11, hb11⟩
            obtain ⟨A11, c11, hv11⟩ : ∃ A c, v11 = .slice A 0 c := ho11.form
            subst hv11
            have hq11 := below_chain hq10 hq10.size hb11
            have HO11 := Lib.hid (HO10.out.rd.up (Nat.le_refl _) hb11)
            clear ho11
            go_wp2_with fail
            refine (del_none w11 key).mono ?_
            rintro e w12 ⟨rfl, rfl⟩
            go_wp2_with fail
            refine (write_none w11).mono ?_
            rintro e w12 ⟨rfl, rfl⟩
            have cv1 := HC0.out w11 _ HO11.out
            have cv2 := HC0.out w11 _ ((HR.out.below hq11).more hq11.size)
            have j1 : IntKind.i64.wrap ((n : Int) + 3) = ((n + 3 : Nat) : Int) := by rw [IntKind.wrap_i64]; omega
            go_wp2_with fail
            refine (set_none w11 key A n c).mono ?_
            rintro e w12 ⟨rfl, rfl⟩
            have HPN : Hid (Calls Tryd.prog 14 #[.pointer none, .string ⟨#[]⟩] w11 fun e w' => ∃ v, e = .returned v ∧ OutP w' w11.heap.size v [] ∧ Below w11.heap.size w11 w') := Lib.hid (pairs_any (w := w11) (l := []) trivial (by simp [sumN]) ⟨#[]⟩ (by decide +kernel) seen_none)
            go_wp2_with fail
            refine HPN.out.mono ?_
            rintro e w13 ⟨v13, rfl, ho13, hb13⟩
            obtain ⟨A13, c13, hv13⟩ : ∃ A c, v13 = .slice A 0 c := ho13.form
            subst hv13
            have hq13 := below_chain hq11 hq11.size hb13
            clear ho13
            go_wp2_with fail
            refine (root_none w13).mono ?_
            rintro e w14 ⟨rfl, rfl⟩
            go_wp2_with fail
            refine (branch_none w13).mono ?_
            rintro e w14 ⟨rfl, rfl⟩
            go_wp2_with fail
            go_ret
            exact ⟨rfl, hq13⟩
end Go.Proofs.YtohnhdandkkonaaDoor
