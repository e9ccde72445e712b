
/- The walk of the document's SameProof, of one proof twice. -/
import Derived.Test.YtpnfdfnbnoplgaaDoorMerkJ
import Derived.Test.YtpnfdfnbnoplgaaDoorRMerkS
import Derived.Deep.RegionHeldLaw
namespace Go.Proofs.YtpnfdfnbnoplgaaDoor
open Go Go.RowKit
set_option linter.unusedVariables false
variable {w w' : World} {B : Nat}

theorem rsame_q (v1 v2 : Value) (l : List UInt8) (W : World) (n : Nat) (h1 : Rd W W.heap.size v1 l) (h2 : Rd W W.heap.size v2 l) : Calls Tryd.prog 34 #[v1, v2] (W.drewN n) fun e w'' => e = .returned (.bool true) ∧ ∃ m, w'' = W.drewN m :=
  Calls.quiet_of_same ((rsame_any v1 v2 l l (W.drewN n) (h1.drewN n) (h2.drewN n)).mono fun _ _ ⟨he, hw⟩ => ⟨by rw [he, sameB_refl], hw.symm⟩)

set_option maxHeartbeats 8000000 in
theorem rsameP_any (v1 v2 : Value) (p : Pf) (w : World) (h1 : ProofV w w.heap.size v1 p) (h2 : ProofV w w.heap.size v2 p) :
    Calls Tryd.prog 14 #[v1, v2] w fun e w' => e = .returned (.bool true) ∧ Below w.heap.size w w' := by
  obtain ⟨n, ls⟩ := p
  obtain ⟨lv1, rfl, hl1, hn1, hn2⟩ := h1
  obtain ⟨lv2, rfl, hl2, -, -⟩ := h2
  dsimp only at hl1 hl2 hn1 hn2 ⊢
  obtain ⟨A1, c1, rfl, hc1, hm1, hp1⟩ := hl1
  obtain ⟨A2, c2, rfl, hc2, hm2, hp2⟩ := hl2
  unfold maxLen at hm1 hm2
  obtain ⟨m, hm⟩ : ∃ m, m = ls.length := ⟨_, rfl⟩
  rw [← hm] at hc1 hc2 ⊢
  have HM := Lib.hid hm
  have HP1 := Lib.hid hp1
  have HP2 := Lib.hid hp2
  have hbx : Below w.heap.size w ((w.alloc (.cells #[.int .i64 n, .slice A1 m c1] 33)).alloc (.cells #[.int .i64 n, .slice A2 m c2] 33)) := ((Below.refl _ _).alloc (Nat.le_refl _) _).alloc (by simp) _
  have hg1 : ((w.alloc (.cells #[.int .i64 n, .slice A1 m c1] 33)).alloc (.cells #[.int .i64 n, .slice A2 m c2] 33)).heap[w.heap.size]? = some (.cells #[.int .i64 n, .slice A1 m c1] 33 (0, 0)) := (heap_alloc_old _ _ (by simp)).trans (heap_alloc_new w _)
  have hg2 : ((w.alloc (.cells #[.int .i64 n, .slice A1 m c1] 33)).alloc (.cells #[.int .i64 n, .slice A2 m c2] 33)).heap[w.heap.size + 1]? = some (.cells #[.int .i64 n, .slice A2 m c2] 33 (0, 0)) := by
    have := heap_alloc_new (w.alloc (.cells #[.int .i64 n, .slice A1 m c1] 33)) (.cells #[.int .i64 n, .slice A2 m c2] 33)
    rwa [show (w.alloc (.cells #[.int .i64 n, .slice A1 m c1] 33)).heap.size = w.heap.size + 1 by simp] at this
  clear hp1 hp2 hm
  go_enter Tryd.func14, Tryd.ntmps14
  go_wp2_with fail
  generalize ((w.alloc (.cells #[.int .i64 n, .slice A1 m c1] 33)).alloc (.cells #[.int .i64 n, .slice A2 m c2] 33)) = W0 at *
  have hl1 := blk_lt hg1
  have hl2 := blk_lt hg2
  go_loopw [5, 6, 7, 8, 26, 71] (fun _ _ _ _ kv _ wr => ∃ k : Nat, k ≤ m ∧ kv = .int .i64 (k : Int) ∧ Below W0.heap.size W0 wr)
    (fun _ _ _ _ kv _ _ => m - (intOf kv).toNat)
  case atStart => exact ⟨0, Nat.zero_le _, rfl, Below.refl _ _⟩
  case round =>
    obtain ⟨k, hkm, rfl, hb⟩ := hrel
    by_cases hlt : k < m
    · have hkl : k < ls.length := by have := HM.out; omega
      obtain ⟨b1, o1, rfl, hb1l, hcell1⟩ := HP1.out (by omega)
      obtain ⟨b2, o2, rfl, hb2l, hcell2⟩ := HP2.out (by omega)
      have hbw := below_chain hbx hbx.size hb
      obtain ⟨sv1, pv1, p0, p1, p2, p3, hlv1⟩ := (hcell1 k hkl).below hbw hb1l
      obtain ⟨sv2, pv2, q0, q1, q2, q3, hlv2⟩ := (hcell2 k hkl).below hbw hb2l
      obtain ⟨_, _, e1, hs1, hpp1, -⟩ := hlv1
      obtain ⟨_, _, e2, hs2, hpp2, -⟩ := hlv2
      injection e1 with e1; injection e1 with e1; injection e1 with _ e1; injection e1 with _ e1; injection e1 with e11 e1; injection e1 with e12 _
      subst e11; subst e12
      injection e2 with e2; injection e2 with e2; injection e2 with _ e2; injection e2 with _ e2; injection e2 with e21 e2; injection e2 with e22 _
      subst e21; subst e22
      generalize ls[k] = lf at *
      obtain ⟨at_, key, val, path⟩ := lf
      dsimp only at p0 p1 p2 p3 q0 q1 q2 q3 hs1 hs2 hpp1 hpp2
      obtain ⟨As1, cs1, rfl⟩ := hs1.form
      obtain ⟨As2, cs2, rfl⟩ := hs2.form
      have hplm : path.length ≤ 9223372036854775807 := by obtain ⟨_, _, _, h1, h2, _⟩ := hpp1; unfold maxLen at h2; omega
      obtain ⟨Ap1, cp1, rfl⟩ := hpp1.form
      obtain ⟨Ap2, cp2, rfl⟩ := hpp2.form
      have i1 : (0 : Int) ≤ (k : Int) := by omega
      have i2 : (k : Int) < (m : Int) := by omega
      have x0 : wr.cell? ⟨w.heap.size, 1, none⟩ = some (.slice (some ⟨b1, o1, none⟩) m c1) := (hb.cell (p := ⟨w.heap.size, 1, none⟩) hl1).trans (blk_cell hg1 1)
      have x1 : wr.cell? ⟨w.heap.size + 1, 1, none⟩ = some (.slice (some ⟨b2, o2, none⟩) m c2) := (hb.cell (p := ⟨w.heap.size + 1, 1, none⟩) hl2).trans (blk_cell hg2 1)
      clear hcell1 hcell2
      go_wp2_with fail
      generalize val.length = vl at *
      generalize path.length = pl at *
      have hw1 := Nat.lt_of_lt_of_le hl1 hb.size
      have hw2 := Nat.lt_of_lt_of_le hl2 hb.size
      have hw3 := Nat.lt_of_lt_of_le hb1l hbw.size
      have hw4 := Nat.lt_of_lt_of_le hb2l hbw.size
      have HS : Hid (∀ W : World, Below wr.heap.size wr W → W.cell? ⟨w.heap.size, 1, none⟩ = some (.slice (some ⟨b1, o1, none⟩) m c1) ∧ W.cell? ⟨w.heap.size + 1, 1, none⟩ = some (.slice (some ⟨b2, o2, none⟩) m c2) ∧
          W.cell? ⟨b1, o1 + k * 4, none⟩ = some (.int .i64 at_) ∧ W.cell? ⟨b1, o1 + k * 4 + 1, none⟩ = some (.string key) ∧ W.cell? ⟨b1, o1 + k * 4 + 2, none⟩ = some (.slice As1 vl cs1) ∧ W.cell? ⟨b1, o1 + k * 4 + 3, none⟩ = some (.slice Ap1 pl cp1) ∧
          W.cell? ⟨b2, o2 + k * 4, none⟩ = some (.int .i64 at_) ∧ W.cell? ⟨b2, o2 + k * 4 + 1, none⟩ = some (.string key) ∧ W.cell? ⟨b2, o2 + k * 4 + 2, none⟩ = some (.slice As2 vl cs2) ∧ W.cell? ⟨b2, o2 + k * 4 + 3, none⟩ = some (.slice Ap2 pl cp2)) := Lib.hid fun W hb => ⟨(hb.cell (p := ⟨w.heap.size, 1, none⟩) hw1).trans x0, (hb.cell (p := ⟨w.heap.size + 1, 1, none⟩) hw2).trans x1,
        (hb.cell (p := ⟨b1, o1 + k * 4, none⟩) hw3).trans p0, (hb.cell (p := ⟨b1, o1 + k * 4 + 1, none⟩) hw3).trans p1, (hb.cell (p := ⟨b1, o1 + k * 4 + 2, none⟩) hw3).trans p2, (hb.cell (p := ⟨b1, o1 + k * 4 + 3, none⟩) hw3).trans p3,
        (hb.cell (p := ⟨b2, o2 + k * 4, none⟩) hw4).trans q0, (hb.cell (p := ⟨b2, o2 + k * 4 + 1, none⟩) hw4).trans q1, (hb.cell (p := ⟨b2, o2 + k * 4 + 2, none⟩) hw4).trans q2, (hb.cell (p := ⟨b2, o2 + k * 4 + 3, none⟩) hw4).trans q3⟩
      have HA1 := fun (o : Obj) => (Below.refl wr.heap.size wr).alloc (Nat.le_refl _) o
      have HA2 := fun (o o' : Obj) => (HA1 o).alloc (HA1 o).size o'
      have hbd : Below wr.heap.size wr wr.drew := (Below.refl _ _).drew
      have HK1 := Lib.hid (fun (o : Obj) => HS.out _ (HA1 o).drew)
      have HK2 := Lib.hid (fun (o o' : Obj) => HS.out _ (HA2 o o').drew)
      have HA := Lib.hid HA2
      clear x0 x1 p0 p1 p2 p3 q0 q1 q2 q3 HA1 HA2
      go_region_held_law (fun W => W.cell? ⟨w.heap.size, 1, none⟩ = some (.slice (some ⟨b1, o1, none⟩) m c1) ∧ W.cell? ⟨w.heap.size + 1, 1, none⟩ = some (.slice (some ⟨b2, o2, none⟩) m c2) ∧
          W.cell? ⟨b1, o1 + k * 4, none⟩ = some (.int .i64 at_) ∧ W.cell? ⟨b1, o1 + k * 4 + 1, none⟩ = some (.string key) ∧ W.cell? ⟨b1, o1 + k * 4 + 2, none⟩ = some (.slice As1 vl cs1) ∧ W.cell? ⟨b1, o1 + k * 4 + 3, none⟩ = some (.slice Ap1 pl cp1) ∧
          W.cell? ⟨b2, o2 + k * 4, none⟩ = some (.int .i64 at_) ∧ W.cell? ⟨b2, o2 + k * 4 + 1, none⟩ = some (.string key) ∧ W.cell? ⟨b2, o2 + k * 4 + 2, none⟩ = some (.slice As2 vl cs2) ∧ W.cell? ⟨b2, o2 + k * 4 + 3, none⟩ = some (.slice Ap2 pl cp2))
        (with_reducible first | exact HS.out _ hbd | exact HK1.out _ | exact HK2.out _ _)
        (fail)
      all_goals (
        first
        | (obtain ⟨W8, hW8⟩ : ∃ W8, W8 = ((wr.alloc (.cells #[.int .i64 at_, .string key, .slice As1 vl cs1, .slice Ap1 pl cp1] 46)).alloc (.cells #[.int .i64 at_, .string key, .slice As2 vl cs2, .slice Ap2 pl cp2] 46)).drew := ⟨_, rfl⟩
           rw [← hW8]
           have G6 : W8.heap[wr.heap.size]? = some (.cells #[.int .i64 at_, .string key, .slice As1 vl cs1, .slice Ap1 pl cp1] 46 (0, 0)) := by rw [hW8]; exact (heap_alloc_old _ _ (by simp)).trans (heap_alloc_new wr _)
           have G7 : W8.heap[wr.heap.size + 1]? = some (.cells #[.int .i64 at_, .string key, .slice As2 vl cs2, .slice Ap2 pl cp2] 46 (0, 0)) := by
             rw [hW8]
             have := heap_alloc_new (wr.alloc (.cells #[.int .i64 at_, .string key, .slice As1 vl cs1, .slice Ap1 pl cp1] 46)) (.cells #[.int .i64 at_, .string key, .slice As2 vl cs2, .slice Ap2 pl cp2] 46)
             rwa [show (wr.alloc (.cells #[.int .i64 at_, .string key, .slice As1 vl cs1, .slice Ap1 pl cp1] 46)).heap.size = wr.heap.size + 1 by simp] at this
           have hb8 : Below wr.heap.size wr W8 := by rw [hW8]; exact (HA.out _ _).drew
           clear hW8)
        | (obtain ⟨W8, hW8⟩ : ∃ W8, W8 = ((wr.alloc (.cells #[.int .i64 at_, .string key, .slice As2 vl cs2, .slice Ap2 pl cp2] 46)).alloc (.cells #[.int .i64 at_, .string key, .slice As1 vl cs1, .slice Ap1 pl cp1] 46)).drew := ⟨_, rfl⟩
           rw [← hW8]
           have G7 : W8.heap[wr.heap.size]? = some (.cells #[.int .i64 at_, .string key, .slice As2 vl cs2, .slice Ap2 pl cp2] 46 (0, 0)) := by rw [hW8]; exact (heap_alloc_old _ _ (by simp)).trans (heap_alloc_new wr _)
           have G6 : W8.heap[wr.heap.size + 1]? = some (.cells #[.int .i64 at_, .string key, .slice As1 vl cs1, .slice Ap1 pl cp1] 46 (0, 0)) := by
             rw [hW8]
             have := heap_alloc_new (wr.alloc (.cells #[.int .i64 at_, .string key, .slice As2 vl cs2, .slice Ap2 pl cp2] 46)) (.cells #[.int .i64 at_, .string key, .slice As1 vl cs1, .slice Ap1 pl cp1] 46)
             rwa [show (wr.alloc (.cells #[.int .i64 at_, .string key, .slice As2 vl cs2, .slice Ap2 pl cp2] 46)).heap.size = wr.heap.size + 1 by simp] at this
           have hb8 : Below wr.heap.size wr W8 := by rw [hW8]; exact (HA.out _ _).drew
           clear hW8)
        have h6l := blk_lt G6
        have h7l := blk_lt G7
        have hbw8 := below_chain hbw hbw.size hb8
        have hbW0 := below_chain hb hb.size hb8
        have hbrw : Below w.heap.size wr W8 := hb8.mono hbw.size
        have hwW := Nat.le_trans hbw.size hb8.size
        clear hb8 HS HK1 HK2 HA hbd
        generalize wr.heap.size + 1 = gb at *
        generalize wr.heap.size = ga at *
        have HG6 := Lib.hid G6
        have HG7 := Lib.hid G7
        have s6 := blk_cell G6 0
        have s7 := blk_cell G7 0
        have t6 := blk_cell G6 1
        have t7 := blk_cell G7 1
        have r6 := blk_cell G6 2
        have r7 := blk_cell G7 2
        have u6 := blk_cell G6 3
        have u7 := blk_cell G7 3
        simp only [List.getElem?_toArray, List.getElem?_cons_zero, List.getElem?_cons_succ] at s6 s7 t6 t7 r6 r7 u6 u7
        have hsA := (hs1.below hbrw).more hwW
        have hsB := (hs2.below hbrw).more hwW
        have hPA := Lib.hid (hpp1.below hbrw)
        have hPB := Lib.hid (hpp2.below hbrw)
        clear hs1 hs2 hpp1 hpp2 G6 G7
        go_wp2_with fail
        refine (rsame_any _ _ val val W8 hsA hsB).mono ?_
        rintro e w9 ⟨rfl, rfl⟩
        rw [sameB_refl]
        clear s6 s7 t6 t7 r6 r7 hsA hsB
        go_wp2_with fail
        go_loopw [8, 71] (fun _ kv W => ∃ q : Nat, q ≤ pl ∧ kv = .int .i64 (q : Int) ∧ Below W8.heap.size W8 W)
          (fun _ kv _ => pl - (intOf kv).toNat)
        case atStart => exact ⟨0, Nat.zero_le _, rfl, Below.refl _ _⟩
        case round => as_aux_lemma =>
          clear u6 u7
          rename World => W9
          obtain ⟨q, hqp, rfl, hb9⟩ := hrel
          have u6 := (hb9.cell (p := ⟨_, 3, none⟩) h6l).trans (blk_cell HG6.out 3)
          have u7 := (hb9.cell (p := ⟨_, 3, none⟩) h7l).trans (blk_cell HG7.out 3)
          simp only [List.getElem?_toArray, List.getElem?_cons_zero, List.getElem?_cons_succ] at u6 u7
          have hb89 := below_chain hbw8 hbw8.size hb9
          have hbW9 := below_chain hbW0 hbW0.size hb9
          by_cases hltq : q < pl
          · obtain ⟨A5, c5, e5, k51, k52, hc5⟩ := (hPA.out.below (hb9.mono hwW))
            obtain ⟨A6, c6, e6, k61, k62, hc6⟩ := (hPB.out.below (hb9.mono hwW))
            injection e5 with e51 e52 e53
            injection e6 with e61 e62 e63
            have hqp2 : q < path.length := by omega
            obtain ⟨b5, o5, rfl, hb5l, hc5⟩ := hc5 (by omega)
            obtain ⟨b6, o6, rfl, hb6l, hc6⟩ := hc6 (by omega)
            subst e51; subst e61
            obtain ⟨x5, g5, r5⟩ := hc5 q hqp2
            obtain ⟨x6, g6, r6⟩ := hc6 q hqp2
            clear hc5 hc6 e52 e53 e62 e63
            generalize path[q] = l5 at *
            have HC := Lib.hid (fun n => rsame_q x5 x6 l5 W9 n (r5.more hb89.size) (r6.more hb89.size))
            obtain ⟨A7, c7, rfl⟩ := r5.form
            obtain ⟨A8, c8, rfl⟩ := r6.form
            have i3 : (0 : Int) ≤ (q : Int) := by omega
            have i4 : (q : Int) < (pl : Int) := by omega
            clear r5 r6
            go_wp2_with fail
            go_quiet ((go_at_call 34; exact HC.out _))
            have hbo := below_drewN' hb9 nq
            clear HC
            go_wp2_with fail
            refine ⟨⟨q + 1, hltq, by go_num, ?_⟩, by simp [intOf]; omega⟩
            exact hbo
          · have i4 : ¬ (q : Int) < (pl : Int) := by omega
            go_wp2_with fail
            refine ⟨⟨k + 1, by omega, by go_num, ?_⟩, by simp [intOf]; omega⟩
            exact hbW9)
    · have i2 : ¬ (k : Int) < (m : Int) := by omega
      have hbo := below_chain hbx hbx.size hb
      go_wp2_with fail
      go_ret
      exact ⟨rfl, hbo⟩
end Go.Proofs.YtpnfdfnbnoplgaaDoor
