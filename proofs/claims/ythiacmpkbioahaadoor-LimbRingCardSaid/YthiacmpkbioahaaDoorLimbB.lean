/- The walks of package limb: Sub. -/
import Derived.Test.YthiacmpkbioahaaDoorLimbA
namespace Go.Proofs.YthiacmpkbioahaaDoor
open Go.RowKit

theorem sub64 (a b c : Nat) (hc : c ≤ 1) (W : World) : (callFunc 36 #[.int .u64 (a : Int), .int .u64 (b : Int), .int .u64 (c : Int)]).run Tryd.prog W =
    .ok (.value (.tuple #[.int .u64 (((a + 18446744073709551616 - b - c) % 18446744073709551616 : Nat) : Int), .int .u64 ((if a < b + c then 1 else 0 : Nat) : Int)])) W := by
  rw [run_callFunc_extern Tryd.func36 (by kernel_rfl) (by kernel_rfl) (by kernel_rfl) (e := sub64Entry) (by kernel_rfl), run_sub64 a b c hc]
  rfl
theorem subSt_succ (x y : U4) {k : Nat} (h : k < 4) : (subSt x y (k + 1)).1.cells = (subSt x y k).1.cells.setIfInBounds k (.int .u64 (((x.at k + 18446744073709551616 - y.at k - (subSt x y k).2) % 18446744073709551616 : Nat) : Int)) ∧
    (subSt x y (k + 1)).2 = (if x.at k < y.at k + (subSt x y k).2 then 1 else 0 : Nat) := by
  have : k = 0 ∨ k = 1 ∨ k = 2 ∨ k = 3 := by omega
  rcases this with rfl | rfl | rfl | rfl <;> constructor <;> simp [subSt, U4.cells, U4.at]
theorem ite_le (p : Prop) [Decidable p] : (if p then 1 else 0 : Nat) ≤ 1 := by split <;> omega
theorem subSt_le (x y : U4) {k : Nat} (h : k ≤ 4) : (subSt x y k).2 ≤ 1 := by
  have : k = 0 ∨ k = 1 ∨ k = 2 ∨ k = 3 ∨ k = 4 := by omega
  rcases this with rfl | rfl | rfl | rfl | rfl <;> simp only [subSt] <;> first | omega | exact ite_le _

set_option maxHeartbeats 1000000 in
theorem sub_any (x y : U4) (w : World) (hx : x.ok) (hy : y.ok) : Calls Tryd.prog 13 #[x.val, y.val] w fun e w' => e = .returned (.tuple #[(subU x y).1.val, .bool (subU x y).2]) ∧ Below w.heap.size w w' := by
  have HX := Lib.hid hx
  have HY := Lib.hid hy
  clear hx hy
  obtain ⟨X, hX⟩ : ∃ X, X = x.cells := ⟨_, rfl⟩
  obtain ⟨Y, hY⟩ : ∃ Y, Y = y.cells := ⟨_, rfl⟩
  unfold U4.val
  rw [← hX, ← hY]
  have hXc := fun (k : Nat) (h : k < 4) => hX ▸ x.cell_at h
  have hYc := fun (k : Nat) (h : k < 4) => hY ▸ y.cell_at h
  have CX := Lib.hid hXc
  have CY := Lib.hid hYc
  clear hX hY hXc hYc
  go_enter Tryd.func13, Tryd.ntmps13
  go_wp2_with fail
  go_loopw [7, 9] (fun c i wr => ∃ k : Nat, k ≤ 4 ∧ i = .int .i64 k ∧ c = .int .u64 ((subSt x y k).2 : Int) ∧ Blk wr w.heap.size X ∧ Blk wr (w.heap.size + 1) Y ∧ Blk wr (w.heap.size + 1 + 1) U4.zero.cells ∧ Blk wr (w.heap.size + 1 + 1 + 1) (subSt x y k).1.cells ∧ Below w.heap.size w wr) (fun _ i _ => 4 - (intOf i).toNat)
  case atStart =>
    obtain ⟨h1, h2, h3, h4, h5⟩ := four w X Y U4.zero.cells U4.zero.cells
    exact ⟨0, by omega, rfl, by simp [subSt], h1, h2, h3, by simp only [subSt]; exact h4, h5⟩
  case round =>
    obtain ⟨k, hk, rfl, rfl, hb0, hb1, hb2, hb3, hb⟩ := hrel
    by_cases hlt : k < 4
    · have i1 : (0 : Int) ≤ (k : Int) := by omega
      have i2 : (k : Int) < 4 := by omega
      obtain ⟨n1, n2⟩ := subSt_succ x y hlt
      have hc1 := subSt_le x y hk
      have e1 := (blk_cell hb0 k).trans (CX.out k hlt)
      have e2 := (blk_cell hb1 k).trans (CY.out k hlt)
      have e3 := (blk_cell hb3 k).trans (U4.cell_at _ hlt)
      have e4 := blk_free hb3 k
      have ha := sub64 (x.at k) (y.at k) (subSt x y k).2 hc1
      generalize (x.at k + 18446744073709551616 - y.at k - (subSt x y k).2) % 18446744073709551616 = r at ha n1
      generalize (if x.at k < y.at k + (subSt x y k).2 then 1 else 0 : Nat) = c' at ha n2
      have N1 := Lib.hid n1
      have N2 := Lib.hid n2
      have B0 := Lib.hid hb0
      have B1 := Lib.hid hb1
      have B2 := Lib.hid hb2
      have B3 := Lib.hid hb3
      have BB := Lib.hid hb
      clear hb0 hb1 hb2 hb3 hb n1 n2 hc1
      go_wp2
      go_region_held_law (fun W => W.cell? ⟨w.heap.size, k, none⟩ = some (.int .u64 (x.at k : Int)) ∧ W.cell? ⟨w.heap.size + 1, k, none⟩ = some (.int .u64 (y.at k : Int))) (first | exact ⟨e1, e2⟩ | (refine ⟨?_, ?_⟩ <;> go_simp)) ((simp only [ha]))
      go_wp2
      go_roundw
      case rel =>
        refine ⟨k + 1, by omega, by go_num, by rw [N2.out], (B0.out.far (by omega) _ _).drew, (B1.out.far (by omega) _ _).drew, (B2.out.far (by omega) _ _).drew, ?_, ?_⟩
        · rw [N1.out]
          exact (B3.out.set_ k _).drew
        · exact below_drewN' (BB.out.setCell (by simp; omega) _) 1
      case measure => simp [intOf]; omega
    · have hk4 : k = 4 := by omega
      subst hk4
      have hsz := hb.size
      have hl := hb3.lt
      obtain ⟨s, hs⟩ : ∃ s, s = (subSt x y 4).1 := ⟨_, rfl⟩
      have hends := sub_end HX.out HY.out
      by_cases hc0 : (subSt x y 4).2 = 0
      · have hau := sub_fits HX.out HY.out hc0
        rw [← hs] at hau hb3
        obtain ⟨c0, c1, c2, c3⟩ := hb3.all
        obtain ⟨d0, d1, d2, d3⟩ := hb2.all
        have f0 := hb2.free 0
        have f1 := hb2.free 1
        have f2 := hb2.free 2
        have f3 := hb2.free 3
        rw [hc0]
        have HA := Lib.hid hau
        have HS := Lib.hid hs
        have BB := Lib.hid hb
        clear hau hs hc0 hends hb0 hb1 hb2 hb3 hb
        go_wp2
        refine bodyPost_ret (v := .tuple #[.agg s.cells, .bool true]) ?_ rfl ⟨?_, ?_⟩
        · simp [results, Tryd.results13, go_sem, U4.cells, d0, d1, d2, d3]
        · rw [HA.out]
        · have hg : w.heap.size ≤ w.heap.size + 1 + 1 := by omega
          exact (((BB.out.setCell hg _).setCell hg _).setCell hg _).setCell hg _
      · have hau := sub_over HX.out HY.out hc0
        obtain ⟨d0, d1, d2, d3⟩ := hb2.all
        have f0 := hb2.free 0
        have f1 := hb2.free 1
        have f2 := hb2.free 2
        have f3 := hb2.free 3
        have hc1 : (subSt x y 4).2 = 1 := by omega
        rw [hc1]
        have HA := Lib.hid hau
        have BB := Lib.hid hb
        clear hau hs hc0 hc1 hends hb0 hb1 hb2 hb3 hb
        go_wp2
        refine bodyPost_ret (v := .tuple #[.agg U4.zero.cells, .bool false]) ?_ rfl ⟨?_, ?_⟩
        · simp [results, Tryd.results13, go_sem, U4.cells, U4.zero, d0, d1, d2, d3]
        · rw [HA.out]
        · have hg : w.heap.size ≤ w.heap.size + 1 + 1 := by omega
          exact (((BB.out.setCell hg _).setCell hg _).setCell hg _).setCell hg _
end Go.Proofs.YthiacmpkbioahaaDoor
