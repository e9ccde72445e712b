
/- The walks of package limb: Add. The walks of package limb: Sub. Arrays of four numbers, compared as wholes. The walks of package limb: Of, Zero, Cmp. -/
import Derived.Test.YthiacmpkbioahaaDoorInfo1
import Derived.Test.YthiacmpkbioahaaDoorLimbS0
import Derived.Test.YthiacmpkbioahaaDoorBase0
import Derived.Deep.RegionHeldLaw
import Derived.Shelf.Spec.BitsCarry
import Derived.Stop.BytesEq
namespace Go.Proofs.YthiacmpkbioahaaDoor
open Go.RowKit

def U4.cells (x : U4) : Array Value := #[.int .u64 (x.a : Int), .int .u64 (x.b : Int), .int .u64 (x.c : Int), .int .u64 (x.d : Int)]
def U4.val (x : U4) : Value := .agg x.cells

theorem add64 (a b c : Nat) (hc : c ≤ 1) (W : World) : (callFunc 33 #[.int .u64 (a : Int), .int .u64 (b : Int), .int .u64 (c : Int)]).run Tryd.prog W =
    .ok (.value (.tuple #[.int .u64 (((a + b + c) % 18446744073709551616 : Nat) : Int), .int .u64 (((a + b + c) / 18446744073709551616 : Nat) : Int)])) W := by
  rw [run_callFunc_extern Tryd.func33 (by kernel_rfl) (by kernel_rfl) (by kernel_rfl) (e := add64Entry) (by kernel_rfl), run_add64 a b c (by omega) (by omega) (by omega) (by omega)]
  simp only [Result.andThen]
  congr 5 <;> omega

def LBlk (w : World) (g : Nat) (cs : Array Value) : Prop := w.heap[g]? = some (.cells cs 24 (0, 0))

/-- the number at a place -/
def U4.at (x : U4) : Nat → Nat
  | 0 => x.a
  | 1 => x.b
  | 2 => x.c
  | _ => x.d
theorem LBlk.cell {w : World} {g : Nat} {cs : Array Value} (h : LBlk w g cs) (i : Nat) : w.cell? ⟨g, i, none⟩ = cs[i]? := blk_cell h i
theorem LBlk.free {w : World} {g : Nat} {cs : Array Value} (h : LBlk w g cs) (i : Nat) : w.frozen? ⟨g, i, none⟩ = false := blk_free h i
theorem LBlk.new (w : World) (cs : Array Value) : LBlk (w.alloc (.cells cs 24)) w.heap.size cs := heap_alloc_new w _
theorem LBlk.lt {w : World} {g : Nat} {cs : Array Value} (h : LBlk w g cs) : g < w.heap.size := blk_lt h
theorem LBlk.alloc {w : World} {g : Nat} {cs : Array Value} (h : LBlk w g cs) (o : Obj) : LBlk (w.alloc o) g cs := (Below.heap_alloc w o g h.lt).trans h
theorem LBlk.drew {w : World} {g : Nat} {cs : Array Value} (h : LBlk w g cs) : LBlk w.drew g cs := h
theorem LBlk.set_ {w : World} {g : Nat} {cs : Array Value} (h : LBlk w g cs) (i : Nat) (u : Value) : LBlk (w.setCell ⟨g, i, none⟩ u) g (cs.setIfInBounds i u) := blk_set h i u
theorem LBlk.far {w : World} {g g' : Nat} {cs : Array Value} (h : LBlk w g cs) (hne : g ≠ g') (i : Nat) (u : Value) : LBlk (w.setCell ⟨g', i, none⟩ u) g cs := (Below.heap_setCell w ⟨g', i, none⟩ u g hne).trans h
theorem LBlk.below {w w' : World} {g B : Nat} {cs : Array Value} (h : LBlk w g cs) (hb : Below B w w') (hg : g < B) : LBlk w' g cs := (hb.block g hg).trans h
theorem U4.cell_at (x : U4) {k : Nat} (h : k < 4) : x.cells[k]? = some (.int .u64 (x.at k : Int)) := by
  have : k = 0 ∨ k = 1 ∨ k = 2 ∨ k = 3 := by omega
  rcases this with rfl | rfl | rfl | rfl <;> rfl
theorem addSt_succ (x y : U4) {k : Nat} (h : k < 4) : (addSt x y (k + 1)).1.cells = (addSt x y k).1.cells.setIfInBounds k (.int .u64 (((x.at k + y.at k + (addSt x y k).2) % 18446744073709551616 : Nat) : Int)) ∧
    (addSt x y (k + 1)).2 = (x.at k + y.at k + (addSt x y k).2) / 18446744073709551616 := by
  have : k = 0 ∨ k = 1 ∨ k = 2 ∨ k = 3 := by omega
  rcases this with rfl | rfl | rfl | rfl <;> constructor <;> simp [addSt, U4.cells, U4.at]
theorem addSt_le {x y : U4} (hx : x.ok) (hy : y.ok) {k : Nat} (h : k ≤ 4) : (addSt x y k).2 ≤ 1 := by
  obtain ⟨h1, h2, h3, h4⟩ := hx
  obtain ⟨k1, k2, k3, k4⟩ := hy
  have : k = 0 ∨ k = 1 ∨ k = 2 ∨ k = 3 ∨ k = 4 := by omega
  obtain ⟨a, b, c, d⟩ := x
  obtain ⟨a', b', c', d'⟩ := y
  rcases this with rfl | rfl | rfl | rfl | rfl <;> simp only [addSt] at * <;> omega

theorem four (w : World) (X Y Z S : Array Value) : LBlk ((((w.alloc (.cells X 24)).alloc (.cells Y 24)).alloc (.cells Z 24)).alloc (.cells S 24)) w.heap.size X ∧
    LBlk ((((w.alloc (.cells X 24)).alloc (.cells Y 24)).alloc (.cells Z 24)).alloc (.cells S 24)) (w.heap.size + 1) Y ∧
    LBlk ((((w.alloc (.cells X 24)).alloc (.cells Y 24)).alloc (.cells Z 24)).alloc (.cells S 24)) (w.heap.size + 1 + 1) Z ∧
    LBlk ((((w.alloc (.cells X 24)).alloc (.cells Y 24)).alloc (.cells Z 24)).alloc (.cells S 24)) (w.heap.size + 1 + 1 + 1) S ∧
    Below w.heap.size w ((((w.alloc (.cells X 24)).alloc (.cells Y 24)).alloc (.cells Z 24)).alloc (.cells S 24)) := by
  refine ⟨(((LBlk.new w X).alloc _).alloc _).alloc _, ?_, ?_, ?_, ((((Below.refl _ _).alloc (Nat.le_refl _) _).alloc (by simp) _).alloc (by simp; omega) _).alloc (by simp; omega) _⟩
  · have := ((LBlk.new (w.alloc (.cells X 24)) Y).alloc (.cells Z 24)).alloc (.cells S 24)
    simpa using this
  · have := (LBlk.new ((w.alloc (.cells X 24)).alloc (.cells Y 24)) Z).alloc (.cells S 24)
    simpa using this
  · have := LBlk.new (((w.alloc (.cells X 24)).alloc (.cells Y 24)).alloc (.cells Z 24)) S
    simpa using this
theorem LBlk.set4 {w : World} {g : Nat} {s : U4} (h : LBlk w g s.cells) (q : U4) : LBlk ((((w.setCell ⟨g, 0, none⟩ (.int .u64 (q.a : Int))).setCell ⟨g, 1, none⟩ (.int .u64 (q.b : Int))).setCell ⟨g, 2, none⟩ (.int .u64 (q.c : Int))).setCell ⟨g, 3, none⟩ (.int .u64 (q.d : Int))) g q.cells :=
  (((h.set_ 0 _).set_ 1 _).set_ 2 _).set_ 3 _
/-- all four cells of a block -/
theorem LBlk.all {w : World} {g : Nat} {s : U4} (h : LBlk w g s.cells) : w.cell? ⟨g, 0, none⟩ = some (.int .u64 (s.a : Int)) ∧ w.cell? ⟨g, 1, none⟩ = some (.int .u64 (s.b : Int)) ∧ w.cell? ⟨g, 2, none⟩ = some (.int .u64 (s.c : Int)) ∧ w.cell? ⟨g, 3, none⟩ = some (.int .u64 (s.d : Int)) :=
  ⟨h.cell 0, h.cell 1, h.cell 2, h.cell 3⟩

set_option maxHeartbeats 1000000 in
theorem add_any (x y : U4) (w : World) (hx : x.ok) (hy : y.ok) : Calls Tryd.prog 11 #[x.val, y.val] w fun e w' => e = .returned (.tuple #[(addU x y).1.val, .bool (addU x y).2]) ∧ Below w.heap.size w w' := by
  have HX := Lib.hid hx
  have HY := Lib.hid hy
  clear hx hy
  obtain ⟨X, hX⟩ : ∃ X, X = x.cells := ⟨_, rfl⟩
  obtain ⟨Y, hY⟩ : ∃ Y, Y = y.cells := ⟨_, rfl⟩
  unfold U4.val
  rw [← hX, ← hY]
  have hXc := fun (k : Nat) (h : k < 4) => hX ▸ x.cell_at h
  have hYc := fun (k : Nat) (h : k < 4) => hY ▸ y.cell_at h
  have CX := Lib.hid hXc
  have CY := Lib.hid hYc
  clear hX hY hXc hYc
  go_enter Tryd.func11, Tryd.ntmps11
  go_wp2_with fail
  go_loopw [7, 9] (fun c i wr => ∃ k : Nat, k ≤ 4 ∧ i = .int .i64 k ∧ c = .int .u64 ((addSt x y k).2 : Int) ∧ LBlk wr w.heap.size X ∧ LBlk wr (w.heap.size + 1) Y ∧ LBlk wr (w.heap.size + 1 + 1) U4.zero.cells ∧ LBlk wr (w.heap.size + 1 + 1 + 1) (addSt x y k).1.cells ∧ Below w.heap.size w wr) (fun _ i _ => 4 - (intOf i).toNat)
  case atStart =>
    obtain ⟨h1, h2, h3, h4, h5⟩ := four w X Y U4.zero.cells U4.zero.cells
    exact ⟨0, by omega, rfl, by simp [addSt], h1, h2, h3, by simp only [addSt]; exact h4, h5⟩
  case round =>
    obtain ⟨k, hk, rfl, rfl, hb0, hb1, hb2, hb3, hb⟩ := hrel
    by_cases hlt : k < 4
    · have i1 : (0 : Int) ≤ (k : Int) := by omega
      have i2 : (k : Int) < 4 := by omega
      obtain ⟨n1, n2⟩ := addSt_succ x y hlt
      have hc1 := addSt_le HX.out HY.out hk
      have e1 := (blk_cell hb0 k).trans (CX.out k hlt)
      have e2 := (blk_cell hb1 k).trans (CY.out k hlt)
      have e3 := (blk_cell hb3 k).trans (U4.cell_at _ hlt)
      have e4 := blk_free hb3 k
      have ha := add64 (x.at k) (y.at k) (addSt x y k).2 hc1
      have N1 := Lib.hid n1
      have N2 := Lib.hid n2
      have B0 := Lib.hid hb0
      have B1 := Lib.hid hb1
      have B2 := Lib.hid hb2
      have B3 := Lib.hid hb3
      have BB := Lib.hid hb
      clear hb0 hb1 hb2 hb3 hb n1 n2 hc1
      go_wp2
      go_region_held_law (fun W => W.cell? ⟨w.heap.size, k, none⟩ = some (.int .u64 (x.at k : Int)) ∧ W.cell? ⟨w.heap.size + 1, k, none⟩ = some (.int .u64 (y.at k : Int))) (first | exact ⟨e1, e2⟩ | (refine ⟨?_, ?_⟩ <;> go_simp)) ((simp only [ha]))
      go_wp2
      go_roundw
      case rel =>
        refine ⟨k + 1, by omega, by go_num, by rw [N2.out]; go_num, (B0.out.far (by omega) _ _).drew, (B1.out.far (by omega) _ _).drew, (B2.out.far (by omega) _ _).drew, ?_, ?_⟩
        · rw [N1.out]
          exact (B3.out.set_ k _).drew
        · exact below_drewN' (BB.out.setCell (by simp; omega) _) 1
      case measure => simp [intOf]; omega
    · have hk4 : k = 4 := by omega
      subst hk4
      have hsz := hb.size
      have hl := hb3.lt
      obtain ⟨s, hs⟩ : ∃ s, s = (addSt x y 4).1 := ⟨_, rfl⟩
      have hends := add_end HX.out HY.out
      by_cases hc0 : (addSt x y 4).2 = 0
      · have hau := add_fits HX.out HY.out hc0
        rw [← hs] at hau hb3
        obtain ⟨c0, c1, c2, c3⟩ := hb3.all
        obtain ⟨d0, d1, d2, d3⟩ := hb2.all
        have f0 := hb2.free 0
        have f1 := hb2.free 1
        have f2 := hb2.free 2
        have f3 := hb2.free 3
        rw [hc0]
        have HA := Lib.hid hau
        have HS := Lib.hid hs
        have BB := Lib.hid hb
        clear hau hs hc0 hends hb0 hb1 hb2 hb3 hb
        go_wp2
        refine bodyPost_ret (v := .tuple #[.agg s.cells, .bool true]) ?_ rfl ⟨?_, ?_⟩
        · simp [results, Tryd.results11, go_sem, U4.cells, d0, d1, d2, d3]
        · rw [HA.out]
        · have hg : w.heap.size ≤ w.heap.size + 1 + 1 := by omega
          exact (((BB.out.setCell hg _).setCell hg _).setCell hg _).setCell hg _
      · have hau := add_over HX.out HY.out hc0
        obtain ⟨d0, d1, d2, d3⟩ := hb2.all
        have f0 := hb2.free 0
        have f1 := hb2.free 1
        have f2 := hb2.free 2
        have f3 := hb2.free 3
        have hc1 : (addSt x y 4).2 = 1 := by omega
        rw [hc1]
        have HA := Lib.hid hau
        have BB := Lib.hid hb
        clear hau hs hc0 hc1 hends hb0 hb1 hb2 hb3 hb
        go_wp2
        refine bodyPost_ret (v := .tuple #[.agg U4.zero.cells, .bool false]) ?_ rfl ⟨?_, ?_⟩
        · simp [results, Tryd.results11, go_sem, U4.cells, U4.zero, d0, d1, d2, d3]
        · rw [HA.out]
        · have hg : w.heap.size ≤ w.heap.size + 1 + 1 := by omega
          exact (((BB.out.setCell hg _).setCell hg _).setCell hg _).setCell hg _
end Go.Proofs.YthiacmpkbioahaaDoor
namespace Go.Proofs.YthiacmpkbioahaaDoor
open Go.RowKit

theorem sub64 (a b c : Nat) (hc : c ≤ 1) (W : World) : (callFunc 36 #[.int .u64 (a : Int), .int .u64 (b : Int), .int .u64 (c : Int)]).run Tryd.prog W =
    .ok (.value (.tuple #[.int .u64 (((a + 18446744073709551616 - b - c) % 18446744073709551616 : Nat) : Int), .int .u64 ((if a < b + c then 1 else 0 : Nat) : Int)])) W := by
  rw [run_callFunc_extern Tryd.func36 (by kernel_rfl) (by kernel_rfl) (by kernel_rfl) (e := sub64Entry) (by kernel_rfl), run_sub64 a b c hc]
  rfl
theorem subSt_succ (x y : U4) {k : Nat} (h : k < 4) : (subSt x y (k + 1)).1.cells = (subSt x y k).1.cells.setIfInBounds k (.int .u64 (((x.at k + 18446744073709551616 - y.at k - (subSt x y k).2) % 18446744073709551616 : Nat) : Int)) ∧
    (subSt x y (k + 1)).2 = (if x.at k < y.at k + (subSt x y k).2 then 1 else 0 : Nat) := by
  have : k = 0 ∨ k = 1 ∨ k = 2 ∨ k = 3 := by omega
  rcases this with rfl | rfl | rfl | rfl <;> constructor <;> simp [subSt, U4.cells, U4.at]
theorem ite_le (p : Prop) [Decidable p] : (if p then 1 else 0 : Nat) ≤ 1 := by split <;> omega
theorem subSt_le (x y : U4) {k : Nat} (h : k ≤ 4) : (subSt x y k).2 ≤ 1 := by
  have : k = 0 ∨ k = 1 ∨ k = 2 ∨ k = 3 ∨ k = 4 := by omega
  rcases this with rfl | rfl | rfl | rfl | rfl <;> simp only [subSt] <;> first | omega | exact ite_le _

set_option maxHeartbeats 1000000 in
theorem sub_any (x y : U4) (w : World) (hx : x.ok) (hy : y.ok) : Calls Tryd.prog 13 #[x.val, y.val] w fun e w' => e = .returned (.tuple #[(subU x y).1.val, .bool (subU x y).2]) ∧ Below w.heap.size w w' := by
  have HX := Lib.hid hx
  have HY := Lib.hid hy
  clear hx hy
  obtain ⟨X, hX⟩ : ∃ X, X = x.cells := ⟨_, rfl⟩
  obtain ⟨Y, hY⟩ : ∃ Y, Y = y.cells := ⟨_, rfl⟩
  unfold U4.val
  rw [← hX, ← hY]
  have hXc := fun (k : Nat) (h : k < 4) => hX ▸ x.cell_at h
  have hYc := fun (k : Nat) (h : k < 4) => hY ▸ y.cell_at h
  have CX := Lib.hid hXc
  have CY := Lib.hid hYc
  clear hX hY hXc hYc
  go_enter Tryd.func13, Tryd.ntmps13
  go_wp2_with fail
  go_loopw [7, 9] (fun c i wr => ∃ k : Nat, k ≤ 4 ∧ i = .int .i64 k ∧ c = .int .u64 ((subSt x y k).2 : Int) ∧ LBlk wr w.heap.size X ∧ LBlk wr (w.heap.size + 1) Y ∧ LBlk wr (w.heap.size + 1 + 1) U4.zero.cells ∧ LBlk wr (w.heap.size + 1 + 1 + 1) (subSt x y k).1.cells ∧ Below w.heap.size w wr) (fun _ i _ => 4 - (intOf i).toNat)
  case atStart =>
    obtain ⟨h1, h2, h3, h4, h5⟩ := four w X Y U4.zero.cells U4.zero.cells
    exact ⟨0, by omega, rfl, by simp [subSt], h1, h2, h3, by simp only [subSt]; exact h4, h5⟩
  case round =>
    obtain ⟨k, hk, rfl, rfl, hb0, hb1, hb2, hb3, hb⟩ := hrel
    by_cases hlt : k < 4
    · have i1 : (0 : Int) ≤ (k : Int) := by omega
      have i2 : (k : Int) < 4 := by omega
      obtain ⟨n1, n2⟩ := subSt_succ x y hlt
      have hc1 := subSt_le x y hk
      have e1 := (blk_cell hb0 k).trans (CX.out k hlt)
      have e2 := (blk_cell hb1 k).trans (CY.out k hlt)
      have e3 := (blk_cell hb3 k).trans (U4.cell_at _ hlt)
      have e4 := blk_free hb3 k
      have ha := sub64 (x.at k) (y.at k) (subSt x y k).2 hc1
      generalize (x.at k + 18446744073709551616 - y.at k - (subSt x y k).2) % 18446744073709551616 = r at ha n1
      generalize (if x.at k < y.at k + (subSt x y k).2 then 1 else 0 : Nat) = c' at ha n2
      have N1 := Lib.hid n1
      have N2 := Lib.hid n2
      have B0 := Lib.hid hb0
      have B1 := Lib.hid hb1
      have B2 := Lib.hid hb2
      have B3 := Lib.hid hb3
      have BB := Lib.hid hb
      clear hb0 hb1 hb2 hb3 hb n1 n2 hc1
      go_wp2
      go_region_held_law (fun W => W.cell? ⟨w.heap.size, k, none⟩ = some (.int .u64 (x.at k : Int)) ∧ W.cell? ⟨w.heap.size + 1, k, none⟩ = some (.int .u64 (y.at k : Int))) (first | exact ⟨e1, e2⟩ | (refine ⟨?_, ?_⟩ <;> go_simp)) ((simp only [ha]))
      go_wp2
      go_roundw
      case rel =>
        refine ⟨k + 1, by omega, by go_num, by rw [N2.out], (B0.out.far (by omega) _ _).drew, (B1.out.far (by omega) _ _).drew, (B2.out.far (by omega) _ _).drew, ?_, ?_⟩
        · rw [N1.out]
          exact (B3.out.set_ k _).drew
        · exact below_drewN' (BB.out.setCell (by simp; omega) _) 1
      case measure => simp [intOf]; omega
    · have hk4 : k = 4 := by omega
      subst hk4
      have hsz := hb.size
      have hl := hb3.lt
      obtain ⟨s, hs⟩ : ∃ s, s = (subSt x y 4).1 := ⟨_, rfl⟩
      have hends := sub_end HX.out HY.out
      by_cases hc0 : (subSt x y 4).2 = 0
      · have hau := sub_fits HX.out HY.out hc0
        rw [← hs] at hau hb3
        obtain ⟨c0, c1, c2, c3⟩ := hb3.all
        obtain ⟨d0, d1, d2, d3⟩ := hb2.all
        have f0 := hb2.free 0
        have f1 := hb2.free 1
        have f2 := hb2.free 2
        have f3 := hb2.free 3
        rw [hc0]
        have HA := Lib.hid hau
        have HS := Lib.hid hs
        have BB := Lib.hid hb
        clear hau hs hc0 hends hb0 hb1 hb2 hb3 hb
        go_wp2
        refine bodyPost_ret (v := .tuple #[.agg s.cells, .bool true]) ?_ rfl ⟨?_, ?_⟩
        · simp [results, Tryd.results13, go_sem, U4.cells, d0, d1, d2, d3]
        · rw [HA.out]
        · have hg : w.heap.size ≤ w.heap.size + 1 + 1 := by omega
          exact (((BB.out.setCell hg _).setCell hg _).setCell hg _).setCell hg _
      · have hau := sub_over HX.out HY.out hc0
        obtain ⟨d0, d1, d2, d3⟩ := hb2.all
        have f0 := hb2.free 0
        have f1 := hb2.free 1
        have f2 := hb2.free 2
        have f3 := hb2.free 3
        have hc1 : (subSt x y 4).2 = 1 := by omega
        rw [hc1]
        have HA := Lib.hid hau
        have BB := Lib.hid hb
        clear hau hs hc0 hc1 hends hb0 hb1 hb2 hb3 hb
        go_wp2
        refine bodyPost_ret (v := .tuple #[.agg U4.zero.cells, .bool false]) ?_ rfl ⟨?_, ?_⟩
        · simp [results, Tryd.results13, go_sem, U4.cells, U4.zero, d0, d1, d2, d3]
        · rw [HA.out]
        · have hg : w.heap.size ≤ w.heap.size + 1 + 1 := by omega
          exact (((BB.out.setCell hg _).setCell hg _).setCell hg _).setCell hg _
end Go.Proofs.YthiacmpkbioahaaDoor
namespace Go.Proofs.YthiacmpkbioahaaDoor
open Go Go.RowKit

/-- are they the same? -/
def eqB (x y : U4) : Bool := decide (x.a = y.a) && (decide (x.b = y.b) && (decide (x.c = y.c) && decide (x.d = y.d)))
theorem eqB_iff {x y : U4} : eqB x y = true ↔ x = y := by
  obtain ⟨a, b, c, d⟩ := x
  obtain ⟨a', b', c', d'⟩ := y
  simp [eqB]
theorem eqB_no {x y : U4} (h : x ≠ y) : eqB x y = false := by
  cases e : eqB x y with
  | false => rfl
  | true => exact absurd (eqB_iff.1 e) h
theorem eqB_refl (x : U4) : eqB x x = true := eqB_iff.2 rfl

theorem size_u64 (w : World) : (sizeOf 22).run Tryd.prog w = .ok 1 w := by rfl
theorem part_at (x : U4) (w : World) {k : Nat} (h : k < 4) : (part 22 x.cells (k * 1)).run Tryd.prog w = .ok (.int .u64 (x.at k : Int)) w := by
  have : k = 0 ∨ k = 1 ∨ k = 2 ∨ k = 3 := by omega
  rcases this with rfl | rfl | rfl | rfl <;> rfl
theorem part1 (x : U4) (w : World) : (part 22 x.cells 1).run Tryd.prog w = .ok (.int .u64 (x.b : Int)) w := by rfl
theorem part2 (x : U4) (w : World) : (part 22 x.cells 2).run Tryd.prog w = .ok (.int .u64 (x.c : Int)) w := by rfl
theorem part3 (x : U4) (w : World) : (part 22 x.cells 3).run Tryd.prog w = .ok (.int .u64 (x.d : Int)) w := by rfl
theorem eqInt (a b : Nat) (w : World) : (Op.equalIn 9999 22 (.int .u64 (a : Int)) (.int .u64 (b : Int))).run Tryd.prog w = .ok (decide (a = b)) w := by
  rw [run_equalIn_int w 9998 _ _ _ _ _ Tryd.underlying22]
  congr 1
  rw [Bool.eq_iff_iff]; simp; omega
theorem beq_nat (a b : Nat) : ((a : Int) == (b : Int)) = decide (a = b) := by
  rw [Bool.eq_iff_iff]; simp; omega
theorem run_equal4 (x y : U4) (w : World) : (Op.equalIn 10000 24 (.agg x.cells) (.agg y.cells)).run Tryd.prog w = .ok (eqB x y) w := by
  rw [Op.equalIn]
  simp only [Sem.run_bind, run_underlying Tryd.underlying24, Result.andThen_ok, size_u64, Std.Legacy.Range.forIn_eq_forIn_range', Std.Legacy.Range.size, Nat.sub_zero, Nat.add_sub_cancel, Nat.div_one]
  rw [show List.range' 0 4 1 = [0, 1, 2, 3] from rfl]
  simp only [List.forIn_cons, List.forIn_nil, Sem.run_bind, part_at x _ (show 0 < 4 by omega), part_at x _ (show 1 < 4 by omega), part_at x _ (show 2 < 4 by omega), part_at x _ (show 3 < 4 by omega), part_at y _ (show 0 < 4 by omega), part_at y _ (show 1 < 4 by omega), part_at y _ (show 2 < 4 by omega), part_at y _ (show 3 < 4 by omega), Result.andThen_ok,
    run_equalIn_int _ _ _ _ _ _ _ Tryd.underlying22, beq_nat]
  unfold eqB
  by_cases h1 : x.a = y.a <;> by_cases h2 : x.b = y.b <;> by_cases h3 : x.c = y.c <;> by_cases h4 : x.d = y.d <;> simp [U4.at, h1, h2, h3, h4, part1, part2, part3, eqInt, Result.andThen]
theorem eql4 (x y : U4) (w : World) : (binOp .eql 24 (.agg x.cells) (.agg y.cells)).run Tryd.prog w = .ok (.bool (eqB x y)) w := by
  rw [run_eql_struct, run_equal4]; rfl
theorem neq4 (x y : U4) (w : World) : (binOp .neq 24 (.agg x.cells) (.agg y.cells)).run Tryd.prog w = .ok (.bool (!eqB x y)) w := by
  rw [run_neq_struct, run_equal4]; rfl
end Go.Proofs.YthiacmpkbioahaaDoor
namespace Go.Proofs.YthiacmpkbioahaaDoor
open Go Go.RowKit

set_option maxHeartbeats 1000000 in
theorem of_any (n : Nat) (w : World) : Calls Tryd.prog 23 #[.int .u64 (n : Int)] w fun e w' => e = .returned (U4.val ⟨n, 0, 0, 0⟩) ∧ Below w.heap.size w w' := by
  go_enter Tryd.func23, Tryd.ntmps23
  go_wp2_with fail
  refine bodyPost_ret (v := U4.val ⟨n, 0, 0, 0⟩) ?_ rfl ⟨rfl, ?_⟩
  · simp [results, Tryd.results23, go_sem, U4.val, U4.cells]
  · exact (Below.refl _ _).alloc (Nat.le_refl _) _

set_option maxHeartbeats 1000000 in
theorem zero_any (x : U4) (w : World) : Calls Tryd.prog 18 #[x.val] w fun e w' => e = .returned (.bool (eqB x U4.zero)) ∧ Below w.heap.size w w' := by
  have he : ∀ W, (binOp .eql 24 (.agg #[.int .u64 (x.a : Int), .int .u64 (x.b : Int), .int .u64 (x.c : Int), .int .u64 (x.d : Int)]) (.agg #[.int .u64 0, .int .u64 0, .int .u64 0, .int .u64 0])).run Tryd.prog W = .ok (.bool (eqB x U4.zero)) W := fun W => eql4 x U4.zero W
  unfold U4.val U4.cells
  generalize eqB x U4.zero = b at *
  go_enter Tryd.func18, Tryd.ntmps18
  go_wp2_with fail
  go_ret
  exact ⟨rfl, (Below.refl _ _).alloc (Nat.le_refl _) _⟩

/-- what Cmp answers -/
def cmpN (m n : Nat) : Int := if m = n then 0 else if n < m then 1 else -1

set_option maxHeartbeats 1000000 in
theorem cmp_any (x y : U4) (w : World) (hx : x.ok) (hy : y.ok) : Calls Tryd.prog 16 #[x.val, y.val] w fun e w' => e = .returned (.int .i64 (cmpN x.nat y.nat)) ∧ Below w.heap.size w w' := by
  have he : ∀ W, (binOp .eql 24 (.agg #[.int .u64 (x.a : Int), .int .u64 (x.b : Int), .int .u64 (x.c : Int), .int .u64 (x.d : Int)]) (.agg #[.int .u64 (y.a : Int), .int .u64 (y.b : Int), .int .u64 (y.c : Int), .int .u64 (y.d : Int)])).run Tryd.prog W = .ok (.bool (eqB x y)) W := fun W => eql4 x y W
  by_cases h : x = y
  · have hc : cmpN x.nat y.nat = 0 := by rw [h]; simp [cmpN]
    rw [hc]
    rw [eqB_iff.2 h] at he
    clear hc h hx hy
    unfold U4.val U4.cells
    go_enter Tryd.func16, Tryd.ntmps16
    go_wp2_with fail
    go_ret
    exact ⟨rfl, ((Below.refl _ _).alloc (Nat.le_refl _) _).alloc (by simp) _⟩
  · have hn : x.nat ≠ y.nat := fun e => h (nat_inj hx hy e)
    rw [eqB_no h] at he
    have hs : (subU x y).2 = decide (y.nat ≤ x.nat) := by
      unfold subU
      by_cases hle : y.nat ≤ x.nat
      · rw [if_pos hle, decide_eq_true hle]
      · rw [if_neg hle, decide_eq_false hle]
    have hc : cmpN x.nat y.nat = if y.nat ≤ x.nat then 1 else -1 := by
      unfold cmpN
      rw [if_neg hn]
      by_cases hle : y.nat ≤ x.nat
      · rw [if_pos (by omega), if_pos hle]
      · rw [if_neg (by omega), if_neg hle]
    rw [hc]
    have HS := (sub_any x y · hx hy)
    unfold U4.val at HS ⊢
    unfold U4.cells at HS ⊢
    rw [hs] at HS
    obtain ⟨s, hsd⟩ : ∃ s, s = (subU x y).1 := ⟨_, rfl⟩
    rw [← hsd] at HS
    have HSS := Lib.hid HS
    have z1 : 1 = 1 := rfl
    clear hn h hs hc hx hy HS hsd z1
    by_cases hle : y.nat ≤ x.nat
    · rw [decide_eq_true hle] at HSS
      rw [if_pos hle]
      clear hle
      go_enter Tryd.func16, Tryd.ntmps16
      go_wp2_with fail
      refine (HSS.out _).mono ?_
      rintro e w1 ⟨rfl, hb⟩
      go_wp2_with fail
      go_ret
      exact ⟨rfl, ((((Below.refl _ _).alloc (Nat.le_refl _) _).alloc (by simp) _).trans (hb.mono (by simp; omega))).alloc (by have := hb.size; simp at this; omega) _⟩
    · rw [decide_eq_false hle] at HSS
      rw [if_neg hle]
      clear hle
      go_enter Tryd.func16, Tryd.ntmps16
      go_wp2_with fail
      refine (HSS.out _).mono ?_
      rintro e w1 ⟨rfl, hb⟩
      go_wp2_with fail
      go_ret
      exact ⟨rfl, ((((Below.refl _ _).alloc (Nat.le_refl _) _).alloc (by simp) _).trans (hb.mono (by simp; omega))).alloc (by have := hb.size; simp at this; omega) _⟩
end Go.Proofs.YthiacmpkbioahaaDoor
