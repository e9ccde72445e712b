
/- The walks of package limb: Add. The walks of package limb: Sub. Arrays of four numbers, compared as wholes. The walks of package limb: Of, Zero, Cmp. -/
import Derived.Test.YtpcoonnfaoakhaaInfo1
import Derived.Test.YtpcoonnfaoakhaaLimbS0
import Derived.Test.YtpcoonnfaoakhaaBase0
import Derived.Deep.RegionHeldLaw
import Derived.Shelf.Spec.BitsCarry
import Derived.Stop.BytesEq
namespace Go.Proofs.Ytpcoonnfaoakhaa
set_option maxRecDepth 100000
open Go.RowKit

def U4.cells (x : U4) : Array Value := #[.int .u64 (x.a : Int), .int .u64 (x.b : Int), .int .u64 (x.c : Int), .int .u64 (x.d : Int)]
def U4.val (x : U4) : Value := .agg x.cells

def LBlk (w : World) (g : Nat) (cs : Array Value) : Prop := w.heap[g]? = some (.cells cs 45 (0, 0))

/-- the number at a place -/
def U4.at (x : U4) : Nat → Nat
  | 0 => x.a
  | 1 => x.b
  | 2 => x.c
  | _ => x.d
theorem LBlk.cell {w : World} {g : Nat} {cs : Array Value} (h : LBlk w g cs) (i : Nat) : w.cell? ⟨g, i, none⟩ = cs[i]? := blk_cell h i
theorem LBlk.free {w : World} {g : Nat} {cs : Array Value} (h : LBlk w g cs) (i : Nat) : w.frozen? ⟨g, i, none⟩ = false := blk_free h i
theorem LBlk.new (w : World) (cs : Array Value) : LBlk (w.alloc (.cells cs 45)) w.heap.size cs := heap_alloc_new w _
theorem LBlk.lt {w : World} {g : Nat} {cs : Array Value} (h : LBlk w g cs) : g < w.heap.size := blk_lt h
theorem LBlk.alloc {w : World} {g : Nat} {cs : Array Value} (h : LBlk w g cs) (o : Obj) : LBlk (w.alloc o) g cs := (Below.heap_alloc w o g h.lt).trans h
theorem LBlk.drew {w : World} {g : Nat} {cs : Array Value} (h : LBlk w g cs) : LBlk w.drew g cs := h
theorem LBlk.set_ {w : World} {g : Nat} {cs : Array Value} (h : LBlk w g cs) (i : Nat) (u : Value) : LBlk (w.setCell ⟨g, i, none⟩ u) g (cs.setIfInBounds i u) := blk_set h i u
theorem LBlk.far {w : World} {g g' : Nat} {cs : Array Value} (h : LBlk w g cs) (hne : g ≠ g') (i : Nat) (u : Value) : LBlk (w.setCell ⟨g', i, none⟩ u) g cs := (Below.heap_setCell w ⟨g', i, none⟩ u g hne).trans h
theorem LBlk.below {w w' : World} {g B : Nat} {cs : Array Value} (h : LBlk w g cs) (hb : Below B w w') (hg : g < B) : LBlk w' g cs := (hb.block g hg).trans h
theorem U4.cell_at (x : U4) {k : Nat} (h : k < 4) : x.cells[k]? = some (.int .u64 (x.at k : Int)) := by
  have : k = 0 ∨ k = 1 ∨ k = 2 ∨ k = 3 := by omega
  rcases this with rfl | rfl | rfl | rfl <;> rfl
theorem addSt_succ (x y : U4) {k : Nat} (h : k < 4) : (addSt x y (k + 1)).1.cells = (addSt x y k).1.cells.setIfInBounds k (.int .u64 (((x.at k + y.at k + (addSt x y k).2) % 18446744073709551616 : Nat) : Int)) ∧
    (addSt x y (k + 1)).2 = (x.at k + y.at k + (addSt x y k).2) / 18446744073709551616 := by
  have : k = 0 ∨ k = 1 ∨ k = 2 ∨ k = 3 := by omega
  rcases this with rfl | rfl | rfl | rfl <;> constructor <;> simp [addSt, U4.cells, U4.at]
theorem addSt_le {x y : U4} (hx : x.ok) (hy : y.ok) {k : Nat} (h : k ≤ 4) : (addSt x y k).2 ≤ 1 := by
  obtain ⟨h1, h2, h3, h4⟩ := hx
  obtain ⟨k1, k2, k3, k4⟩ := hy
  have : k = 0 ∨ k = 1 ∨ k = 2 ∨ k = 3 ∨ k = 4 := by omega
  obtain ⟨a, b, c, d⟩ := x
  obtain ⟨a', b', c', d'⟩ := y
  rcases this with rfl | rfl | rfl | rfl | rfl <;> simp only [addSt] at * <;> omega

theorem four (w : World) (X Y Z S : Array Value) : LBlk ((((w.alloc (.cells X 45)).alloc (.cells Y 45)).alloc (.cells Z 45)).alloc (.cells S 45)) w.heap.size X ∧
    LBlk ((((w.alloc (.cells X 45)).alloc (.cells Y 45)).alloc (.cells Z 45)).alloc (.cells S 45)) (w.heap.size + 1) Y ∧
    LBlk ((((w.alloc (.cells X 45)).alloc (.cells Y 45)).alloc (.cells Z 45)).alloc (.cells S 45)) (w.heap.size + 1 + 1) Z ∧
    LBlk ((((w.alloc (.cells X 45)).alloc (.cells Y 45)).alloc (.cells Z 45)).alloc (.cells S 45)) (w.heap.size + 1 + 1 + 1) S ∧
    Below w.heap.size w ((((w.alloc (.cells X 45)).alloc (.cells Y 45)).alloc (.cells Z 45)).alloc (.cells S 45)) := by
  refine ⟨(((LBlk.new w X).alloc _).alloc _).alloc _, ?_, ?_, ?_, ((((Below.refl _ _).alloc (Nat.le_refl _) _).alloc (by simp) _).alloc (by simp; omega) _).alloc (by simp; omega) _⟩
  · have := ((LBlk.new (w.alloc (.cells X 45)) Y).alloc (.cells Z 45)).alloc (.cells S 45)
    simpa using this
  · have := (LBlk.new ((w.alloc (.cells X 45)).alloc (.cells Y 45)) Z).alloc (.cells S 45)
    simpa using this
  · have := LBlk.new (((w.alloc (.cells X 45)).alloc (.cells Y 45)).alloc (.cells Z 45)) S
    simpa using this
theorem LBlk.set4 {w : World} {g : Nat} {s : U4} (h : LBlk w g s.cells) (q : U4) : LBlk ((((w.setCell ⟨g, 0, none⟩ (.int .u64 (q.a : Int))).setCell ⟨g, 1, none⟩ (.int .u64 (q.b : Int))).setCell ⟨g, 2, none⟩ (.int .u64 (q.c : Int))).setCell ⟨g, 3, none⟩ (.int .u64 (q.d : Int))) g q.cells :=
  (((h.set_ 0 _).set_ 1 _).set_ 2 _).set_ 3 _
/-- all four cells of a block -/
theorem LBlk.all {w : World} {g : Nat} {s : U4} (h : LBlk w g s.cells) : w.cell? ⟨g, 0, none⟩ = some (.int .u64 (s.a : Int)) ∧ w.cell? ⟨g, 1, none⟩ = some (.int .u64 (s.b : Int)) ∧ w.cell? ⟨g, 2, none⟩ = some (.int .u64 (s.c : Int)) ∧ w.cell? ⟨g, 3, none⟩ = some (.int .u64 (s.d : Int)) :=
  ⟨h.cell 0, h.cell 1, h.cell 2, h.cell 3⟩

end Go.Proofs.Ytpcoonnfaoakhaa
namespace Go.Proofs.Ytpcoonnfaoakhaa
set_option maxRecDepth 100000
open Go.RowKit

theorem subSt_succ (x y : U4) {k : Nat} (h : k < 4) : (subSt x y (k + 1)).1.cells = (subSt x y k).1.cells.setIfInBounds k (.int .u64 (((x.at k + 18446744073709551616 - y.at k - (subSt x y k).2) % 18446744073709551616 : Nat) : Int)) ∧
    (subSt x y (k + 1)).2 = (if x.at k < y.at k + (subSt x y k).2 then 1 else 0 : Nat) := by
  have : k = 0 ∨ k = 1 ∨ k = 2 ∨ k = 3 := by omega
  rcases this with rfl | rfl | rfl | rfl <;> constructor <;> simp [subSt, U4.cells, U4.at]
theorem ite_le (p : Prop) [Decidable p] : (if p then 1 else 0 : Nat) ≤ 1 := by split <;> omega
theorem subSt_le (x y : U4) {k : Nat} (h : k ≤ 4) : (subSt x y k).2 ≤ 1 := by
  have : k = 0 ∨ k = 1 ∨ k = 2 ∨ k = 3 ∨ k = 4 := by omega
  rcases this with rfl | rfl | rfl | rfl | rfl <;> simp only [subSt] <;> first | omega | exact ite_le _

end Go.Proofs.Ytpcoonnfaoakhaa
namespace Go.Proofs.Ytpcoonnfaoakhaa
set_option maxRecDepth 100000
open Go Go.RowKit

/-- are they the same? -/
def eqB (x y : U4) : Bool := decide (x.a = y.a) && (decide (x.b = y.b) && (decide (x.c = y.c) && decide (x.d = y.d)))
theorem eqB_iff {x y : U4} : eqB x y = true ↔ x = y := by
  obtain ⟨a, b, c, d⟩ := x
  obtain ⟨a', b', c', d'⟩ := y
  simp [eqB]
theorem eqB_no {x y : U4} (h : x ≠ y) : eqB x y = false := by
  cases e : eqB x y with
  | false => rfl
  | true => exact absurd (eqB_iff.1 e) h
theorem eqB_refl (x : U4) : eqB x x = true := eqB_iff.2 rfl

theorem size_u64 (w : World) : (sizeOf 25).run Try.prog w = .ok 1 w := by rfl
theorem part_at (x : U4) (w : World) {k : Nat} (h : k < 4) : (part 25 x.cells (k * 1)).run Try.prog w = .ok (.int .u64 (x.at k : Int)) w := by
  have : k = 0 ∨ k = 1 ∨ k = 2 ∨ k = 3 := by omega
  rcases this with rfl | rfl | rfl | rfl <;> rfl
theorem part1 (x : U4) (w : World) : (part 25 x.cells 1).run Try.prog w = .ok (.int .u64 (x.b : Int)) w := by rfl
theorem part2 (x : U4) (w : World) : (part 25 x.cells 2).run Try.prog w = .ok (.int .u64 (x.c : Int)) w := by rfl
theorem part3 (x : U4) (w : World) : (part 25 x.cells 3).run Try.prog w = .ok (.int .u64 (x.d : Int)) w := by rfl
theorem eqInt (a b : Nat) (w : World) : (Op.equalIn 9999 25 (.int .u64 (a : Int)) (.int .u64 (b : Int))).run Try.prog w = .ok (decide (a = b)) w := by
  rw [run_equalIn_int w 9998 _ _ _ _ _ Try.underlying25]
  congr 1
  rw [Bool.eq_iff_iff]; simp; omega
theorem beq_nat (a b : Nat) : ((a : Int) == (b : Int)) = decide (a = b) := by
  rw [Bool.eq_iff_iff]; simp; omega
theorem run_equal4 (x y : U4) (w : World) : (Op.equalIn 10000 45 (.agg x.cells) (.agg y.cells)).run Try.prog w = .ok (eqB x y) w := by
  rw [Op.equalIn]
  simp only [Sem.run_bind, run_underlying Try.underlying45, Result.andThen_ok, size_u64, Std.Legacy.Range.forIn_eq_forIn_range', Std.Legacy.Range.size, Nat.sub_zero, Nat.add_sub_cancel, Nat.div_one]
  rw [show List.range' 0 4 1 = [0, 1, 2, 3] from rfl]
  simp only [List.forIn_cons, List.forIn_nil, Sem.run_bind, part_at x _ (show 0 < 4 by omega), part_at x _ (show 1 < 4 by omega), part_at x _ (show 2 < 4 by omega), part_at x _ (show 3 < 4 by omega), part_at y _ (show 0 < 4 by omega), part_at y _ (show 1 < 4 by omega), part_at y _ (show 2 < 4 by omega), part_at y _ (show 3 < 4 by omega), Result.andThen_ok,
    run_equalIn_int _ _ _ _ _ _ _ Try.underlying25, beq_nat]
  unfold eqB
  by_cases h1 : x.a = y.a <;> by_cases h2 : x.b = y.b <;> by_cases h3 : x.c = y.c <;> by_cases h4 : x.d = y.d <;> simp [U4.at, h1, h2, h3, h4, part1, part2, part3, eqInt, Result.andThen]
theorem eql4 (x y : U4) (w : World) : (binOp .eql 45 (.agg x.cells) (.agg y.cells)).run Try.prog w = .ok (.bool (eqB x y)) w := by
  rw [run_eql_struct, run_equal4]; rfl
theorem neq4 (x y : U4) (w : World) : (binOp .neq 45 (.agg x.cells) (.agg y.cells)).run Try.prog w = .ok (.bool (!eqB x y)) w := by
  rw [run_neq_struct, run_equal4]; rfl
end Go.Proofs.Ytpcoonnfaoakhaa
namespace Go.Proofs.Ytpcoonnfaoakhaa
set_option maxRecDepth 100000
open Go Go.RowKit

/-- what Cmp answers -/
def cmpN (m n : Nat) : Int := if m = n then 0 else if n < m then 1 else -1

end Go.Proofs.Ytpcoonnfaoakhaa
