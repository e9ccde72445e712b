/- Arrays of four numbers, compared as wholes. -/
import Derived.Test.YthiacmpkbioahaaDoorLimbB
import Derived.Stop.BytesEq
namespace Go.Proofs.YthiacmpkbioahaaDoor
open Go Go.RowKit

/-- are they the same? -/
def eqB (x y : U4) : Bool := decide (x.a = y.a) && (decide (x.b = y.b) && (decide (x.c = y.c) && decide (x.d = y.d)))
theorem eqB_iff {x y : U4} : eqB x y = true ↔ x = y := by
  obtain ⟨a, b, c, d⟩ := x
  obtain ⟨a', b', c', d'⟩ := y
  simp [eqB]
theorem eqB_no {x y : U4} (h : x ≠ y) : eqB x y = false := by
  cases e : eqB x y with
  | false => rfl
  | true => exact absurd (eqB_iff.1 e) h
theorem eqB_refl (x : U4) : eqB x x = true := eqB_iff.2 rfl

theorem size_u64 (w : World) : (sizeOf 22).run Tryd.prog w = .ok 1 w := by rfl
theorem part_at (x : U4) (w : World) {k : Nat} (h : k < 4) : (part 22 x.cells (k * 1)).run Tryd.prog w = .ok (.int .u64 (x.at k : Int)) w := by
  have : k = 0 ∨ k = 1 ∨ k = 2 ∨ k = 3 := by omega
  rcases this with rfl | rfl | rfl | rfl <;> rfl
theorem part1 (x : U4) (w : World) : (part 22 x.cells 1).run Tryd.prog w = .ok (.int .u64 (x.b : Int)) w := by rfl
theorem part2 (x : U4) (w : World) : (part 22 x.cells 2).run Tryd.prog w = .ok (.int .u64 (x.c : Int)) w := by rfl
theorem part3 (x : U4) (w : World) : (part 22 x.cells 3).run Tryd.prog w = .ok (.int .u64 (x.d : Int)) w := by rfl
theorem eqInt (a b : Nat) (w : World) : (Op.equalIn 9999 22 (.int .u64 (a : Int)) (.int .u64 (b : Int))).run Tryd.prog w = .ok (decide (a = b)) w := by
  rw [run_equalIn_int w 9998 _ _ _ _ _ Tryd.underlying22]
  congr 1
  rw [Bool.eq_iff_iff]; simp; omega
theorem beq_nat (a b : Nat) : ((a : Int) == (b : Int)) = decide (a = b) := by
  rw [Bool.eq_iff_iff]; simp; omega
theorem run_equal4 (x y : U4) (w : World) : (Op.equalIn 10000 24 (.agg x.cells) (.agg y.cells)).run Tryd.prog w = .ok (eqB x y) w := by
  rw [Op.equalIn]
  simp only [Sem.run_bind, run_underlying Tryd.underlying24, Result.andThen_ok, size_u64, Std.Legacy.Range.forIn_eq_forIn_range', Std.Legacy.Range.size, Nat.sub_zero, Nat.add_sub_cancel, Nat.div_one]
  rw [show List.range' 0 4 1 = [0, 1, 2, 3] from rfl]
  simp only [List.forIn_cons, List.forIn_nil, Sem.run_bind, part_at x _ (show 0 < 4 by omega), part_at x _ (show 1 < 4 by omega), part_at x _ (show 2 < 4 by omega), part_at x _ (show 3 < 4 by omega), part_at y _ (show 0 < 4 by omega), part_at y _ (show 1 < 4 by omega), part_at y _ (show 2 < 4 by omega), part_at y _ (show 3 < 4 by omega), Result.andThen_ok,
    run_equalIn_int _ _ _ _ _ _ _ Tryd.underlying22, beq_nat]
  unfold eqB
  by_cases h1 : x.a = y.a <;> by_cases h2 : x.b = y.b <;> by_cases h3 : x.c = y.c <;> by_cases h4 : x.d = y.d <;> simp [U4.at, h1, h2, h3, h4, part1, part2, part3, eqInt, Result.andThen]
theorem eql4 (x y : U4) (w : World) : (binOp .eql 24 (.agg x.cells) (.agg y.cells)).run Tryd.prog w = .ok (.bool (eqB x y)) w := by
  rw [run_eql_struct, run_equal4]; rfl
theorem neq4 (x y : U4) (w : World) : (binOp .neq 24 (.agg x.cells) (.agg y.cells)).run Tryd.prog w = .ok (.bool (!eqB x y)) w := by
  rw [run_neq_struct, run_equal4]; rfl
end Go.Proofs.YthiacmpkbioahaaDoor
