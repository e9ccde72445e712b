
/- The walks of package limb: Add. The walks of package limb: Sub. Arrays of four numbers, compared as wholes. The walks of package limb: Of, Zero, Cmp. -/
import Derived.Test.YtlkkjnacolmmpaaDoorInfo0
import Derived.Test.YtlkkjnacolmmpaaDoorLimbS0
import Derived.Test.YtlkkjnacolmmpaaDoorBase0
import Derived.Deep.RegionHeldLaw
import Derived.Shelf.Spec.BitsCarry
import Derived.Stop.BytesEq
namespace Go.Proofs.YtlkkjnacolmmpaaDoor
set_option maxRecDepth 100000
open Go.RowKit

def U4.cells (x : U4) : Array Value := #[.int .u64 (x.a : Int), .int .u64 (x.b : Int), .int .u64 (x.c : Int), .int .u64 (x.d : Int)]
def U4.val (x : U4) : Value := .agg x.cells

/-- the number at a place -/
def U4.at (x : U4) : Nat → Nat
  | 0 => x.a
  | 1 => x.b
  | 2 => x.c
  | _ => x.d
theorem U4.cell_at (x : U4) {k : Nat} (h : k < 4) : x.cells[k]? = some (.int .u64 (x.at k : Int)) := by
  have : k = 0 ∨ k = 1 ∨ k = 2 ∨ k = 3 := by omega
  rcases this with rfl | rfl | rfl | rfl <;> rfl
theorem addSt_succ (x y : U4) {k : Nat} (h : k < 4) : (addSt x y (k + 1)).1.cells = (addSt x y k).1.cells.setIfInBounds k (.int .u64 (((x.at k + y.at k + (addSt x y k).2) % 18446744073709551616 : Nat) : Int)) ∧
    (addSt x y (k + 1)).2 = (x.at k + y.at k + (addSt x y k).2) / 18446744073709551616 := by
  have : k = 0 ∨ k = 1 ∨ k = 2 ∨ k = 3 := by omega
  rcases this with rfl | rfl | rfl | rfl <;> constructor <;> simp [addSt, U4.cells, U4.at]
theorem addSt_le {x y : U4} (hx : x.ok) (hy : y.ok) {k : Nat} (h : k ≤ 4) : (addSt x y k).2 ≤ 1 := by
  obtain ⟨h1, h2, h3, h4⟩ := hx
  obtain ⟨k1, k2, k3, k4⟩ := hy
  have : k = 0 ∨ k = 1 ∨ k = 2 ∨ k = 3 ∨ k = 4 := by omega
  obtain ⟨a, b, c, d⟩ := x
  obtain ⟨a', b', c', d'⟩ := y
  rcases this with rfl | rfl | rfl | rfl | rfl <;> simp only [addSt] at * <;> omega

end Go.Proofs.YtlkkjnacolmmpaaDoor
namespace Go.Proofs.YtlkkjnacolmmpaaDoor
set_option maxRecDepth 100000
open Go.RowKit

theorem subSt_succ (x y : U4) {k : Nat} (h : k < 4) : (subSt x y (k + 1)).1.cells = (subSt x y k).1.cells.setIfInBounds k (.int .u64 (((x.at k + 18446744073709551616 - y.at k - (subSt x y k).2) % 18446744073709551616 : Nat) : Int)) ∧
    (subSt x y (k + 1)).2 = (if x.at k < y.at k + (subSt x y k).2 then 1 else 0 : Nat) := by
  have : k = 0 ∨ k = 1 ∨ k = 2 ∨ k = 3 := by omega
  rcases this with rfl | rfl | rfl | rfl <;> constructor <;> simp [subSt, U4.cells, U4.at]
theorem ite_le (p : Prop) [Decidable p] : (if p then 1 else 0 : Nat) ≤ 1 := by split <;> omega
theorem subSt_le (x y : U4) {k : Nat} (h : k ≤ 4) : (subSt x y k).2 ≤ 1 := by
  have : k = 0 ∨ k = 1 ∨ k = 2 ∨ k = 3 ∨ k = 4 := by omega
  rcases this with rfl | rfl | rfl | rfl | rfl <;> simp only [subSt] <;> first | omega | exact ite_le _

end Go.Proofs.YtlkkjnacolmmpaaDoor
namespace Go.Proofs.YtlkkjnacolmmpaaDoor
set_option maxRecDepth 100000
open Go Go.RowKit

/-- are they the same? -/
def eqB (x y : U4) : Bool := decide (x.a = y.a) && (decide (x.b = y.b) && (decide (x.c = y.c) && decide (x.d = y.d)))
theorem eqB_iff {x y : U4} : eqB x y = true ↔ x = y := by
  obtain ⟨a, b, c, d⟩ := x
  obtain ⟨a', b', c', d'⟩ := y
  simp [eqB]
theorem eqB_no {x y : U4} (h : x ≠ y) : eqB x y = false := by
  cases e : eqB x y with
  | false => rfl
  | true => exact absurd (eqB_iff.1 e) h
theorem eqB_refl (x : U4) : eqB x x = true := eqB_iff.2 rfl

theorem size_u64 (w : World) : (sizeOf 32).run Tryd.prog w = .ok 1 w := by rfl
theorem part_at (x : U4) (w : World) {k : Nat} (h : k < 4) : (part 32 x.cells (k * 1)).run Tryd.prog w = .ok (.int .u64 (x.at k : Int)) w := by
  have : k = 0 ∨ k = 1 ∨ k = 2 ∨ k = 3 := by omega
  rcases this with rfl | rfl | rfl | rfl <;> rfl
theorem part1 (x : U4) (w : World) : (part 32 x.cells 1).run Tryd.prog w = .ok (.int .u64 (x.b : Int)) w := by rfl
theorem part2 (x : U4) (w : World) : (part 32 x.cells 2).run Tryd.prog w = .ok (.int .u64 (x.c : Int)) w := by rfl
theorem part3 (x : U4) (w : World) : (part 32 x.cells 3).run Tryd.prog w = .ok (.int .u64 (x.d : Int)) w := by rfl
theorem eqInt (a b : Nat) (w : World) : (Op.equalIn 9999 32 (.int .u64 (a : Int)) (.int .u64 (b : Int))).run Tryd.prog w = .ok (decide (a = b)) w := by
  rw [run_equalIn_int w 9998 _ _ _ _ _ Tryd.underlying32]
  congr 1
  rw [Bool.eq_iff_iff]; simp; omega
theorem beq_nat (a b : Nat) : ((a : Int) == (b : Int)) = decide (a = b) := by
  rw [Bool.eq_iff_iff]; simp; omega
end Go.Proofs.YtlkkjnacolmmpaaDoor
namespace Go.Proofs.YtlkkjnacolmmpaaDoor
set_option maxRecDepth 100000
open Go Go.RowKit

/-- what Cmp answers -/
def cmpN (m n : Nat) : Int := if m = n then 0 else if n < m then 1 else -1

end Go.Proofs.YtlkkjnacolmmpaaDoor
