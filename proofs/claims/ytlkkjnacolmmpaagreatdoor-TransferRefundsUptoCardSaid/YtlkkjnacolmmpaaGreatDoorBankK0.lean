
/- What a call of the bank makes of a store. Scripts of the bank: rows of calls, read. A call of the bank, handed in by value. -/
import Derived.Test.YtlkkjnacolmmpaaGreatDoorBankM0
import Derived.Test.YtlkkjnacolmmpaaGreatDoorLimbA0
import Derived.Test.YtlkkjnacolmmpaaGreatDoorBankF0
namespace Go.Proofs.YtlkkjnacolmmpaaGreatDoor
set_option maxRecDepth 100000
open Go
set_option linter.unusedVariables false
/-- what a call of the bank makes of a store -/
def stepM (R : List Pr) (kd : Int) (a c d : ByteArray) (x : U4) : List Pr := if kd = 1 then (mintM R a d x).2 else if kd = 2 then (burnM R a d x).2 else if kd = 3 then (sendM R a c d x).2 else R
theorem addU_okm (x y : U4) : (addU x y).1.ok := by
  unfold addU
  split
  · exact ofN_ok _
  · exact zero_ok
theorem subU_okm (x y : U4) : (subU x y).1.ok := by
  unfold subU
  split
  · exact ofN_ok _
  · exact zero_ok
section
variable {R : List Pr} {a b c d : ByteArray} {x : U4}
theorem CanonL.nil : CanonL [] := fun p hp => by cases hp
theorem CanonL.change {op : U4 → U4 → U4 × Bool} {u : Int} (h : CanonL R) (ho : ∀ x y, (op x y).1.ok) : CanonL (changeM op u R a d x).2 := by
  unfold changeM
  split
  · split
    · exact (h.keep _ (ho _ _)).keep _ (ho _ _)
    · exact h
  · exact h
theorem CanonL.send (h : CanonL R) : CanonL (sendM R a b d x).2 := by
  unfold sendM
  split
  · split
    · split
      · split
        · exact h
        · split
          · exact (h.keep _ (subU_okm _ _)).keep _ (addU_okm _ _)
          · exact h
      · exact h
    · exact h
  · exact h
end
end Go.Proofs.YtlkkjnacolmmpaaGreatDoor
namespace Go.Proofs.YtlkkjnacolmmpaaGreatDoor
set_option maxRecDepth 100000
open Go Go.RowKit
set_option linter.unusedVariables false

/-- one call of a script -/
structure BOp where
  kd : Int
  a : ByteArray
  c : ByteArray
  d : ByteArray
  x : U4
def BOp.cells (o : BOp) : List Value := [.int .i64 o.kd, .string o.a, .string o.c, .string o.d, .int .u64 (o.x.a : Int), .int .u64 (o.x.b : Int), .int .u64 (o.x.c : Int), .int .u64 (o.x.d : Int)]
def BOp.fine (o : BOp) : Prop := o.x.ok ∧ o.a.size ≤ 100000000 ∧ o.c.size ≤ 100000000 ∧ o.d.size ≤ 100000000
/-- a row of calls, read -/
def RdB (w : World) (B : Nat) (v : Value) (ops : List BOp) : Prop :=
  ∃ A c, v = .slice A ops.length c ∧ ops.length ≤ c ∧ c ≤ maxLen ∧ (0 < ops.length → ∃ b o, A = some ⟨b, o, none⟩ ∧ b < B ∧ ∀ j (h : j < ops.length), ∀ i, i < 8 → w.cell? ⟨b, o + j * 8 + i, none⟩ = (ops[j]).cells[i]?)
end Go.Proofs.YtlkkjnacolmmpaaGreatDoor
namespace Go.Proofs.YtlkkjnacolmmpaaGreatDoor
set_option maxRecDepth 100000
open Go Go.RowKit
set_option linter.unusedVariables false

/-- a call of the bank, handed in by value, in its own block -/
theorem box_op (w : World) (kd : Int) (a b d : ByteArray) (x : U4) (t : TypeId) : ∀ W, Kept (w.alloc (.cells #[.int .i64 kd, .string a, .string b, .string d, .int .u64 (x.a : Int), .int .u64 (x.b : Int), .int .u64 (x.c : Int), .int .u64 (x.d : Int)] t)) W →
    W.cell? ⟨w.heap.size, 0, none⟩ = some (.int .i64 kd) ∧ W.cell? ⟨w.heap.size, 1, none⟩ = some (.string a) ∧ W.cell? ⟨w.heap.size, 2, none⟩ = some (.string b) ∧ W.cell? ⟨w.heap.size, 3, none⟩ = some (.string d) ∧
    W.cell? ⟨w.heap.size, 4, none⟩ = some (.int .u64 (x.a : Int)) ∧ W.cell? ⟨w.heap.size, 5, none⟩ = some (.int .u64 (x.b : Int)) ∧ W.cell? ⟨w.heap.size, 6, none⟩ = some (.int .u64 (x.c : Int)) ∧ W.cell? ⟨w.heap.size, 7, none⟩ = some (.int .u64 (x.d : Int)) := fun W h => by
  have hb := heap_alloc_new w (.cells #[.int .i64 kd, .string a, .string b, .string d, .int .u64 (x.a : Int), .int .u64 (x.b : Int), .int .u64 (x.c : Int), .int .u64 (x.d : Int)] t)
  exact ⟨h.cell (blk_cell hb 0), h.cell (blk_cell hb 1), h.cell (blk_cell hb 2), h.cell (blk_cell hb 3), h.cell (blk_cell hb 4), h.cell (blk_cell hb 5), h.cell (blk_cell hb 6), h.cell (blk_cell hb 7)⟩
end Go.Proofs.YtlkkjnacolmmpaaGreatDoor
