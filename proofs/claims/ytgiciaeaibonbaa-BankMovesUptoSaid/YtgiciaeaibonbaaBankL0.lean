
/- A call of the bank, handed in by value. -/
import Derived.Test.YtgiciaeaibonbaaBankF0
namespace Go.Proofs.Ytgiciaeaibonbaa
set_option maxRecDepth 100000
open Go Go.RowKit
set_option linter.unusedVariables false

/-- a call of the bank, handed in by value, in its own block -/
theorem box_op (w : World) (kd : Int) (a b d : ByteArray) (x : U4) (t : TypeId) : ∀ W, Kept (w.alloc (.cells #[.int .i64 kd, .string a, .string b, .string d, .int .u64 (x.a : Int), .int .u64 (x.b : Int), .int .u64 (x.c : Int), .int .u64 (x.d : Int)] t)) W →
    W.cell? ⟨w.heap.size, 0, none⟩ = some (.int .i64 kd) ∧ W.cell? ⟨w.heap.size, 1, none⟩ = some (.string a) ∧ W.cell? ⟨w.heap.size, 2, none⟩ = some (.string b) ∧ W.cell? ⟨w.heap.size, 3, none⟩ = some (.string d) ∧
    W.cell? ⟨w.heap.size, 4, none⟩ = some (.int .u64 (x.a : Int)) ∧ W.cell? ⟨w.heap.size, 5, none⟩ = some (.int .u64 (x.b : Int)) ∧ W.cell? ⟨w.heap.size, 6, none⟩ = some (.int .u64 (x.c : Int)) ∧ W.cell? ⟨w.heap.size, 7, none⟩ = some (.int .u64 (x.d : Int)) := fun W h => by
  have hb := heap_alloc_new w (.cells #[.int .i64 kd, .string a, .string b, .string d, .int .u64 (x.a : Int), .int .u64 (x.b : Int), .int .u64 (x.c : Int), .int .u64 (x.d : Int)] t)
  exact ⟨h.cell (blk_cell hb 0), h.cell (blk_cell hb 1), h.cell (blk_cell hb 2), h.cell (blk_cell hb 3), h.cell (blk_cell hb 4), h.cell (blk_cell hb 5), h.cell (blk_cell hb 6), h.cell (blk_cell hb 7)⟩
end Go.Proofs.Ytgiciaeaibonbaa
