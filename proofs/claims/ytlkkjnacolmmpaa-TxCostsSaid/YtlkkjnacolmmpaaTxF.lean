
/- What a transaction of nothing is found to be: it fits. What any transaction costs. -/
import Derived.Test.YtlkkjnacolmmpaaTxW
namespace Go.Proofs.Ytlkkjnacolmmpaa
set_option maxRecDepth 100000
open Go Go.RowKit
set_option linter.unusedVariables false

def zCells : Array Value := #[.string ⟨#[]⟩, .int .u64 0, .int .u64 0, .int .u64 0, .int .u64 0, .int .u64 0, .int .u64 0, .slice none 0 0, .slice none 0 0]
def zTx : Value := .agg zCells
set_option maxHeartbeats 4000000 in
theorem txfits0 (w : World) :
    Calls Try.prog 9 #[zTx] w fun e w' => e = .returned (.int .i64 0) ∧ Below w.heap.size w w' := by
  have ha0 : Below w.heap.size w (w.alloc (.cells zCells 34)) := (Below.refl _ _).alloc (Nat.le_refl _) _
  have hbox := heap_alloc_new w (.cells zCells 34)
  unfold zCells at ha0 hbox
  have c0 := blk_cell hbox 0
  have c1 := blk_cell hbox 1
  have c2 := blk_cell hbox 2
  have c7 := blk_cell hbox 7
  have c8 := blk_cell hbox 8
  unfold zTx zCells
  go_enter Try.func9, Try.ntmps9
  go_wp2_with fail
  generalize hW0 : w.alloc (.cells #[.string ⟨#[]⟩, .int .u64 0, .int .u64 0, .int .u64 0, .int .u64 0, .int .u64 0, .int .u64 0, .slice none 0 0, .slice none 0 0] 34) = W0 at *
  clear hW0 hbox

  go_loopw [14] (fun i W => i = .int .i64 0 ∧ W0 = W) (fun _ _ => 0)
  case atStart => exact ⟨rfl, rfl⟩
  case round =>
    obtain ⟨rfl, rfl⟩ := hrel
    go_wp2_with fail
    go_loopw [25] (fun i W => i = .int .i64 0 ∧ W0 = W) (fun _ _ => 0)
    case atStart => exact ⟨rfl, rfl⟩
    case round =>
      obtain ⟨rfl, rfl⟩ := hrel
      go_wp2_with fail
      go_ret
      exact ⟨rfl, ha0⟩
def costN (a b : Int) : Int := IntKind.u64.wrap (IntKind.u64.wrap (1000 + IntKind.u64.wrap (10 * IntKind.u64.wrap (if 0 < a then a else 0))) + IntKind.u64.wrap (500 * IntKind.u64.wrap (if 0 < b then b else 0)))
theorem cost_any (w : World) (a b : Int) : Calls Try.prog 5 #[.int .i64 a, .int .i64 b] w fun e w' => e = .returned (.int .u64 (costN a b)) ∧ w = w' := by
  go_enter Try.func5, Try.ntmps5
  go_wp2_with fail
  all_goals go_ret
  all_goals (first | (have e1 : (if 0 < a then a else 0) = a := by split <;> omega) | (have e1 : (if 0 < a then a else 0) = 0 := by split <;> omega))
  all_goals (first | (have e2 : (if 0 < b then b else 0) = b := by split <;> omega) | (have e2 : (if 0 < b then b else 0) = 0 := by split <;> omega))
  all_goals exact ⟨by unfold costN; rw [e1, e2]; rfl, rfl⟩
theorem rcost_any (w : World) (a b : Int) : Calls Try.prog 6 #[.int .i64 a, .int .i64 b] w fun e w' => e = .returned (.int .u64 (costN a b)) ∧ w = w' := by
  go_enter Try.func6, Try.ntmps6
  go_wp2_with fail
  all_goals go_ret
  all_goals (first | (have e1 : (if 0 < a then a else 0) = a := by split <;> omega) | (have e1 : (if 0 < a then a else 0) = 0 := by split <;> omega))
  all_goals (first | (have e2 : (if 0 < b then b else 0) = b := by split <;> omega) | (have e2 : (if 0 < b then b else 0) = 0 := by split <;> omega))
  all_goals exact ⟨by unfold costN; rw [e1, e2]; rfl, rfl⟩
end Go.Proofs.Ytlkkjnacolmmpaa
