
/- A bank's store: its root. -/
import Derived.Test.YtgiciaeaibonbaaGreatDoorBankF0
import Derived.Test.YtgiciaeaibonbaaGreatDoorStoR
namespace Go.Proofs.YtgiciaeaibonbaaGreatDoor
set_option maxRecDepth 100000
open Go Go.RowKit
set_option linter.unusedVariables false

theorem Kept.block {w w' : World} (h : Kept w w') {b : Nat} {cs : Array Value} {t : TypeId} {fr : Nat × Nat} (hb : w.heap[b]? = some (.cells cs t fr)) : w'.heap[b]? = some (.cells cs t fr) := by
  obtain ⟨F, h1, h2⟩ := h
  have hn : ¬ F b := fun k => by
    obtain ⟨es, c, e⟩ := h2 _ k
    rw [hb] at e; cases e
  exact (h1.block b (blk_lt hb) hn).trans hb
theorem Acc.root {W W' : World} {y : Lyr} {R : List Pr} {k : Nat} (h : Acc W y R k W') (hn : y.n + k ≤ 1000000000) (fr : TypeId × Nat × Nat) (hk : W'.heap[1]? = some (.cells kVals fr.1 fr.2)) :
    Calls Tryz.prog 6 #[.pointer (some ⟨y.b, 0, none⟩)] W' fun e w' => ∃ v, e = .returned v ∧ Own w' W'.heap.size v (rootM R).1 ∧ Below W'.heap.size W' w' := by
  obtain ⟨n, f, h1, h2, h3, h4⟩ := h.b
  exact sroot_any h1 (by simp [sumN]; omega) h2 fr hk
end Go.Proofs.YtgiciaeaibonbaaGreatDoor
