
/- A row of truth values in a struct, opened. -/
import Derived.Test.YtbbpkenbeenocaaOpenF
namespace Go.Proofs.Ytbbpkenbeenocaa
set_option maxRecDepth 100000
open Go Go.ChangeShapes Go.WideShapes Go.ChangeAt Go.RowKit Go.Deep
set_option linter.unusedVariables false

theorem open_bools_cell {H : Type} {enc : TypeId × Value → H} {W : World} {fuel : Nat} {v : Value} {x : DataW H × List MemPlace}
    (h : DataW.trod enc Try.prog W 0 (fun _ => true) true fuel 41 [v] = some x) : ∃ l : List Bool, RdL W W.heap.size v l ∧ l.length ≤ Rows.uptoBulk x.1 := by
  rcases open_bools Try.underlying41 Try.underlying4 (by kernel_rfl) h with ⟨hcs, hx⟩ | ⟨a, len, cap, S, hcs, _, hl, hcm, hx, hi⟩
  · simp at hcs
    subst hcs
    exact ⟨[], ⟨none, 0, rfl, by simp, by simp [maxLen], fun h => absurd h (by simp)⟩, by simp⟩
  · simp at hcs
    subst hcs
    refine ⟨(List.range len).map S, ⟨some a, cap, by simp, by simpa using hl, hcm, fun h0 => ?_⟩, ?_⟩
    · simp at h0
      have q0 := hi 0 (by omega)
      obtain ⟨b, o, spot⟩ := a
      have hspot : spot = none := by simpa [Addr.add] using World.cell?_spot q0
      subst hspot
      refine ⟨b, o, rfl, ?_, fun j hj => ?_⟩
      · have := World.block_lt_of_cell? W _ q0
        simpa [Addr.add] using this
      · simp at hj
        have qj := hi j (by omega)
        rw [addr_add_none] at qj
        rw [qj]
        simp
    · rw [hx]
      simp only [boolRow]
      have := slice_bulk' ((List.range len).map fun i => DataW.lit (H := H) (.bool (S i))) ((List.range (cap - len)).map fun j => .lit (.bool (S (len + j))))
      simpa using this
theorem bulk_one {H : Type} : ∀ (l : List (DataW H)) (x : DataW H), x ∈ l → Rows.uptoBulk x ≤ Rows.uptoBulkAll l := by
  intro l
  induction l with
  | nil => intro x h; simp at h
  | cons y l ih =>
    intro x h
    simp only [Rows.uptoBulkAll]
    simp only [List.mem_cons] at h
    rcases h with rfl | h
    · omega
    · have := ih x h; omega
end Go.Proofs.Ytbbpkenbeenocaa
