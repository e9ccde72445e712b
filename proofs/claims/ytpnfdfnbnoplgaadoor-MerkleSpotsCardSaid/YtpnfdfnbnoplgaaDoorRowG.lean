
/- Rows stay where a block of another type is written to. -/
import Derived.Test.YtpnfdfnbnoplgaaDoorRowR
namespace Go.Proofs.YtpnfdfnbnoplgaaDoor
open Go Go.RowKit
section
variable {w w' w1 : World} {B0 B g : Nat} {E : TypeId} {v : Value} {l : List UInt8} {ls : List (List UInt8)}
theorem Own.grow (h : Own w B v l) (hg : Grow w B0 E w') (hB : B0 ≤ B) (hE : 5 ≠ E) : Own w' B v l := by
  obtain ⟨row, hg, hr⟩ := hg
  refine h.grown hg ?_
  cases hv : v.ownBlock with
  | none => exact .inl rfl
  | some b =>
    right
    intro e
    obtain ⟨h1, cs, fr, h2⟩ := hr b e.symm
    rcases h.2 with ⟨rfl, _⟩ | ⟨g', cap, cur, rfl, hb, hg', _⟩
    · simp [Value.ownBlock] at hv
    · simp only [Value.ownBlock, Option.some.injEq] at hv
      subst hv
      rw [hg'] at h2
      injection h2 with h2
      injection h2 with _ h2 _
      exact hE h2
theorem OwnR.grow (h : OwnR w B0 B v ls) (hg : Grow w B0 E w') (hE : 5 ≠ E) (hE2 : 23 ≠ E) : OwnR w' B0 B v ls := by
  obtain ⟨vs, h, hr⟩ := h
  refine ⟨vs, ?_, fun j hj => ?_⟩
  · obtain ⟨row, hg, hrow⟩ := hg
    refine World.ownsRow.kept h hg ?_
    cases hv : v.ownBlock with
    | none => exact .inl rfl
    | some b =>
      right
      intro e
      obtain ⟨h1, cs, fr, h2⟩ := hrow b e.symm
      rcases h.2 with ⟨rfl, _⟩ | ⟨g', cap, cur, rfl, hb, hg', _⟩
      · simp [Value.ownBlock] at hv
      · simp only [Value.ownBlock, Option.some.injEq] at hv
        subst hv
        rw [hg'] at h2
        injection h2 with h2
        injection h2 with _ h2 _
        exact hE2 h2
  · obtain ⟨x, hx, hrd⟩ := hr j hj
    exact ⟨x, hx, hrd.grow hg hE⟩
theorem grown_set (h : w.grownBy w1 (some g)) (j : Nat) (x : Value) : w.grownBy (w1.setCell ⟨g, j, none⟩ x) (some g) :=
  ⟨h.os, h.tape, h.output, by have := h.size; simpa [World.setCell] using this, fun k hk hne => by
    rw [← h.block k hk hne]
    have : g ≠ k := fun e => hne (by rw [e])
    simp [World.setCell, Array.getElem?_modify, this]⟩
theorem grow_of {cs : Array Value} {fr : Nat × Nat} (h : w.grownBy w' (some g)) (hB : B0 ≤ g) (hg : w.heap[g]? = some (.cells cs E fr)) : Grow w B0 E w' :=
  ⟨some g, h, fun k e => by injection e with e; subst e; exact ⟨hB, cs, fr, hg⟩⟩
theorem grown_set4 (w : World) (g : Nat) (x0 x1 x2 x3 : Value) : w.grownBy ((((w.setCell ⟨g, 0, none⟩ x0).setCell ⟨g, 1, none⟩ x1).setCell ⟨g, 2, none⟩ x2).setCell ⟨g, 3, none⟩ x3) (some g) :=
  grown_set (grown_set (grown_set (grown_set (World.grownBy.refl w _) 0 x0) 1 x1) 2 x2) 3 x3
theorem blk_set4 {y0 y1 y2 y3 : Value} (h : w.heap[g]? = some (.cells #[y0, y1, y2, y3] E (0, 0))) (x0 x1 x2 x3 : Value) : ((((w.setCell ⟨g, 0, none⟩ x0).setCell ⟨g, 1, none⟩ x1).setCell ⟨g, 2, none⟩ x2).setCell ⟨g, 3, none⟩ x3).heap[g]? = some (.cells #[x0, x1, x2, x3] E (0, 0)) := by
  have := blk_set (blk_set (blk_set (blk_set h 0 x0) 1 x1) 2 x2) 3 x3
  simpa using this
end
end Go.Proofs.YtpnfdfnbnoplgaaDoor
