
/- Rows of pairs of the call's own. -/
import Derived.Test.YtmphegeiclgjbaaGreatDoorMerkA1
import Derived.Test.YtmphegeiclgjbaaGreatDoorRowR0
namespace Go.Proofs.YtmphegeiclgjbaaGreatDoor
set_option maxRecDepth 100000
open Go Go.RowKit
set_option linter.unusedVariables false
variable {w w' : World} {B B0 : Nat}

theorem Tryz.infoPairL : (Tryz.prog.info? 74).map (fun i => (i.zero, i.size, i.bytes)) = some (some (.agg #[.string ⟨#[]⟩, .slice none 0 0]), 2, 40) := by kernel_rfl
/-- what a pair's two cells say -/
def PrC (B0 : Nat) (w : World) (c : List Value) (p : Pr) : Prop := ∃ v, c = [.string p.1, v] ∧ RdS w B0 v p.2
theorem PrC.grow {c : List Value} {p : Pr} {E : TypeId} (h : PrC B0 w c p) (hg : Grow w B0 E w') (h1 : 5 ≠ E) : PrC B0 w' c p := by
  obtain ⟨v, e, q⟩ := h
  exact ⟨v, e, q.grow hg h1⟩
theorem PrC.up {c : List Value} {p : Pr} (h : PrC B0 w c p) (hb : Below w.heap.size w w') : PrC B0 w' c p := by
  obtain ⟨v, e, q⟩ := h
  exact ⟨v, e, q.up hb⟩
theorem PrC.len {c : List Value} {p : Pr} (h : PrC B0 w c p) : c.length = 2 := by obtain ⟨v, e, _⟩ := h; rw [e]; rfl
theorem PrC.one {c : List Value} {p : Pr} (h : PrC B0 w c p) : ∀ u ∈ c, u.oneCell' = true := by
  obtain ⟨v, e, q⟩ := h
  obtain ⟨A, k, rfl⟩ := q.1.form
  subst e
  intro u hu
  simp only [List.mem_cons, List.not_mem_nil, or_false] at hu
  rcases hu with rfl | rfl <;> rfl
/-- pairs of the call's own -/
abbrev OwnP (B0 : Nat) (w : World) (B : Nat) (v : Value) (ps : List Pr) : Prop := OwnX 74 2 (PrC B0) w B v ps
theorem OwnP.up {v : Value} {ps : List Pr} (h : OwnP B0 w B v ps) (hb : Below w.heap.size w w') : OwnP B0 w' B v ps := OwnX.up h hb fun c a hc => hc.up hb
theorem OwnP.rdP {v : Value} {ps : List Pr} (h : OwnP B0 w B v ps) : RdP w w.heap.size v ps := by
  obtain ⟨A, c, rfl⟩ := h.form
  by_cases h0 : ps.length = 0
  · obtain ⟨cs, hr, _⟩ := h
    rcases hr.2 with ⟨e, _⟩ | ⟨g, cap, cur, hv, hb, hg, hn, hm, hs, ht⟩
    · injection e with _ _ e3
      exact ⟨A, c, rfl, by omega, by subst e3; simp [maxLen], fun h => by omega⟩
    · injection hv with _ _ e3
      exact ⟨A, c, rfl, by omega, by omega, fun h => by omega⟩
  · obtain ⟨b, cs, rfl, -, h1, h2, -, hlt, -⟩ := h.at_ 0 (by omega)
    refine ⟨_, _, rfl, h1, h2, fun _ => ⟨b, 0, rfl, hlt, fun j hj => ?_⟩⟩
    obtain ⟨b', cs', e, -, -, -, -, hlt', -, hcell, v, he, q⟩ := h.at_ j hj
    injection e with e
    injection e with e _
    subst e; subst he
    have c0 := hcell 0 (by omega)
    have c1 := hcell 1 (by omega)
    rw [Nat.zero_add]
    exact ⟨by simpa using c0, v, by simpa using c1, q.1⟩
theorem pairCells_get {W : World} {g : Nat} {x0 x1 : Value} {E : TypeId} (h : W.heap[g]? = some (.cells #[x0, x1] E (0, 0))) (j : Nat) (hj : j < 2) : W.cell? ⟨g, j, none⟩ = [x0, x1][j]? := by
  rw [blk_cell h j]
  simp
end Go.Proofs.YtmphegeiclgjbaaGreatDoor
