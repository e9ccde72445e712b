
/- The document's merkle: the same bytes; the document's own check of a way, against the model's (mathematics). -/
import Derived.Test.YtohnhdandkkonaaDoorEqual
import Derived.Test.YtohnhdandkkonaaDoorMerkE0
namespace Go.Proofs.YtohnhdandkkonaaDoor
set_option maxRecDepth 100000
open Go Go.RowKit

/-- the document's check: hashes are taken from the way's end, each of 32 bytes -/
def upD : Nat → List UInt8 → Nat → Nat → List (List UInt8) → Option (List UInt8)
  | 0, _, _, _, _ => none
  | f + 1, h, i, m, p => if m = 1 then (if p = [] then some h else none) else match p.getLast? with
    | none => none
    | some b => if b.length = 32 then (if i < cutM m then (upD f h i (cutM m) p.dropLast).map (nodeH · b) else (upD f h (i - cutM m) (m - cutM m) p.dropLast).map (nodeH b ·)) else none
theorem upD_eq : ∀ (f m : Nat) (h : List UInt8) (i : Nat) (p : List (List UInt8)), m ≤ f → 1 ≤ m → i < m → (∀ x ∈ p, x.length = 32) → upD f h i m p = upT nodeH h i m p := by
  intro f
  induction f with
  | zero => intro m h i p h1 h2; omega
  | succ f ih =>
    intro m h i p h1 h2 hi hp
    unfold upD
    by_cases hm : m = 1
    · rw [if_pos hm, upT_one nodeH h i m p (by omega)]
    · rw [if_neg hm, upT_cut nodeH m h i p (by omega) hi]
      obtain ⟨c1, c2, c3⟩ := cutM_lt (m := m) (by omega)
      cases hl : p.getLast? with
      | none => rfl
      | some b =>
        have hb : b.length = 32 := hp b (List.mem_of_getLast? hl)
        have hd : ∀ x ∈ p.dropLast, x.length = 32 := fun x hx => hp x (List.dropLast_subset p hx)
        dsimp only
        rw [if_pos hb]
        by_cases hc : i < cutM m
        · rw [if_pos hc, if_pos hc, ih (cutM m) h i p.dropLast (by omega) c3 hc hd]
        · rw [if_neg hc, if_neg hc, ih (m - cutM m) h (i - cutM m) p.dropLast (by omega) (by omega) (by omega) hd]
/-- where the document's check gives a hash, each of the way's hashes has 32 bytes -/
theorem upD_32 : ∀ (f m : Nat) (h : List UInt8) (i : Nat) (p : List (List UInt8)) (z : List UInt8), upD f h i m p = some z → ∀ x ∈ p, x.length = 32 := by
  intro f
  induction f with
  | zero => intro m h i p z e; simp [upD] at e
  | succ f ih =>
    intro m h i p z e
    unfold upD at e
    by_cases hm : m = 1
    · rw [if_pos hm] at e
      by_cases hp : p = []
      · subst hp; intro x hx; simp at hx
      · rw [if_neg hp] at e; cases e
    · rw [if_neg hm] at e
      cases hl : p.getLast? with
      | none => rw [hl] at e; cases e
      | some b =>
        rw [hl] at e
        dsimp only at e
        by_cases hb : b.length = 32
        · rw [if_pos hb] at e
          have hd : ∀ x ∈ p.dropLast, x.length = 32 := by
            by_cases hc : i < cutM m
            · rw [if_pos hc] at e
              obtain ⟨y, hy, _⟩ := Option.map_eq_some_iff.1 e
              exact ih _ _ _ _ _ hy
            · rw [if_neg hc] at e
              obtain ⟨y, hy, _⟩ := Option.map_eq_some_iff.1 e
              exact ih _ _ _ _ _ hy
          obtain ⟨q, rfl⟩ : ∃ q, p = q ++ [b] := List.getLast?_eq_some_iff.1 hl
          intro x hx
          rw [List.dropLast_concat] at hd
          rcases List.mem_append.1 hx with hx | hx
          · exact hd x hx
          · simp only [List.mem_cons, List.not_mem_nil, or_false] at hx
            subst hx
            exact hb
        · rw [if_neg hb] at e; cases e
end Go.Proofs.YtohnhdandkkonaaDoor
