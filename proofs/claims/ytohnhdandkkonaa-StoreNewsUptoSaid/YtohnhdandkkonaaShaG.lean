
/- The walk of package sha: the sum of a word and parts. -/
import Derived.Test.YtohnhdandkkonaaShaM
import Derived.Test.YtohnhdandkkonaaWireT
import Derived.Test.YtohnhdandkkonaaWireB
namespace Go.Proofs.Ytohnhdandkkonaa
open Go.RowKit

/-- bytes with their length ahead -/
def formB (m : List UInt8) : List UInt8 := be (m.take 65535).length 4 ++ m.take 65535
def formBs (ps : List (List UInt8)) : List UInt8 := ps.flatMap formB
theorem formB_length (m : List UInt8) : (formB m).length ≤ 65539 := by simp [formB, be_length]; omega
theorem formBs_length (ps : List (List UInt8)) : (formBs ps).length ≤ 65539 * ps.length := by
  induction ps with
  | nil => simp [formBs]
  | cons p ps ih => have := formB_length p; simp only [formBs, List.flatMap_cons, List.length_append, List.length_cons] at *; omega
theorem formBs_succ (ps : List (List UInt8)) (t : Nat) (h : t < ps.length) : formBs (ps.take (t + 1)) = formBs (ps.take t) ++ formB ps[t] := by
  unfold formBs
  rw [List.take_add_one, List.flatMap_append, List.getElem?_eq_getElem h]
  simp

/-- the slice value v holds slices that read as the rows ps -/
def Parts (w : World) (B : Nat) (v : Value) (ps : List (List UInt8)) : Prop :=
  ∃ A c, v = .slice A ps.length c ∧ (0 < ps.length → ∃ b o, A = some ⟨b, o, none⟩ ∧ b < B ∧ ∀ j (h : j < ps.length), ∃ x, w.cell? ⟨b, o + j, none⟩ = some x ∧ Rd w B x ps[j])

end Go.Proofs.Ytohnhdandkkonaa
