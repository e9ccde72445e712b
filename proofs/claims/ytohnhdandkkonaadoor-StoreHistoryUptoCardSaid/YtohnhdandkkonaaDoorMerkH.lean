
/- The walk of merkle's Absent. -/
import Derived.Test.YtohnhdandkkonaaDoorMerkE0
namespace Go.Proofs.YtohnhdandkkonaaDoor
set_option maxRecDepth 100000
open Go Go.RowKit
set_option linter.unusedVariables false
variable {w w' : World} {B : Nat}

def absentB (root : List UInt8) (key : ByteArray) (p : Pf) : Bool := keyB key && match p.ls with
  | [] => decide (p.n = 0) && sameB root rootE
  | [l] => ((decide (l.at_ = 0) && !(ltS l.key key || l.key.toList == key.toList)) || (decide (l.at_ = IntKind.i64.wrap (p.n - 1)) && ltS l.key key)) && holdsB root p.n l
  | [a, b] => (decide (IntKind.i64.wrap (a.at_ + 1) = b.at_) && (ltS a.key key && ltS key b.key)) && (holdsB root p.n a && holdsB root p.n b)
  | _ => false
theorem absentB_key {root : List UInt8} {key : ByteArray} {p : Pf} (h : keyB key = false) : absentB root key p = false := by unfold absentB; rw [h]; rfl
theorem absentB_nil {root : List UInt8} {key : ByteArray} {n : Int} (h : keyB key = true) : absentB root key ⟨n, []⟩ = (decide (n = 0) && sameB root rootE) := by unfold absentB; rw [h]; rfl
theorem absentB_one {root : List UInt8} {key : ByteArray} {n : Int} {l : Lf} (h : keyB key = true) : absentB root key ⟨n, [l]⟩ = (((decide (l.at_ = 0) && !(ltS l.key key || l.key.toList == key.toList)) || (decide (l.at_ = IntKind.i64.wrap (n - 1)) && ltS l.key key)) && holdsB root n l) := by unfold absentB; rw [h]; rfl
theorem absentB_two {root : List UInt8} {key : ByteArray} {n : Int} {a b : Lf} (h : keyB key = true) : absentB root key ⟨n, [a, b]⟩ = ((decide (IntKind.i64.wrap (a.at_ + 1) = b.at_) && (ltS a.key key && ltS key b.key)) && (holdsB root n a && holdsB root n b)) := by unfold absentB; rw [h]; rfl
theorem absentB_more {root : List UInt8} {key : ByteArray} {n : Int} {ls : List Lf} (h3 : 3 ≤ ls.length) : absentB root key ⟨n, ls⟩ = false := by
  rcases ls with _ | ⟨a, _ | ⟨b, _ | ⟨c, l⟩⟩⟩
  · simp at h3
  · simp at h3
  · simp at h3
  · unfold absentB; simp
theorem sameB_comm (a b : List UInt8) : sameB a b = sameB b a := by unfold sameB; exact decide_eq_decide.2 ⟨Eq.symm, Eq.symm⟩

end Go.Proofs.YtohnhdandkkonaaDoor
