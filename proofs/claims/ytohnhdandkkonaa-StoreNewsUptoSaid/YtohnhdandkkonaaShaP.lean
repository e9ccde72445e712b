
/- The walk of package sha: the last bytes of a message. -/
import Derived.Test.YtohnhdandkkonaaShaT
import Derived.Test.YtohnhdandkkonaaPart
import Derived.Test.YtohnhdandkkonaaWireN
import Derived.Test.YtohnhdandkkonaaTac
import Derived.Deep.RegionHeldLaw
namespace Go.Proofs.Ytohnhdandkkonaa
open Go.RowKit

/-- how long the filled-up rest is -/
def fullOf (n : Nat) : Nat := (n + 72) / 64 * 64
def pad (l : List UInt8) (size : Nat) : List UInt8 := over ((over (List.replicate (fullOf l.length) 0) 0 l).set l.length 128) (fullOf l.length - 8) (be (8 * size % 18446744073709551616) 8)
theorem fullOf_le (n : Nat) : n + 9 ≤ fullOf n ∧ fullOf n ≤ n + 72 := by unfold fullOf; omega
theorem pad_length (l : List UInt8) (size : Nat) : (pad l size).length = fullOf l.length := by
  have := fullOf_le l.length
  unfold pad
  have h1 : (over (List.replicate (fullOf l.length) 0) 0 l).length = fullOf l.length := by rw [over_length (by simp; omega)]; simp
  rw [over_length (by rw [be_length, List.length_set, h1]; omega), List.length_set, h1]

end Go.Proofs.Ytohnhdandkkonaa
