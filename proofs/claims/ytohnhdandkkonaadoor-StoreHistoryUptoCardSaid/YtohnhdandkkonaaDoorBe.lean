
/- Numbers in bytes. -/
import Derived.Test.YtohnhdandkkonaaDoorBase
namespace Go.Proofs.YtohnhdandkkonaaDoor
set_option maxRecDepth 100000
open Go.RowKit

/-- the lowest k bytes of n, the highest of them first -/
def be (n : Nat) : Nat → List UInt8
  | 0 => []
  | k + 1 => UInt8.ofNat (n / 2 ^ (8 * k)) :: be n k
theorem be_length (n k : Nat) : (be n k).length = k := by induction k <;> simp [be, *]


end Go.Proofs.YtohnhdandkkonaaDoor
