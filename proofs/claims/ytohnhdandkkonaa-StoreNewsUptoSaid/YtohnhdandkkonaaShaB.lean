
/- The walk of package sha: the first state. -/
import Derived.Test.YtohnhdandkkonaaShaK
import Derived.Test.YtohnhdandkkonaaPart
namespace Go.Proofs.Ytohnhdandkkonaa
open Go.RowKit
def s0 : S8 := ⟨0x6a09e667, 0xbb67ae85, 0x3c6ef372, 0xa54ff53a, 0x510e527f, 0x9b05688c, 0x1f83d9ab, 0x5be0cd19⟩
end Go.Proofs.Ytohnhdandkkonaa

