
/- How long a sum is. -/
import Derived.Test.YtohnhdandkkonaaDoorShaM
namespace Go.Proofs.YtohnhdandkkonaaDoor
set_option maxRecDepth 100000
open Go.RowKit

theorem rounds_len (s : S8) : s.bytes.length = 32 := rfl
theorem shaSum_length (l : List UInt8) : (shaSum l).length = 32 := rounds_len _
end Go.Proofs.YtohnhdandkkonaaDoor
