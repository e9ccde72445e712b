
/- bytes.Equal. -/
import Derived.Test.YtohnhdandkkonaaDoorSame
import Derived.Test.YtohnhdandkkonaaDoorBase
import Derived.LoopTactic
namespace Go.Proofs.YtohnhdandkkonaaDoor
set_option maxRecDepth 100000
open Go Go.RowKit

end Go.Proofs.YtohnhdandkkonaaDoor
