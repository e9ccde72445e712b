
/- The walks of package wire: a text put. -/
import Derived.Test.YtohnhdandkkonaaWireW
namespace Go.Proofs.Ytohnhdandkkonaa
open Go.RowKit

end Go.Proofs.Ytohnhdandkkonaa
