
/- The walks of package wire: bytes put. -/
import Derived.Test.YtohnhdandkkonaaWireW
namespace Go.Proofs.Ytohnhdandkkonaa
open Go.RowKit

end Go.Proofs.Ytohnhdandkkonaa
