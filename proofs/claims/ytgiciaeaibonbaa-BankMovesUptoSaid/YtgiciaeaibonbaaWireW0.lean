
/- The walks of package wire: a copy with room; a number's bytes behind others. The walks of package wire: a number put. The walks of package wire: a text put. The walks of package wire: bytes put. -/
import Derived.Test.YtgiciaeaibonbaaInfo0
import Derived.Test.YtgiciaeaibonbaaBase0
namespace Go.Proofs.Ytgiciaeaibonbaa
set_option maxRecDepth 100000
open Go.RowKit

end Go.Proofs.Ytgiciaeaibonbaa
namespace Go.Proofs.Ytgiciaeaibonbaa
set_option maxRecDepth 100000
open Go.RowKit

end Go.Proofs.Ytgiciaeaibonbaa
namespace Go.Proofs.Ytgiciaeaibonbaa
set_option maxRecDepth 100000
open Go.RowKit

end Go.Proofs.Ytgiciaeaibonbaa
namespace Go.Proofs.Ytgiciaeaibonbaa
set_option maxRecDepth 100000
open Go.RowKit

end Go.Proofs.Ytgiciaeaibonbaa
