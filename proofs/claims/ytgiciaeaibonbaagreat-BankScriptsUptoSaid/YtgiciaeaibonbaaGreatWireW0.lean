
/- The walks of package wire: a copy with room; a number's bytes behind others. The walks of package wire: a number put. The walks of package wire: a text put. The walks of package wire: bytes put. -/
import Derived.Test.YtgiciaeaibonbaaGreatInfo0
import Derived.Test.YtgiciaeaibonbaaGreatBase0
namespace Go.Proofs.YtgiciaeaibonbaaGreat
set_option maxRecDepth 100000
open Go.RowKit

end Go.Proofs.YtgiciaeaibonbaaGreat
namespace Go.Proofs.YtgiciaeaibonbaaGreat
set_option maxRecDepth 100000
open Go.RowKit

end Go.Proofs.YtgiciaeaibonbaaGreat
namespace Go.Proofs.YtgiciaeaibonbaaGreat
set_option maxRecDepth 100000
open Go.RowKit

end Go.Proofs.YtgiciaeaibonbaaGreat
namespace Go.Proofs.YtgiciaeaibonbaaGreat
set_option maxRecDepth 100000
open Go.RowKit

end Go.Proofs.YtgiciaeaibonbaaGreat
