
/- The walks of package wire: a copy with room; a number's bytes behind others. -/
import Derived.Test.YtohnhdandkkonaaInfo
import Derived.Test.YtohnhdandkkonaaBe
namespace Go.Proofs.Ytohnhdandkkonaa
open Go.RowKit

end Go.Proofs.Ytohnhdandkkonaa
