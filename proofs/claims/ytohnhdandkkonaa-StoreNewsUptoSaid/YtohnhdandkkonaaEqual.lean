
/- bytes.Equal. -/
import Derived.Test.YtohnhdandkkonaaSame
import Derived.Test.YtohnhdandkkonaaBase
import Derived.LoopTactic
namespace Go.Proofs.Ytohnhdandkkonaa
open Go Go.RowKit

end Go.Proofs.Ytohnhdandkkonaa
