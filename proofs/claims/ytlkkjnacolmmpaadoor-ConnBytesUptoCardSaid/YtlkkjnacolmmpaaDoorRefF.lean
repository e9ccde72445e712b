
/- The walks of the document's puts: a flag. -/
import Derived.Test.YtlkkjnacolmmpaaDoorInfo0
import Derived.Test.YtlkkjnacolmmpaaDoorWireFl
namespace Go.Proofs.YtlkkjnacolmmpaaDoor
set_option maxRecDepth 100000
open Go.RowKit

end Go.Proofs.YtlkkjnacolmmpaaDoor
