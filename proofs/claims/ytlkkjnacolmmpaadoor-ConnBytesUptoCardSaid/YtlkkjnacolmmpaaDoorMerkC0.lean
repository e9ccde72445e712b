
/- The walk of merkle's rows. The walks of merkle: the root, the place of a key. -/
import Derived.Test.YtlkkjnacolmmpaaDoorMerkA0
import Derived.Test.YtlkkjnacolmmpaaDoorRowR0
import Derived.Deep.RegionHeldLaw
namespace Go.Proofs.YtlkkjnacolmmpaaDoor
set_option maxRecDepth 100000
open Go Go.RowKit
set_option linter.unusedVariables false
def sliceLn : Value → Nat
  | .slice _ n _ => n
  | _ => 0

end Go.Proofs.YtlkkjnacolmmpaaDoor
namespace Go.Proofs.YtlkkjnacolmmpaaDoor
set_option maxRecDepth 100000
open Go Go.RowKit
set_option linter.unusedVariables false

end Go.Proofs.YtlkkjnacolmmpaaDoor
