
/- The walk of merkle's rows. The walks of merkle: the root, the place of a key. -/
import Derived.Test.YtohnhdandkkonaaMerkA0
import Derived.Test.YtohnhdandkkonaaRowR0
import Derived.Deep.RegionHeldLaw
namespace Go.Proofs.Ytohnhdandkkonaa
open Go Go.RowKit
set_option linter.unusedVariables false
def sliceLn : Value → Nat
  | .slice _ n _ => n
  | _ => 0

end Go.Proofs.Ytohnhdandkkonaa
namespace Go.Proofs.Ytohnhdandkkonaa
open Go Go.RowKit
set_option linter.unusedVariables false

end Go.Proofs.Ytohnhdandkkonaa
