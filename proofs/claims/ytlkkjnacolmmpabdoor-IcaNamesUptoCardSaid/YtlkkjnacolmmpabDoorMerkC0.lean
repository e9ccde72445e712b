
/- The walk of merkle's rows. The walks of merkle: the root, the place of a key. -/
import Derived.Test.YtlkkjnacolmmpabDoorMerkA0
import Derived.Test.YtlkkjnacolmmpabDoorRowR0
import Derived.Deep.RegionHeldLaw
namespace Go.Proofs.YtlkkjnacolmmpabDoor
set_option maxRecDepth 100000
open Go Go.RowKit
set_option linter.unusedVariables false
def sliceLn : Value → Nat
  | .slice _ n _ => n
  | _ => 0

end Go.Proofs.YtlkkjnacolmmpabDoor
namespace Go.Proofs.YtlkkjnacolmmpabDoor
set_option maxRecDepth 100000
open Go Go.RowKit
set_option linter.unusedVariables false

end Go.Proofs.YtlkkjnacolmmpabDoor
