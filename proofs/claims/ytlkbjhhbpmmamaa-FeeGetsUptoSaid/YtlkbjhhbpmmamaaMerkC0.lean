
/- The walk of merkle's rows. The walks of merkle: the root, the place of a key. -/
import Derived.Test.YtlkbjhhbpmmamaaMerkA0
import Derived.Test.YtlkbjhhbpmmamaaRowR0
import Derived.Deep.RegionHeldLaw
namespace Go.Proofs.Ytlkbjhhbpmmamaa
set_option maxRecDepth 100000
open Go Go.RowKit
set_option linter.unusedVariables false
def sliceLn : Value → Nat
  | .slice _ n _ => n
  | _ => 0

end Go.Proofs.Ytlkbjhhbpmmamaa
namespace Go.Proofs.Ytlkbjhhbpmmamaa
set_option maxRecDepth 100000
open Go Go.RowKit
set_option linter.unusedVariables false

end Go.Proofs.Ytlkbjhhbpmmamaa
