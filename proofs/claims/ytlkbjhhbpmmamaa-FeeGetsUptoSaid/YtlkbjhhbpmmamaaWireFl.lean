
/- The walks of package wire: a flag put. -/
import Derived.Test.YtlkbjhhbpmmamaaWireW0
namespace Go.Proofs.Ytlkbjhhbpmmamaa
set_option maxRecDepth 100000
open Go.RowKit

/-- the byte of a flag -/
def fb (yes : Bool) : UInt8 := if yes then 1 else 0

end Go.Proofs.Ytlkbjhhbpmmamaa
