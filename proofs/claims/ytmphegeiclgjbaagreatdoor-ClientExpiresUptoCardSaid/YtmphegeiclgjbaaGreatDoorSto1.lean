
/- isthmusref09.Same, walked: two rows of pairs, pair by pair. -/
import Derived.Test.YtmphegeiclgjbaaGreatDoorPrX
import Derived.Deep.RegionHeldLaw
import Derived.Lib.Strings
import Derived.Lib.Slices
namespace Go.Proofs.YtmphegeiclgjbaaGreatDoor
set_option maxRecDepth 100000
open Go Go.RowKit
set_option linter.unusedVariables false

end Go.Proofs.YtmphegeiclgjbaaGreatDoor
