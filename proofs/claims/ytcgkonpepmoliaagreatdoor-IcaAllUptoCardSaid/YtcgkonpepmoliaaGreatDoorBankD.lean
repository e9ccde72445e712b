
/- The walks of the bank's change (Mint). -/
import Derived.Test.YtcgkonpepmoliaaGreatDoorBankA0
import Derived.Test.YtcgkonpepmoliaaGreatDoorLimbA0
namespace Go.Proofs.YtcgkonpepmoliaaGreatDoor
set_option maxRecDepth 100000
open Go Go.RowKit
set_option linter.unusedVariables false

theorem addU_ok' (x y : U4) : (addU x y).1.ok := by
  unfold addU
  split
  · exact ofN_ok _
  · exact zero_ok
end Go.Proofs.YtcgkonpepmoliaaGreatDoor
