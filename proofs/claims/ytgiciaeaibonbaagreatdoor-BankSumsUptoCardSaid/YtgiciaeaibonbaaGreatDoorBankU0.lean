
/- What a call of the bank makes of a store. -/
import Derived.Test.YtgiciaeaibonbaaGreatDoorBankM0
namespace Go.Proofs.YtgiciaeaibonbaaGreatDoor
set_option maxRecDepth 100000
open Go
set_option linter.unusedVariables false
/-- what a call of the bank makes of a store -/
def stepM (R : List Pr) (kd : Int) (a c d : ByteArray) (x : U4) : List Pr := if kd = 1 then (mintM R a d x).2 else if kd = 2 then (burnM R a d x).2 else if kd = 3 then (sendM R a c d x).2 else R
theorem addU_okm (x y : U4) : (addU x y).1.ok := by
  unfold addU
  split
  · exact ofN_ok _
  · exact zero_ok
theorem subU_okm (x y : U4) : (subU x y).1.ok := by
  unfold subU
  split
  · exact ofN_ok _
  · exact zero_ok
section
variable {R : List Pr} {a b c d : ByteArray} {x : U4}
theorem CanonL.nil : CanonL [] := fun p hp => by cases hp
theorem CanonL.change {op : U4 → U4 → U4 × Bool} {u : Int} (h : CanonL R) (ho : ∀ x y, (op x y).1.ok) : CanonL (changeM op u R a d x).2 := by
  unfold changeM
  split
  · split
    · exact (h.keep _ (ho _ _)).keep _ (ho _ _)
    · exact h
  · exact h
theorem CanonL.send (h : CanonL R) : CanonL (sendM R a b d x).2 := by
  unfold sendM
  split
  · split
    · split
      · split
        · exact h
        · split
          · exact (h.keep _ (subU_okm _ _)).keep _ (addU_okm _ _)
          · exact h
      · exact h
    · exact h
  · exact h
end
end Go.Proofs.YtgiciaeaibonbaaGreatDoor
