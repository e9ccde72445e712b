
/- The walk of the laws' own comparison of bytes. -/
import Derived.Test.YtohnhdandkkonaaDoorInfo
namespace Go.Proofs.YtohnhdandkkonaaDoor
set_option maxRecDepth 100000
open Go.RowKit

/-- are the two the same bytes? -/
def sameB (l m : List UInt8) : Bool := decide (l = m)
theorem sameB_refl (l : List UInt8) : sameB l l = true := by simp [sameB]
theorem sameB_yes {l m : List UInt8} (h : l = m) : sameB l m = true := by simp [sameB, h]
theorem sameB_no {l m : List UInt8} (h : l ≠ m) : sameB l m = false := by simp [sameB, h]

theorem bval_ne {x y : UInt8} : ((x.toNat : Int) = (y.toNat : Int)) ↔ x = y := by
  constructor
  · intro h
    exact UInt8.toNat_inj.1 (by omega)
  · rintro rfl; rfl

end Go.Proofs.YtohnhdandkkonaaDoor
