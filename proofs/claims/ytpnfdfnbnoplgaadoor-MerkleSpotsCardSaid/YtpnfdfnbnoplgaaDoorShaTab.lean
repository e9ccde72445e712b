
/- What the row's list gives: the table of the rounds. -/
import Derived.Test.YtpnfdfnbnoplgaaDoorShaQ
import Derived.Test.YtpnfdfnbnoplgaaDoorRows
import Derived.Test.YtpnfdfnbnoplgaaDoorCards
import Derived.Lib.LaidTab
import Derived.Deep.DeepHandedRow
namespace Go.Proofs.YtpnfdfnbnoplgaaDoor
open Go.RowKit
def kInts : List Int := kTab.map fun x => (x.toNat : Int)
theorem kTabName : Tryd.prog.globalNamed "isthmus/sha.roundTable" = some 0 := by kernel_rfl
theorem kTabType : (Tryd.prog.globals[0]?).map (·.type) = some 81 := by kernel_rfl
theorem kTabUnd : Tryd.prog.underlying 81 = some (.array 64 75) := by kernel_rfl
theorem kTabElem : Tryd.prog.underlying 75 = some (.int .u32) := by kernel_rfl
theorem kTabCells : Tryd.prog.cellsOf 81 = 64 := by kernel_rfl
theorem kElemCells : Tryd.prog.cellsOf 75 = 1 := by kernel_rfl
theorem table_of {W : World} (h : Lib.TabIs Tryd.prog W "isthmus/sha.roundTable" .u32 kInts) : ∃ fr : TypeId × Nat × Nat, W.heap[0]? = some (.cells kVals fr.1 fr.2) := by
  unfold Lib.TabIs World.var? at h
  rw [kTabName] at h
  simp only [Option.bind_some] at h
  split at h
  · next cs t fz hc =>
    injection h with h
    refine ⟨(t, fz), ?_⟩
    rw [hc, h]
    simp [kInts, kVals, w32, Function.comp_def]
  · cases h
theorem table {W : World} (h : laidMetH Tryd.prog [("isthmus/sha.roundTable", Rows.laid_isthmus_sha_roundTable)] W) : ∃ fr : TypeId × Nat × Nat, W.heap[0]? = some (.cells kVals fr.1 fr.2) :=
  table_of (Lib.tabIs_of_head (rest := []) kTabName kTabType kTabUnd kTabElem kElemCells kTabCells h)
end Go.Proofs.YtpnfdfnbnoplgaaDoor
