/- What the row's list gives: the table of the rounds. -/
import Derived.Test.YtgomhojaappbnaaDoorShaQ
import Derived.Test.YtgomhojaappbnaaDoorRows
import Derived.Test.YtgomhojaappbnaaDoorCards
import Derived.Lib.LaidTab
import Derived.Deep.DeepHandedRow
namespace Go.Proofs.YtgomhojaappbnaaDoor
open Go.RowKit
def kInts : List Int := kTab.map fun x => (x.toNat : Int)
theorem kTabName : Tryd.prog.globalNamed "isthmus/sha.roundTable" = some 0 := by kernel_rfl
theorem kTabType : (Tryd.prog.globals[0]?).map (·.type) = some 66 := by kernel_rfl
theorem kTabUnd : Tryd.prog.underlying 66 = some (.array 64 60) := by kernel_rfl
theorem kTabElem : Tryd.prog.underlying 60 = some (.int .u32) := by kernel_rfl
theorem kTabCells : Tryd.prog.cellsOf 66 = 64 := by kernel_rfl
theorem kElemCells : Tryd.prog.cellsOf 60 = 1 := by kernel_rfl
theorem table_of {W : World} (h : Lib.TabIs Tryd.prog W "isthmus/sha.roundTable" .u32 kInts) : ∃ fr : TypeId × Nat × Nat, W.heap[0]? = some (.cells kVals fr.1 fr.2) := by
  unfold Lib.TabIs World.var? at h
  rw [kTabName] at h
  simp only [Option.bind_some] at h
  split at h
  · next cs t fz hc =>
    injection h with h
    refine ⟨(t, fz), ?_⟩
    rw [hc, h]
    simp [kInts, kVals, w32, Function.comp_def]
  · cases h
theorem table {W : World} (h : laidMetH Tryd.prog [("isthmus/sha.roundTable", Rows.laid_isthmus_sha_roundTable)] W) : ∃ fr : TypeId × Nat × Nat, W.heap[0]? = some (.cells kVals fr.1 fr.2) :=
  table_of (Lib.tabIs_of_head (rest := []) kTabName kTabType kTabUnd kTabElem kElemCells kTabCells h)
end Go.Proofs.YtgomhojaappbnaaDoor
