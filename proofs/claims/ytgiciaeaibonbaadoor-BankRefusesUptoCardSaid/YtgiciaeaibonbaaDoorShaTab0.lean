
/- What the row's list gives: the table of the rounds. What a row's list of both tables gives. -/
import Derived.Test.YtgiciaeaibonbaaDoorShaS0
import Derived.Test.YtgiciaeaibonbaaDoorRows
import Derived.Test.YtgiciaeaibonbaaDoorCards
import Derived.Lib.LaidTab
import Derived.Deep.DeepHandedRow
import Derived.LaidSub
namespace Go.Proofs.YtgiciaeaibonbaaDoor
set_option maxRecDepth 100000
open Go.RowKit
def kInts : List Int := kTab.map fun x => (x.toNat : Int)
theorem kTabName : Tryd.prog.globalNamed "isthmus/sha.roundTable" = some 1 := by kernel_rfl
theorem kTabType : (Tryd.prog.globals[1]?).map (·.type) = some 115 := by kernel_rfl
theorem kTabUnd : Tryd.prog.underlying 115 = some (.array 64 100) := by kernel_rfl
theorem kTabElem : Tryd.prog.underlying 100 = some (.int .u32) := by kernel_rfl
theorem kTabCells : Tryd.prog.cellsOf 115 = 64 := by kernel_rfl
theorem kElemCells : Tryd.prog.cellsOf 100 = 1 := by kernel_rfl
theorem table_of {W : World} (h : Lib.TabIs Tryd.prog W "isthmus/sha.roundTable" .u32 kInts) : ∃ fr : TypeId × Nat × Nat, W.heap[1]? = some (.cells kVals fr.1 fr.2) := by
  unfold Lib.TabIs World.var? at h
  rw [kTabName] at h
  simp only [Option.bind_some] at h
  split at h
  · next cs t fz hc =>
    injection h with h
    refine ⟨(t, fz), ?_⟩
    rw [hc, h]
    simp [kInts, kVals, w32, Function.comp_def]
  · cases h
theorem table {W : World} (h : laidMetH Tryd.prog [("isthmus/sha.roundTable", Rows.laid_isthmus_sha_roundTable)] W) : ∃ fr : TypeId × Nat × Nat, W.heap[1]? = some (.cells kVals fr.1 fr.2) :=
  table_of (Lib.tabIs_of_head (rest := []) kTabName kTabType kTabUnd kTabElem kElemCells kTabCells h)
end Go.Proofs.YtgiciaeaibonbaaDoor
namespace Go.Proofs.YtgiciaeaibonbaaDoor
set_option maxRecDepth 100000
open Go.RowKit
end Go.Proofs.YtgiciaeaibonbaaDoor
