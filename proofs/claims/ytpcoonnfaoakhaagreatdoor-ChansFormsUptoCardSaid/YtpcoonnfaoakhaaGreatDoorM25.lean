/- Texts joined: ShaTab0. -/
import Derived.Test.YtpcoonnfaoakhaaGreatDoorM04
import Derived.Test.YtpcoonnfaoakhaaGreatDoorRows
import Derived.Test.YtpcoonnfaoakhaaGreatDoorCards
import Derived.Lib.LaidTab
import Derived.Deep.DeepHandedRow
import Derived.LaidSub
namespace Go.Proofs.YtpcoonnfaoakhaaGreatDoor
set_option maxRecDepth 100000
open Go.RowKit
def kInts : List Int := kTab.map fun x => (x.toNat : Int)
theorem kTabName : Tryz.prog.globalNamed "isthmus/sha.roundTable" = some 0 := by kernel_rfl
theorem kTabType : (Tryz.prog.globals[0]?).map (·.type) = some 227 := by kernel_rfl
theorem kTabUnd : Tryz.prog.underlying 227 = some (.array 64 161) := by kernel_rfl
theorem kTabElem : Tryz.prog.underlying 161 = some (.int .u32) := by kernel_rfl
theorem kTabCells : Tryz.prog.cellsOf 227 = 64 := by kernel_rfl
theorem kElemCells : Tryz.prog.cellsOf 161 = 1 := by kernel_rfl
theorem table_of {W : World} (h : Lib.TabIs Tryz.prog W "isthmus/sha.roundTable" .u32 kInts) : ∃ fr : TypeId × Nat × Nat, W.heap[0]? = some (.cells kVals fr.1 fr.2) := by
  unfold Lib.TabIs World.var? at h
  rw [kTabName] at h
  simp only [Option.bind_some] at h
  split at h
  · next cs t fz hc =>
    injection h with h
    refine ⟨(t, fz), ?_⟩
    rw [hc, h]
    simp [kInts, kVals, w32, Function.comp_def]
  · cases h
theorem table {W : World} (h : laidMetH Tryz.prog [("isthmus/sha.roundTable", Rows.laid_isthmus_sha_roundTable)] W) : ∃ fr : TypeId × Nat × Nat, W.heap[0]? = some (.cells kVals fr.1 fr.2) :=
  table_of (Lib.tabIs_of_head (rest := []) kTabName kTabType kTabUnd kTabElem kElemCells kTabCells h)
end Go.Proofs.YtpcoonnfaoakhaaGreatDoor
namespace Go.Proofs.YtpcoonnfaoakhaaGreatDoor
set_option maxRecDepth 100000
open Go.RowKit
end Go.Proofs.YtpcoonnfaoakhaaGreatDoor
