
/- What the row's list gives: the table of the rounds. What a row's list of both tables gives. -/
import Derived.Test.YtaafaaoioleokaaGreatDoorShaS0
import Derived.Test.YtaafaaoioleokaaGreatDoorRows
import Derived.Test.YtaafaaoioleokaaGreatDoorCards
import Derived.Lib.LaidTab
import Derived.Deep.DeepHandedRow
import Derived.LaidSub
namespace Go.Proofs.YtaafaaoioleokaaGreatDoor
set_option maxRecDepth 100000
open Go.RowKit
def kInts : List Int := kTab.map fun x => (x.toNat : Int)
theorem kTabName : Tryz.prog.globalNamed "isthmus/sha.roundTable" = some 2 := by kernel_rfl
theorem kTabType : (Tryz.prog.globals[2]?).map (·.type) = some 276 := by kernel_rfl
theorem kTabUnd : Tryz.prog.underlying 276 = some (.array 64 254) := by kernel_rfl
theorem kTabElem : Tryz.prog.underlying 254 = some (.int .u32) := by kernel_rfl
theorem kTabCells : Tryz.prog.cellsOf 276 = 64 := by kernel_rfl
theorem kElemCells : Tryz.prog.cellsOf 254 = 1 := by kernel_rfl
theorem table_of {W : World} (h : Lib.TabIs Tryz.prog W "isthmus/sha.roundTable" .u32 kInts) : ∃ fr : TypeId × Nat × Nat, W.heap[2]? = some (.cells kVals fr.1 fr.2) := by
  unfold Lib.TabIs World.var? at h
  rw [kTabName] at h
  simp only [Option.bind_some] at h
  split at h
  · next cs t fz hc =>
    injection h with h
    refine ⟨(t, fz), ?_⟩
    rw [hc, h]
    simp [kInts, kVals, w32, Function.comp_def]
  · cases h
theorem table {W : World} (h : laidMetH Tryz.prog [("isthmus/sha.roundTable", Rows.laid_isthmus_sha_roundTable)] W) : ∃ fr : TypeId × Nat × Nat, W.heap[2]? = some (.cells kVals fr.1 fr.2) :=
  table_of (Lib.tabIs_of_head (rest := []) kTabName kTabType kTabUnd kTabElem kElemCells kTabCells h)
end Go.Proofs.YtaafaaoioleokaaGreatDoor
namespace Go.Proofs.YtaafaaoioleokaaGreatDoor
set_option maxRecDepth 100000
open Go.RowKit
theorem k2Name : Tryz.prog.globalNamed "isthmus/isthmusref03.k" = some 5 := by kernel_rfl
theorem k2Type : (Tryz.prog.globals[5]?).map (·.type) = some 276 := by kernel_rfl
theorem table2_of {W : World} (h : Lib.TabIs Tryz.prog W "isthmus/isthmusref03.k" .u32 kInts) : ∃ fr : TypeId × Nat × Nat, W.heap[5]? = some (.cells kVals fr.1 fr.2) := by
  unfold Lib.TabIs World.var? at h
  rw [k2Name] at h
  simp only [Option.bind_some] at h
  split at h
  · next cs t fz hc =>
    injection h with h
    refine ⟨(t, fz), ?_⟩
    rw [hc, h]
    simp [kInts, kVals, w32, Function.comp_def]
  · cases h
theorem tables2 {W : World} (h : laidMetH Tryz.prog [("isthmus/isthmusref03.k", Rows.laid_isthmus_isthmusref03_k), ("isthmus/sha.roundTable", Rows.laid_isthmus_sha_roundTable)] W) :
    (∃ fr : TypeId × Nat × Nat, W.heap[2]? = some (.cells kVals fr.1 fr.2)) ∧ ∃ fr : TypeId × Nat × Nat, W.heap[5]? = some (.cells kVals fr.1 fr.2) := by
  have h1 := laidMetH.filter (fun x => x.1 == "isthmus/isthmusref03.k") h
  have h0 := laidMetH.filter (fun x => x.1 == "isthmus/sha.roundTable") h
  exact ⟨table h0, table2_of (Lib.tabIs_of_head (rest := []) k2Name k2Type kTabUnd kTabElem kElemCells kTabCells h1)⟩
end Go.Proofs.YtaafaaoioleokaaGreatDoor
