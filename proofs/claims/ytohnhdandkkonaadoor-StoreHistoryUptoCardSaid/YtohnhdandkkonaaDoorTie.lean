/-
  DERIVED. GIVEN WITH THE SEED: THE PROGRAM's TIES (one call each: nine closed facts by the kernel) AND EACH ROW's TIE, after the 31st guide's Derived/Test/Toyas{Tie, Card}.lean. No idea stands in it: it is a product of the set-up. Laid BY PROGRAM, IN A SANDBOX (cutbox-door.mjs). By AI agents, Wed Nov 11 2026. No macro, syntax, notation, axiom, sorry.
-/
import Derived.Test.YtohnhdandkkonaaDoorRows
import Derived.LaidByTextLater
import Derived.SevenTiedAt
import Derived.LaidSub
import Derived.LaidOnce
namespace Go.Proofs.YtohnhdandkkonaaDoor
open Go
set_option maxRecDepth 100000
theorem seatTie1 : Tryd.prog.laidByTextLater [("isthmus/isthmusref03.k", Rows.laid_isthmus_isthmusref03_k), ("isthmus/sha.roundTable", Rows.laid_isthmus_sha_roundTable)] [.data, .data] true :=
  Program.laidByTextLater_by_one 19 8 65 (by kernel_rfl) (by kernel_rfl) (by kernel_rfl) (by kernel_rfl) (by kernel_rfl) (by kernel_rfl) (fun _ _ => by kernel_rfl)
theorem noOwnUnsafe : Tryd.pinned.checked.prog.headLifts.contains "ownunsafe" = false := by kernel_rfl
theorem tie : Tryd.prog.laidByTextLater [("isthmus/isthmusref03.k", Rows.laid_isthmus_isthmusref03_k), ("isthmus/sha.roundTable", Rows.laid_isthmus_sha_roundTable)] [.data, .data] true :=
  Program.laidByTextLater.sub seatTie1 ["isthmus/isthmusref03.k", "isthmus/sha.roundTable"] (by kernel_rfl) (by kernel_rfl)
theorem storeHistory_row_tie : Rows.storeHistoryRow.laidByTextAt .later Tryd.pinned [.data, .data] true :=
  OpenClaim.laidByTextAt_later rfl rfl tie noOwnUnsafe
theorem tie2 : Tryd.prog.laidByTextLater [("isthmus/sha.roundTable", Rows.laid_isthmus_sha_roundTable)] [.data] true :=
  Program.laidByTextLater.sub seatTie1 ["isthmus/sha.roundTable"] (by kernel_rfl) (by kernel_rfl)
theorem storeMemory_row_tie : Rows.storeMemoryRow.laidByTextAt .later Tryd.pinned [.data] true :=
  OpenClaim.laidByTextAt_later rfl rfl tie2 noOwnUnsafe
theorem storeBranches_row_tie : Rows.storeBranchesRow.laidByTextAt .later Tryd.pinned [.data] true :=
  OpenClaim.laidByTextAt_later rfl rfl tie2 noOwnUnsafe
theorem storeHistoryUpto_row_tie : Rows.storeHistoryUptoRow.laidByTextAt .later Tryd.pinned [.data, .data] true :=
  OpenClaim.laidByTextAt_later rfl rfl tie noOwnUnsafe
theorem storeMemoryUpto_row_tie : Rows.storeMemoryUptoRow.laidByTextAt .later Tryd.pinned [.data] true :=
  OpenClaim.laidByTextAt_later rfl rfl tie2 noOwnUnsafe
theorem storeBranchesUpto_row_tie : Rows.storeBranchesUptoRow.laidByTextAt .later Tryd.pinned [.data] true :=
  OpenClaim.laidByTextAt_later rfl rfl tie2 noOwnUnsafe
end Go.Proofs.YtohnhdandkkonaaDoor
