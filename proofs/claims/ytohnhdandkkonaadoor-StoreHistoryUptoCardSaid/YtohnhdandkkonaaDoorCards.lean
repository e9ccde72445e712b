/-
  DERIVED. GIVEN WITH THE SEED: THE CARDS: each row of YtohnhdandkkonaaDoorRows.lean that lists a variable, with what it lists TIED to the program's text (the seventh form; the later family's looks); each row that meets fmt, with fmt's text TOLD by the authors' own Lean function (tested against real Go, not proved from fmt's source: count such statements apart). THE CARD IS WHAT COUNTS. Prove the row's statement (the work); the ties are given (YtohnhdandkkonaaDoorTie.lean); close each card by the builder's one call (the guide's Derived/Test/ToyasCard.lean, 'card_holds'). Laid BY PROGRAM, IN A SANDBOX (cutbox-door.mjs). By AI agents, Wed Nov 11 2026. No macro, syntax, notation, axiom, sorry.
-/
import Derived.Test.YtohnhdandkkonaaDoorRows
import GoSem.ClaimSeven
namespace Go.Proofs.YtohnhdandkkonaaDoor
namespace Rows

/-- THE TIED CARD OF 'isthmuslaw09.StoreHistory'. -/
def storeHistoryCard : Claim7 := { stood := { row := storeHistoryRow, standIns := [], harness := (true, "aaa84612e443abcb462636b945f4edcd7640edb9b7f3dbc14027b32a7c27e24b"), looks := false }, kinds := [], alts := [], laidByText := true, laidKinds := [.data, .data], laidTests := true, laidLooks := .later }
def StoreHistoryCardSaid : Prop := Claim7.holds Tryd.pinned (.plain (OpenSpec.ofChange storeHistorySpec)) storeHistoryCard

/-- THE TIED CARD OF 'isthmuslaw09.StoreMemory'. -/
def storeMemoryCard : Claim7 := { stood := { row := storeMemoryRow, standIns := [], harness := (true, "aaa84612e443abcb462636b945f4edcd7640edb9b7f3dbc14027b32a7c27e24b"), looks := false }, kinds := [], alts := [], laidByText := true, laidKinds := [.data], laidTests := true, laidLooks := .later }
def StoreMemoryCardSaid : Prop := Claim7.holds Tryd.pinned (.plain (OpenSpec.ofChange storeMemorySpec)) storeMemoryCard

/-- THE TIED CARD OF 'isthmuslaw09.StoreBranches'. -/
def storeBranchesCard : Claim7 := { stood := { row := storeBranchesRow, standIns := [], harness := (true, "aaa84612e443abcb462636b945f4edcd7640edb9b7f3dbc14027b32a7c27e24b"), looks := false }, kinds := [], alts := [], laidByText := true, laidKinds := [.data], laidTests := true, laidLooks := .later }
def StoreBranchesCardSaid : Prop := Claim7.holds Tryd.pinned (.plain (OpenSpec.ofChange storeBranchesSpec)) storeBranchesCard

/-- THE SECOND FORM's CARD OF 'isthmuslaw09.StoreHistory'. -/
def storeHistoryUptoCard : Claim7 := { stood := { row := storeHistoryUptoRow, standIns := [], harness := (true, "aaa84612e443abcb462636b945f4edcd7640edb9b7f3dbc14027b32a7c27e24b"), looks := false }, kinds := [], alts := [], laidByText := true, laidKinds := [.data, .data], laidTests := true, laidLooks := .later }
def StoreHistoryUptoCardSaid : Prop := Claim7.holds Tryd.pinned (.plain (OpenSpec.upto storeHistorySpec)) storeHistoryUptoCard

/-- THE SECOND FORM's CARD OF 'isthmuslaw09.StoreMemory'. -/
def storeMemoryUptoCard : Claim7 := { stood := { row := storeMemoryUptoRow, standIns := [], harness := (true, "aaa84612e443abcb462636b945f4edcd7640edb9b7f3dbc14027b32a7c27e24b"), looks := false }, kinds := [], alts := [], laidByText := true, laidKinds := [.data], laidTests := true, laidLooks := .later }
def StoreMemoryUptoCardSaid : Prop := Claim7.holds Tryd.pinned (.plain (OpenSpec.upto storeMemorySpec)) storeMemoryUptoCard

/-- THE SECOND FORM's CARD OF 'isthmuslaw09.StoreBranches'. -/
def storeBranchesUptoCard : Claim7 := { stood := { row := storeBranchesUptoRow, standIns := [], harness := (true, "aaa84612e443abcb462636b945f4edcd7640edb9b7f3dbc14027b32a7c27e24b"), looks := false }, kinds := [], alts := [], laidByText := true, laidKinds := [.data], laidTests := true, laidLooks := .later }
def StoreBranchesUptoCardSaid : Prop := Claim7.holds Tryd.pinned (.plain (OpenSpec.upto storeBranchesSpec)) storeBranchesUptoCard
end Rows
end Go.Proofs.YtohnhdandkkonaaDoor
