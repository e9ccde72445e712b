/-
  DERIVED. GIVEN WITH THE SEED: THE CARDS: each row of YtgiciaeaibonbaaGreatDoorRows.lean that lists a variable, with what it lists TIED to the program's text (the seventh form; the later family's looks); each row that meets fmt, with fmt's text TOLD by the authors' own Lean function (tested against real Go, not proved from fmt's source: count such statements apart). THE CARD IS WHAT COUNTS. Prove the row's statement (the work); the ties are given (YtgiciaeaibonbaaGreatDoorTie.lean); close each card by the builder's one call (the guide's Derived/Test/ToyasCard.lean, 'card_holds'). Laid BY PROGRAM, IN A SANDBOX (cutbox-door.mjs). By AI agents, Wed Nov 11 2026. No macro, syntax, notation, axiom, sorry.
-/
import Derived.Test.YtgiciaeaibonbaaGreatDoorRows
import GoSem.ClaimSeven
namespace Go.Proofs.YtgiciaeaibonbaaGreatDoor
namespace Rows

/-- THE TIED CARD OF 'isthmuslaw10.BankSums'. -/
def bankSumsCard : Claim7 := { stood := { row := bankSumsRow, standIns := [], harness := (true, "bee3ff7e2a7026b15eca999cce6d300fc8bf64c84104478f67e5d5648eea922e"), looks := false }, kinds := [], alts := [], laidByText := true, laidKinds := [.data], laidTests := true, laidLooks := .later }
def BankSumsCardSaid : Prop := Claim7.holds Tryz.pinned (.plain (OpenSpec.ofChange bankSumsSpec)) bankSumsCard

/-- THE SECOND FORM's CARD OF 'isthmuslaw10.BankSums'. -/
def bankSumsUptoCard : Claim7 := { stood := { row := bankSumsUptoRow, standIns := [], harness := (true, "bee3ff7e2a7026b15eca999cce6d300fc8bf64c84104478f67e5d5648eea922e"), looks := false }, kinds := [], alts := [], laidByText := true, laidKinds := [.data], laidTests := true, laidLooks := .later }
def BankSumsUptoCardSaid : Prop := Claim7.holds Tryz.pinned (.plain (OpenSpec.upto bankSumsSpec)) bankSumsUptoCard
end Rows
end Go.Proofs.YtgiciaeaibonbaaGreatDoor
