/-
  DERIVED. GIVEN WITH THE SEED: THE CARDS: each row of YtnapmdfdbkpjpaaGreatDoorRows.lean that lists a variable, with what it lists TIED to the program's text (the seventh form; the later family's looks); each row that meets fmt, with fmt's text TOLD by the authors' own Lean function (tested against real Go, not proved from fmt's source: count such statements apart). THE CARD IS WHAT COUNTS. Prove the row's statement (the work); the ties are given (YtnapmdfdbkpjpaaGreatDoorTie.lean); close each card by the builder's one call (the guide's Derived/Test/ToyasCard.lean, 'card_holds'). Laid BY PROGRAM, IN A SANDBOX (cutbox-door.mjs). By AI agents, Wed Nov 11 2026. No macro, syntax, notation, axiom, sorry.
-/
import Derived.Test.YtnapmdfdbkpjpaaGreatDoorRows
import GoSem.ClaimSeven
namespace Go.Proofs.YtnapmdfdbkpjpaaGreatDoor
namespace Rows

/-- THE TIED CARD OF 'isthmuslaw12.AuthKeys'. -/
def authKeysCard : Claim7 := { stood := { row := authKeysRow, standIns := [], harness := (true, "2945b5ce7586961d2a39617f5edfd88be1173068bd358f3c87d2f4c5c885ac1a"), looks := false }, kinds := [], alts := [], laidByText := true, laidKinds := [.data], laidTests := true, laidLooks := .later }
def AuthKeysCardSaid : Prop := Claim7.holds Tryz.pinned (.plain (OpenSpec.ofChange authKeysSpec)) authKeysCard

/-- THE TIED CARD OF 'isthmuslaw12.AuthMade'. -/
def authMadeCard : Claim7 := { stood := { row := authMadeRow, standIns := [], harness := (true, "2945b5ce7586961d2a39617f5edfd88be1173068bd358f3c87d2f4c5c885ac1a"), looks := false }, kinds := [], alts := [], laidByText := true, laidKinds := [.data], laidTests := true, laidLooks := .later }
def AuthMadeCardSaid : Prop := Claim7.holds Tryz.pinned (.plain (OpenSpec.ofChange authMadeSpec)) authMadeCard

/-- THE SECOND FORM's CARD OF 'isthmuslaw12.AuthKeys'. -/
def authKeysUptoCard : Claim7 := { stood := { row := authKeysUptoRow, standIns := [], harness := (true, "2945b5ce7586961d2a39617f5edfd88be1173068bd358f3c87d2f4c5c885ac1a"), looks := false }, kinds := [], alts := [], laidByText := true, laidKinds := [.data], laidTests := true, laidLooks := .later }
def AuthKeysUptoCardSaid : Prop := Claim7.holds Tryz.pinned (.plain (OpenSpec.upto authKeysSpec)) authKeysUptoCard

/-- THE SECOND FORM's CARD OF 'isthmuslaw12.AuthMade'. -/
def authMadeUptoCard : Claim7 := { stood := { row := authMadeUptoRow, standIns := [], harness := (true, "2945b5ce7586961d2a39617f5edfd88be1173068bd358f3c87d2f4c5c885ac1a"), looks := false }, kinds := [], alts := [], laidByText := true, laidKinds := [.data], laidTests := true, laidLooks := .later }
def AuthMadeUptoCardSaid : Prop := Claim7.holds Tryz.pinned (.plain (OpenSpec.upto authMadeSpec)) authMadeUptoCard
end Rows
end Go.Proofs.YtnapmdfdbkpjpaaGreatDoor
