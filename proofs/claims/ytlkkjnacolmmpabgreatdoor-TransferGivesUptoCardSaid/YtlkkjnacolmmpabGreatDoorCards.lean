/-
  DERIVED. GIVEN WITH THE SEED: THE CARDS: each row of YtlkkjnacolmmpabGreatDoorRows.lean that lists a variable, with what it lists TIED to the program's text (the seventh form; the later family's looks); each row that meets fmt, with fmt's text TOLD by the authors' own Lean function (tested against real Go, not proved from fmt's source: count such statements apart). THE CARD IS WHAT COUNTS. Prove the row's statement (the work); the ties are given (YtlkkjnacolmmpabGreatDoorTie.lean); close each card by the builder's one call (the guide's Derived/Test/ToyasCard.lean, 'card_holds'). Laid BY PROGRAM, IN A SANDBOX (cutbox-door.mjs). By AI agents, Wed Nov 11 2026. No macro, syntax, notation, axiom, sorry.
-/
import Derived.Test.YtlkkjnacolmmpabGreatDoorRows
import GoSem.ClaimSeven
namespace Go.Proofs.YtlkkjnacolmmpabGreatDoor
namespace Rows

/-- THE TIED CARD OF 'isthmuslaw18.TransferGives'. -/
def transferGivesCard : Claim7 := { stood := { row := transferGivesRow, standIns := [], harness := (true, "5fa6c37c00d95f465c36ec6b15813898d8525eb8875ee99eb6765b44179d995e"), looks := false }, kinds := [], alts := [], laidByText := true, laidKinds := [.data], laidTests := true, laidLooks := .later }
def TransferGivesCardSaid : Prop := Claim7.holds Tryz.pinned (.plain (OpenSpec.ofChange transferGivesSpec)) transferGivesCard

/-- THE TIED CARD OF 'isthmuslaw19.FeePool'. -/
def feePoolCard : Claim7 := { stood := { row := feePoolRow, standIns := [], harness := (true, "5fa6c37c00d95f465c36ec6b15813898d8525eb8875ee99eb6765b44179d995e"), looks := false }, kinds := [], alts := [], laidByText := true, laidKinds := [.data], laidTests := true, laidLooks := .later }
def FeePoolCardSaid : Prop := Claim7.holds Tryz.pinned (.plain (OpenSpec.ofChange feePoolSpec)) feePoolCard

/-- THE TIED CARD OF 'isthmuslaw19.FeeRefuses'. -/
def feeRefusesCard : Claim7 := { stood := { row := feeRefusesRow, standIns := [], harness := (true, "5fa6c37c00d95f465c36ec6b15813898d8525eb8875ee99eb6765b44179d995e"), looks := false }, kinds := [], alts := [], laidByText := true, laidKinds := [.data], laidTests := true, laidLooks := .later }
def FeeRefusesCardSaid : Prop := Claim7.holds Tryz.pinned (.plain (OpenSpec.ofChange feeRefusesSpec)) feeRefusesCard

/-- THE TIED CARD OF 'isthmuslaw20.IcaBytes'. -/
def icaBytesCard : Claim7 := { stood := { row := icaBytesRow, standIns := [], harness := (true, "5fa6c37c00d95f465c36ec6b15813898d8525eb8875ee99eb6765b44179d995e"), looks := false }, kinds := [], alts := [], laidByText := true, laidKinds := [.data, .data, .data, .data], laidTests := true, laidLooks := .later }
def IcaBytesCardSaid : Prop := Claim7.holds Tryz.pinned (.plain (OpenSpec.ofChange icaBytesSpec)) icaBytesCard

/-- THE SECOND FORM's CARD OF 'isthmuslaw18.TransferGives'. -/
def transferGivesUptoCard : Claim7 := { stood := { row := transferGivesUptoRow, standIns := [], harness := (true, "5fa6c37c00d95f465c36ec6b15813898d8525eb8875ee99eb6765b44179d995e"), looks := false }, kinds := [], alts := [], laidByText := true, laidKinds := [.data], laidTests := true, laidLooks := .later }
def TransferGivesUptoCardSaid : Prop := Claim7.holds Tryz.pinned (.plain (OpenSpec.upto transferGivesSpec)) transferGivesUptoCard

/-- THE SECOND FORM's CARD OF 'isthmuslaw19.FeePool'. -/
def feePoolUptoCard : Claim7 := { stood := { row := feePoolUptoRow, standIns := [], harness := (true, "5fa6c37c00d95f465c36ec6b15813898d8525eb8875ee99eb6765b44179d995e"), looks := false }, kinds := [], alts := [], laidByText := true, laidKinds := [.data], laidTests := true, laidLooks := .later }
def FeePoolUptoCardSaid : Prop := Claim7.holds Tryz.pinned (.plain (OpenSpec.upto feePoolSpec)) feePoolUptoCard

/-- THE SECOND FORM's CARD OF 'isthmuslaw19.FeeRefuses'. -/
def feeRefusesUptoCard : Claim7 := { stood := { row := feeRefusesUptoRow, standIns := [], harness := (true, "5fa6c37c00d95f465c36ec6b15813898d8525eb8875ee99eb6765b44179d995e"), looks := false }, kinds := [], alts := [], laidByText := true, laidKinds := [.data], laidTests := true, laidLooks := .later }
def FeeRefusesUptoCardSaid : Prop := Claim7.holds Tryz.pinned (.plain (OpenSpec.upto feeRefusesSpec)) feeRefusesUptoCard

/-- THE SECOND FORM's CARD OF 'isthmuslaw20.IcaBytes'. -/
def icaBytesUptoCard : Claim7 := { stood := { row := icaBytesUptoRow, standIns := [], harness := (true, "5fa6c37c00d95f465c36ec6b15813898d8525eb8875ee99eb6765b44179d995e"), looks := false }, kinds := [], alts := [], laidByText := true, laidKinds := [.data, .data, .data, .data], laidTests := true, laidLooks := .later }
def IcaBytesUptoCardSaid : Prop := Claim7.holds Tryz.pinned (.plain (OpenSpec.upto icaBytesSpec)) icaBytesUptoCard
end Rows
end Go.Proofs.YtlkkjnacolmmpabGreatDoor
