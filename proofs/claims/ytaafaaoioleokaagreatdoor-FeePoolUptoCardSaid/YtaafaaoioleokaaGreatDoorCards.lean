/-
  DERIVED. GIVEN WITH THE SEED: THE CARDS: each row of YtaafaaoioleokaaGreatDoorRows.lean that lists a variable, with what it lists TIED to the program's text (the seventh form; the later family's looks); each row that meets fmt, with fmt's text TOLD by the authors' own Lean function (tested against real Go, not proved from fmt's source: count such statements apart). THE CARD IS WHAT COUNTS. Prove the row's statement (the work); the ties are given (YtaafaaoioleokaaGreatDoorTie.lean); close each card by the builder's one call (the guide's Derived/Test/ToyasCard.lean, 'card_holds'). Laid BY PROGRAM, IN A SANDBOX (cutbox-door.mjs). By AI agents, Wed Nov 11 2026. No macro, syntax, notation, axiom, sorry.
-/
import Derived.Test.YtaafaaoioleokaaGreatDoorRows
import GoSem.ClaimSeven
namespace Go.Proofs.YtaafaaoioleokaaGreatDoor
namespace Rows

/-- THE TIED CARD OF 'isthmuslaw19.FeePool'. -/
def feePoolCard : Claim7 := { stood := { row := feePoolRow, standIns := [], harness := (true, "54b2398b76a0262339ba9799c12e9fdabac12320860bce0e364b6c667cf4e477"), looks := false }, kinds := [], alts := [], laidByText := true, laidKinds := [.data], laidTests := true, laidLooks := .later }
def FeePoolCardSaid : Prop := Claim7.holds Tryz.pinned (.plain (OpenSpec.ofChange feePoolSpec)) feePoolCard

/-- THE TIED CARD OF 'isthmuslaw14.ClientMade'. -/
def clientMadeCard : Claim7 := { stood := { row := clientMadeRow, standIns := [], harness := (true, "54b2398b76a0262339ba9799c12e9fdabac12320860bce0e364b6c667cf4e477"), looks := false }, kinds := [], alts := [], laidByText := true, laidKinds := [.data, .data, .data, .data], laidTests := true, laidLooks := .later }
def ClientMadeCardSaid : Prop := Claim7.holds Tryz.pinned (.plain (OpenSpec.ofChange clientMadeSpec)) clientMadeCard

/-- THE TIED CARD OF 'isthmuslaw14.ClientIDs'. -/
def clientIDsCard : Claim7 := { stood := { row := clientIDsRow, standIns := [], harness := (true, "54b2398b76a0262339ba9799c12e9fdabac12320860bce0e364b6c667cf4e477"), looks := false }, kinds := [], alts := [], laidByText := true, laidKinds := [.data, .data, .data, .data], laidTests := true, laidLooks := .later }
def ClientIDsCardSaid : Prop := Claim7.holds Tryz.pinned (.plain (OpenSpec.ofChange clientIDsSpec)) clientIDsCard

/-- THE TIED CARD OF 'isthmuslaw16.ChansForms'. -/
def chansFormsCard : Claim7 := { stood := { row := chansFormsRow, standIns := [], harness := (true, "54b2398b76a0262339ba9799c12e9fdabac12320860bce0e364b6c667cf4e477"), looks := false }, kinds := [], alts := [], laidByText := true, laidKinds := [.data, .data, .data, .data, .data], laidTests := true, laidLooks := .later }
def ChansFormsCardSaid : Prop := Claim7.holds Tryz.pinned (.plain (OpenSpec.ofChange chansFormsSpec)) chansFormsCard

/-- THE SECOND FORM's CARD OF 'isthmuslaw19.FeePool'. -/
def feePoolUptoCard : Claim7 := { stood := { row := feePoolUptoRow, standIns := [], harness := (true, "54b2398b76a0262339ba9799c12e9fdabac12320860bce0e364b6c667cf4e477"), looks := false }, kinds := [], alts := [], laidByText := true, laidKinds := [.data], laidTests := true, laidLooks := .later }
def FeePoolUptoCardSaid : Prop := Claim7.holds Tryz.pinned (.plain (OpenSpec.upto feePoolSpec)) feePoolUptoCard

/-- THE SECOND FORM's CARD OF 'isthmuslaw14.ClientMade'. -/
def clientMadeUptoCard : Claim7 := { stood := { row := clientMadeUptoRow, standIns := [], harness := (true, "54b2398b76a0262339ba9799c12e9fdabac12320860bce0e364b6c667cf4e477"), looks := false }, kinds := [], alts := [], laidByText := true, laidKinds := [.data, .data, .data, .data], laidTests := true, laidLooks := .later }
def ClientMadeUptoCardSaid : Prop := Claim7.holds Tryz.pinned (.plain (OpenSpec.upto clientMadeSpec)) clientMadeUptoCard

/-- THE SECOND FORM's CARD OF 'isthmuslaw14.ClientIDs'. -/
def clientIDsUptoCard : Claim7 := { stood := { row := clientIDsUptoRow, standIns := [], harness := (true, "54b2398b76a0262339ba9799c12e9fdabac12320860bce0e364b6c667cf4e477"), looks := false }, kinds := [], alts := [], laidByText := true, laidKinds := [.data, .data, .data, .data], laidTests := true, laidLooks := .later }
def ClientIDsUptoCardSaid : Prop := Claim7.holds Tryz.pinned (.plain (OpenSpec.upto clientIDsSpec)) clientIDsUptoCard

/-- THE SECOND FORM's CARD OF 'isthmuslaw16.ChansForms'. -/
def chansFormsUptoCard : Claim7 := { stood := { row := chansFormsUptoRow, standIns := [], harness := (true, "54b2398b76a0262339ba9799c12e9fdabac12320860bce0e364b6c667cf4e477"), looks := false }, kinds := [], alts := [], laidByText := true, laidKinds := [.data, .data, .data, .data, .data], laidTests := true, laidLooks := .later }
def ChansFormsUptoCardSaid : Prop := Claim7.holds Tryz.pinned (.plain (OpenSpec.upto chansFormsSpec)) chansFormsUptoCard
end Rows
end Go.Proofs.YtaafaaoioleokaaGreatDoor
