/-
  DERIVED. GIVEN WITH THE SEED: THE CARDS: each row of YtlkbjhhbpmmamaaGreatDoorRows.lean that lists a variable, with what it lists TIED to the program's text (the seventh form; the later family's looks); each row that meets fmt, with fmt's text TOLD by the authors' own Lean function (tested against real Go, not proved from fmt's source: count such statements apart). THE CARD IS WHAT COUNTS. Prove the row's statement (the work); the ties are given (YtlkbjhhbpmmamaaGreatDoorTie.lean); close each card by the builder's one call (the guide's Derived/Test/ToyasCard.lean, 'card_holds'). Laid BY PROGRAM, IN A SANDBOX (cutbox-door.mjs). By AI agents, Wed Nov 11 2026. No macro, syntax, notation, axiom, sorry.
-/
import Derived.Test.YtlkbjhhbpmmamaaGreatDoorRows
import GoSem.ClaimSeven
namespace Go.Proofs.YtlkbjhhbpmmamaaGreatDoor
namespace Rows

/-- THE TIED CARD OF 'isthmuslaw20.IcaBytes'. -/
def icaBytesCard : Claim7 := { stood := { row := icaBytesRow, standIns := [], harness := (true, "2dbb09a1ba3e583efb2bc3f5cd7bb1920506a174cce9bc3d8922c6b5fb9cd1f0"), looks := false }, kinds := [], alts := [], laidByText := true, laidKinds := [.data, .data, .data, .data], laidTests := true, laidLooks := .later }
def IcaBytesCardSaid : Prop := Claim7.holds Tryz.pinned (.plain (OpenSpec.ofChange icaBytesSpec)) icaBytesCard

/-- THE TIED CARD OF 'isthmuslaw19.FeePool'. -/
def feePoolCard : Claim7 := { stood := { row := feePoolRow, standIns := [], harness := (true, "2dbb09a1ba3e583efb2bc3f5cd7bb1920506a174cce9bc3d8922c6b5fb9cd1f0"), looks := false }, kinds := [], alts := [], laidByText := true, laidKinds := [.data], laidTests := true, laidLooks := .later }
def FeePoolCardSaid : Prop := Claim7.holds Tryz.pinned (.plain (OpenSpec.ofChange feePoolSpec)) feePoolCard

/-- THE TIED CARD OF 'isthmuslaw19.FeeRefuses'. -/
def feeRefusesCard : Claim7 := { stood := { row := feeRefusesRow, standIns := [], harness := (true, "2dbb09a1ba3e583efb2bc3f5cd7bb1920506a174cce9bc3d8922c6b5fb9cd1f0"), looks := false }, kinds := [], alts := [], laidByText := true, laidKinds := [.data], laidTests := true, laidLooks := .later }
def FeeRefusesCardSaid : Prop := Claim7.holds Tryz.pinned (.plain (OpenSpec.ofChange feeRefusesSpec)) feeRefusesCard

/-- THE TIED CARD OF 'isthmuslaw14.ClientMade'. -/
def clientMadeCard : Claim7 := { stood := { row := clientMadeRow, standIns := [], harness := (true, "2dbb09a1ba3e583efb2bc3f5cd7bb1920506a174cce9bc3d8922c6b5fb9cd1f0"), looks := false }, kinds := [], alts := [], laidByText := true, laidKinds := [.data, .data, .data, .data], laidTests := true, laidLooks := .later }
def ClientMadeCardSaid : Prop := Claim7.holds Tryz.pinned (.plain (OpenSpec.ofChange clientMadeSpec)) clientMadeCard

/-- THE TIED CARD OF 'isthmuslaw14.ClientIDs'. -/
def clientIDsCard : Claim7 := { stood := { row := clientIDsRow, standIns := [], harness := (true, "2dbb09a1ba3e583efb2bc3f5cd7bb1920506a174cce9bc3d8922c6b5fb9cd1f0"), looks := false }, kinds := [], alts := [], laidByText := true, laidKinds := [.data, .data, .data, .data], laidTests := true, laidLooks := .later }
def ClientIDsCardSaid : Prop := Claim7.holds Tryz.pinned (.plain (OpenSpec.ofChange clientIDsSpec)) clientIDsCard

/-- THE TIED CARD OF 'isthmuslaw16.ChansForms'. -/
def chansFormsCard : Claim7 := { stood := { row := chansFormsRow, standIns := [], harness := (true, "2dbb09a1ba3e583efb2bc3f5cd7bb1920506a174cce9bc3d8922c6b5fb9cd1f0"), looks := false }, kinds := [], alts := [], laidByText := true, laidKinds := [.data, .data, .data, .data, .data], laidTests := true, laidLooks := .later }
def ChansFormsCardSaid : Prop := Claim7.holds Tryz.pinned (.plain (OpenSpec.ofChange chansFormsSpec)) chansFormsCard

/-- THE SECOND FORM's CARD OF 'isthmuslaw20.IcaBytes'. -/
def icaBytesUptoCard : Claim7 := { stood := { row := icaBytesUptoRow, standIns := [], harness := (true, "2dbb09a1ba3e583efb2bc3f5cd7bb1920506a174cce9bc3d8922c6b5fb9cd1f0"), looks := false }, kinds := [], alts := [], laidByText := true, laidKinds := [.data, .data, .data, .data], laidTests := true, laidLooks := .later }
def IcaBytesUptoCardSaid : Prop := Claim7.holds Tryz.pinned (.plain (OpenSpec.upto icaBytesSpec)) icaBytesUptoCard

/-- THE SECOND FORM's CARD OF 'isthmuslaw19.FeePool'. -/
def feePoolUptoCard : Claim7 := { stood := { row := feePoolUptoRow, standIns := [], harness := (true, "2dbb09a1ba3e583efb2bc3f5cd7bb1920506a174cce9bc3d8922c6b5fb9cd1f0"), looks := false }, kinds := [], alts := [], laidByText := true, laidKinds := [.data], laidTests := true, laidLooks := .later }
def FeePoolUptoCardSaid : Prop := Claim7.holds Tryz.pinned (.plain (OpenSpec.upto feePoolSpec)) feePoolUptoCard

/-- THE SECOND FORM's CARD OF 'isthmuslaw19.FeeRefuses'. -/
def feeRefusesUptoCard : Claim7 := { stood := { row := feeRefusesUptoRow, standIns := [], harness := (true, "2dbb09a1ba3e583efb2bc3f5cd7bb1920506a174cce9bc3d8922c6b5fb9cd1f0"), looks := false }, kinds := [], alts := [], laidByText := true, laidKinds := [.data], laidTests := true, laidLooks := .later }
def FeeRefusesUptoCardSaid : Prop := Claim7.holds Tryz.pinned (.plain (OpenSpec.upto feeRefusesSpec)) feeRefusesUptoCard

/-- THE SECOND FORM's CARD OF 'isthmuslaw14.ClientMade'. -/
def clientMadeUptoCard : Claim7 := { stood := { row := clientMadeUptoRow, standIns := [], harness := (true, "2dbb09a1ba3e583efb2bc3f5cd7bb1920506a174cce9bc3d8922c6b5fb9cd1f0"), looks := false }, kinds := [], alts := [], laidByText := true, laidKinds := [.data, .data, .data, .data], laidTests := true, laidLooks := .later }
def ClientMadeUptoCardSaid : Prop := Claim7.holds Tryz.pinned (.plain (OpenSpec.upto clientMadeSpec)) clientMadeUptoCard

/-- THE SECOND FORM's CARD OF 'isthmuslaw14.ClientIDs'. -/
def clientIDsUptoCard : Claim7 := { stood := { row := clientIDsUptoRow, standIns := [], harness := (true, "2dbb09a1ba3e583efb2bc3f5cd7bb1920506a174cce9bc3d8922c6b5fb9cd1f0"), looks := false }, kinds := [], alts := [], laidByText := true, laidKinds := [.data, .data, .data, .data], laidTests := true, laidLooks := .later }
def ClientIDsUptoCardSaid : Prop := Claim7.holds Tryz.pinned (.plain (OpenSpec.upto clientIDsSpec)) clientIDsUptoCard

/-- THE SECOND FORM's CARD OF 'isthmuslaw16.ChansForms'. -/
def chansFormsUptoCard : Claim7 := { stood := { row := chansFormsUptoRow, standIns := [], harness := (true, "2dbb09a1ba3e583efb2bc3f5cd7bb1920506a174cce9bc3d8922c6b5fb9cd1f0"), looks := false }, kinds := [], alts := [], laidByText := true, laidKinds := [.data, .data, .data, .data, .data], laidTests := true, laidLooks := .later }
def ChansFormsUptoCardSaid : Prop := Claim7.holds Tryz.pinned (.plain (OpenSpec.upto chansFormsSpec)) chansFormsUptoCard
end Rows
end Go.Proofs.YtlkbjhhbpmmamaaGreatDoor
