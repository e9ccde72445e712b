/-
  DERIVED. GIVEN WITH THE SEED: THE CARDS: each row of YtlkkjnacolmmpaaGreatDoorRows.lean that lists a variable, with what it lists TIED to the program's text (the seventh form; the later family's looks); each row that meets fmt, with fmt's text TOLD by the authors' own Lean function (tested against real Go, not proved from fmt's source: count such statements apart). THE CARD IS WHAT COUNTS. Prove the row's statement (the work); the ties are given (YtlkkjnacolmmpaaGreatDoorTie.lean); close each card by the builder's one call (the guide's Derived/Test/ToyasCard.lean, 'card_holds'). Laid BY PROGRAM, IN A SANDBOX (cutbox-door.mjs). By AI agents, Wed Nov 11 2026. No macro, syntax, notation, axiom, sorry.
-/
import Derived.Test.YtlkkjnacolmmpaaGreatDoorRows
import GoSem.ClaimSeven
namespace Go.Proofs.YtlkkjnacolmmpaaGreatDoor
namespace Rows

/-- THE TIED CARD OF 'isthmuslaw14.ClientIDs'. -/
def clientIDsCard : Claim7 := { stood := { row := clientIDsRow, standIns := [], harness := (true, "cd9c49bd108139208745582cdf479224f455f87466468ab3d91e665e05f68ff1"), looks := false }, kinds := [], alts := [], laidByText := true, laidKinds := [.data, .data, .data, .data], laidTests := true, laidLooks := .later }
def ClientIDsCardSaid : Prop := Claim7.holds Tryz.pinned (.plain (OpenSpec.ofChange clientIDsSpec)) clientIDsCard

/-- THE TIED CARD OF 'isthmuslaw14.ClientMade'. -/
def clientMadeCard : Claim7 := { stood := { row := clientMadeRow, standIns := [], harness := (true, "cd9c49bd108139208745582cdf479224f455f87466468ab3d91e665e05f68ff1"), looks := false }, kinds := [], alts := [], laidByText := true, laidKinds := [.data, .data, .data, .data], laidTests := true, laidLooks := .later }
def ClientMadeCardSaid : Prop := Claim7.holds Tryz.pinned (.plain (OpenSpec.ofChange clientMadeSpec)) clientMadeCard

/-- THE TIED CARD OF 'isthmuslaw16.ChansForms'. -/
def chansFormsCard : Claim7 := { stood := { row := chansFormsRow, standIns := [], harness := (true, "cd9c49bd108139208745582cdf479224f455f87466468ab3d91e665e05f68ff1"), looks := false }, kinds := [], alts := [], laidByText := true, laidKinds := [.data, .data, .data, .data, .data], laidTests := true, laidLooks := .later }
def ChansFormsCardSaid : Prop := Claim7.holds Tryz.pinned (.plain (OpenSpec.ofChange chansFormsSpec)) chansFormsCard

/-- THE TIED CARD OF 'isthmuslaw18.TransferData'. -/
def transferDataCard : Claim7 := { stood := { row := transferDataRow, standIns := [], harness := (true, "cd9c49bd108139208745582cdf479224f455f87466468ab3d91e665e05f68ff1"), looks := false }, kinds := [], alts := [], laidByText := true, laidKinds := [.data], laidTests := true, laidLooks := .later }
def TransferDataCardSaid : Prop := Claim7.holds Tryz.pinned (.plain (OpenSpec.ofChange transferDataSpec)) transferDataCard

/-- THE TIED CARD OF 'isthmuslaw18.TransferRefunds'. -/
def transferRefundsCard : Claim7 := { stood := { row := transferRefundsRow, standIns := [], harness := (true, "cd9c49bd108139208745582cdf479224f455f87466468ab3d91e665e05f68ff1"), looks := false }, kinds := [], alts := [], laidByText := true, laidKinds := [.data], laidTests := true, laidLooks := .later }
def TransferRefundsCardSaid : Prop := Claim7.holds Tryz.pinned (.plain (OpenSpec.ofChange transferRefundsSpec)) transferRefundsCard

/-- THE TIED CARD OF 'isthmuslaw18.TransferLimits'. -/
def transferLimitsCard : Claim7 := { stood := { row := transferLimitsRow, standIns := [], harness := (true, "cd9c49bd108139208745582cdf479224f455f87466468ab3d91e665e05f68ff1"), looks := false }, kinds := [], alts := [], laidByText := true, laidKinds := [.data], laidTests := true, laidLooks := .later }
def TransferLimitsCardSaid : Prop := Claim7.holds Tryz.pinned (.plain (OpenSpec.ofChange transferLimitsSpec)) transferLimitsCard

/-- THE SECOND FORM's CARD OF 'isthmuslaw14.ClientIDs'. -/
def clientIDsUptoCard : Claim7 := { stood := { row := clientIDsUptoRow, standIns := [], harness := (true, "cd9c49bd108139208745582cdf479224f455f87466468ab3d91e665e05f68ff1"), looks := false }, kinds := [], alts := [], laidByText := true, laidKinds := [.data, .data, .data, .data], laidTests := true, laidLooks := .later }
def ClientIDsUptoCardSaid : Prop := Claim7.holds Tryz.pinned (.plain (OpenSpec.upto clientIDsSpec)) clientIDsUptoCard

/-- THE SECOND FORM's CARD OF 'isthmuslaw14.ClientMade'. -/
def clientMadeUptoCard : Claim7 := { stood := { row := clientMadeUptoRow, standIns := [], harness := (true, "cd9c49bd108139208745582cdf479224f455f87466468ab3d91e665e05f68ff1"), looks := false }, kinds := [], alts := [], laidByText := true, laidKinds := [.data, .data, .data, .data], laidTests := true, laidLooks := .later }
def ClientMadeUptoCardSaid : Prop := Claim7.holds Tryz.pinned (.plain (OpenSpec.upto clientMadeSpec)) clientMadeUptoCard

/-- THE SECOND FORM's CARD OF 'isthmuslaw16.ChansForms'. -/
def chansFormsUptoCard : Claim7 := { stood := { row := chansFormsUptoRow, standIns := [], harness := (true, "cd9c49bd108139208745582cdf479224f455f87466468ab3d91e665e05f68ff1"), looks := false }, kinds := [], alts := [], laidByText := true, laidKinds := [.data, .data, .data, .data, .data], laidTests := true, laidLooks := .later }
def ChansFormsUptoCardSaid : Prop := Claim7.holds Tryz.pinned (.plain (OpenSpec.upto chansFormsSpec)) chansFormsUptoCard

/-- THE SECOND FORM's CARD OF 'isthmuslaw18.TransferData'. -/
def transferDataUptoCard : Claim7 := { stood := { row := transferDataUptoRow, standIns := [], harness := (true, "cd9c49bd108139208745582cdf479224f455f87466468ab3d91e665e05f68ff1"), looks := false }, kinds := [], alts := [], laidByText := true, laidKinds := [.data], laidTests := true, laidLooks := .later }
def TransferDataUptoCardSaid : Prop := Claim7.holds Tryz.pinned (.plain (OpenSpec.upto transferDataSpec)) transferDataUptoCard

/-- THE SECOND FORM's CARD OF 'isthmuslaw18.TransferRefunds'. -/
def transferRefundsUptoCard : Claim7 := { stood := { row := transferRefundsUptoRow, standIns := [], harness := (true, "cd9c49bd108139208745582cdf479224f455f87466468ab3d91e665e05f68ff1"), looks := false }, kinds := [], alts := [], laidByText := true, laidKinds := [.data], laidTests := true, laidLooks := .later }
def TransferRefundsUptoCardSaid : Prop := Claim7.holds Tryz.pinned (.plain (OpenSpec.upto transferRefundsSpec)) transferRefundsUptoCard

/-- THE SECOND FORM's CARD OF 'isthmuslaw18.TransferLimits'. -/
def transferLimitsUptoCard : Claim7 := { stood := { row := transferLimitsUptoRow, standIns := [], harness := (true, "cd9c49bd108139208745582cdf479224f455f87466468ab3d91e665e05f68ff1"), looks := false }, kinds := [], alts := [], laidByText := true, laidKinds := [.data], laidTests := true, laidLooks := .later }
def TransferLimitsUptoCardSaid : Prop := Claim7.holds Tryz.pinned (.plain (OpenSpec.upto transferLimitsSpec)) transferLimitsUptoCard
end Rows
end Go.Proofs.YtlkkjnacolmmpaaGreatDoor
