/-
  DERIVED. GIVEN WITH THE SEED: THE CARDS: each row of YtpcoonnfaoakhaaGreatDoorRows.lean that lists a variable, with what it lists TIED to the program's text (the seventh form; the later family's looks); each row that meets fmt, with fmt's text TOLD by the authors' own Lean function (tested against real Go, not proved from fmt's source: count such statements apart). THE CARD IS WHAT COUNTS. Prove the row's statement (the work); the ties are given (YtpcoonnfaoakhaaGreatDoorTie.lean); close each card by the builder's one call (the guide's Derived/Test/ToyasCard.lean, 'card_holds'). Laid BY PROGRAM, IN A SANDBOX (cutbox-door.mjs). By AI agents, Wed Nov 11 2026. No macro, syntax, notation, axiom, sorry.
-/
import Derived.Test.YtpcoonnfaoakhaaGreatDoorRows
import GoSem.ClaimSeven
namespace Go.Proofs.YtpcoonnfaoakhaaGreatDoor
namespace Rows

/-- THE TIED CARD OF 'isthmuslaw12.AuthOnce'. -/
def authOnceCard : Claim7 := { stood := { row := authOnceRow, standIns := [], harness := (true, "1fc84deffd71afb23dc44c20d05336cbd79566769b9d071941ee5f31e14d7f49"), looks := false }, kinds := [], alts := [], laidByText := true, laidKinds := [.data], laidTests := true, laidLooks := .later }
def AuthOnceCardSaid : Prop := Claim7.holds Tryz.pinned (.plain (OpenSpec.ofChange authOnceSpec)) authOnceCard

/-- THE TIED CARD OF 'isthmuslaw12.AuthTouches'. -/
def authTouchesCard : Claim7 := { stood := { row := authTouchesRow, standIns := [], harness := (true, "1fc84deffd71afb23dc44c20d05336cbd79566769b9d071941ee5f31e14d7f49"), looks := false }, kinds := [], alts := [], laidByText := true, laidKinds := [.data], laidTests := true, laidLooks := .later }
def AuthTouchesCardSaid : Prop := Claim7.holds Tryz.pinned (.plain (OpenSpec.ofChange authTouchesSpec)) authTouchesCard

/-- THE TIED CARD OF 'isthmuslaw14.ClientIDs'. -/
def clientIDsCard : Claim7 := { stood := { row := clientIDsRow, standIns := [], harness := (true, "1fc84deffd71afb23dc44c20d05336cbd79566769b9d071941ee5f31e14d7f49"), looks := false }, kinds := [], alts := [], laidByText := true, laidKinds := [.data, .data, .data, .data], laidTests := true, laidLooks := .later }
def ClientIDsCardSaid : Prop := Claim7.holds Tryz.pinned (.plain (OpenSpec.ofChange clientIDsSpec)) clientIDsCard

/-- THE TIED CARD OF 'isthmuslaw16.ChansForms'. -/
def chansFormsCard : Claim7 := { stood := { row := chansFormsRow, standIns := [], harness := (true, "1fc84deffd71afb23dc44c20d05336cbd79566769b9d071941ee5f31e14d7f49"), looks := false }, kinds := [], alts := [], laidByText := true, laidKinds := [.data, .data, .data, .data, .data], laidTests := true, laidLooks := .later }
def ChansFormsCardSaid : Prop := Claim7.holds Tryz.pinned (.plain (OpenSpec.ofChange chansFormsSpec)) chansFormsCard

/-- THE SECOND FORM's CARD OF 'isthmuslaw12.AuthOnce'. -/
def authOnceUptoCard : Claim7 := { stood := { row := authOnceUptoRow, standIns := [], harness := (true, "1fc84deffd71afb23dc44c20d05336cbd79566769b9d071941ee5f31e14d7f49"), looks := false }, kinds := [], alts := [], laidByText := true, laidKinds := [.data], laidTests := true, laidLooks := .later }
def AuthOnceUptoCardSaid : Prop := Claim7.holds Tryz.pinned (.plain (OpenSpec.upto authOnceSpec)) authOnceUptoCard

/-- THE SECOND FORM's CARD OF 'isthmuslaw12.AuthTouches'. -/
def authTouchesUptoCard : Claim7 := { stood := { row := authTouchesUptoRow, standIns := [], harness := (true, "1fc84deffd71afb23dc44c20d05336cbd79566769b9d071941ee5f31e14d7f49"), looks := false }, kinds := [], alts := [], laidByText := true, laidKinds := [.data], laidTests := true, laidLooks := .later }
def AuthTouchesUptoCardSaid : Prop := Claim7.holds Tryz.pinned (.plain (OpenSpec.upto authTouchesSpec)) authTouchesUptoCard

/-- THE SECOND FORM's CARD OF 'isthmuslaw14.ClientIDs'. -/
def clientIDsUptoCard : Claim7 := { stood := { row := clientIDsUptoRow, standIns := [], harness := (true, "1fc84deffd71afb23dc44c20d05336cbd79566769b9d071941ee5f31e14d7f49"), looks := false }, kinds := [], alts := [], laidByText := true, laidKinds := [.data, .data, .data, .data], laidTests := true, laidLooks := .later }
def ClientIDsUptoCardSaid : Prop := Claim7.holds Tryz.pinned (.plain (OpenSpec.upto clientIDsSpec)) clientIDsUptoCard

/-- THE SECOND FORM's CARD OF 'isthmuslaw16.ChansForms'. -/
def chansFormsUptoCard : Claim7 := { stood := { row := chansFormsUptoRow, standIns := [], harness := (true, "1fc84deffd71afb23dc44c20d05336cbd79566769b9d071941ee5f31e14d7f49"), looks := false }, kinds := [], alts := [], laidByText := true, laidKinds := [.data, .data, .data, .data, .data], laidTests := true, laidLooks := .later }
def ChansFormsUptoCardSaid : Prop := Claim7.holds Tryz.pinned (.plain (OpenSpec.upto chansFormsSpec)) chansFormsUptoCard
end Rows
end Go.Proofs.YtpcoonnfaoakhaaGreatDoor
