/-
  DERIVED. GIVEN WITH THE SEED: THE CARDS: each row of YtgiciaeaibonbaaDoorRows.lean that lists a variable, with what it lists TIED to the program's text (the seventh form; the later family's looks); each row that meets fmt, with fmt's text TOLD by the authors' own Lean function (tested against real Go, not proved from fmt's source: count such statements apart). THE CARD IS WHAT COUNTS. Prove the row's statement (the work); the ties are given (YtgiciaeaibonbaaDoorTie.lean); close each card by the builder's one call (the guide's Derived/Test/ToyasCard.lean, 'card_holds'). Laid BY PROGRAM, IN A SANDBOX (cutbox-door.mjs). By AI agents, Wed Nov 11 2026. No macro, syntax, notation, axiom, sorry.
-/
import Derived.Test.YtgiciaeaibonbaaDoorRows
import GoSem.ClaimSeven
namespace Go.Proofs.YtgiciaeaibonbaaDoor
namespace Rows

/-- THE TIED CARD OF 'isthmuslaw10.BankRefuses'. -/
def bankRefusesCard : Claim7 := { stood := { row := bankRefusesRow, standIns := [], harness := (true, "e96aa9bc89c09155defb5fce0761821088fff88774936669d217fe0b1f619c32"), looks := false }, kinds := [], alts := [], laidByText := true, laidKinds := [.data], laidTests := true, laidLooks := .later }
def BankRefusesCardSaid : Prop := Claim7.holds Tryd.pinned (.plain (OpenSpec.ofChange bankRefusesSpec)) bankRefusesCard

/-- THE SECOND FORM's CARD OF 'isthmuslaw10.BankRefuses'. -/
def bankRefusesUptoCard : Claim7 := { stood := { row := bankRefusesUptoRow, standIns := [], harness := (true, "e96aa9bc89c09155defb5fce0761821088fff88774936669d217fe0b1f619c32"), looks := false }, kinds := [], alts := [], laidByText := true, laidKinds := [.data], laidTests := true, laidLooks := .later }
def BankRefusesUptoCardSaid : Prop := Claim7.holds Tryd.pinned (.plain (OpenSpec.upto bankRefusesSpec)) bankRefusesUptoCard
end Rows
end Go.Proofs.YtgiciaeaibonbaaDoor
