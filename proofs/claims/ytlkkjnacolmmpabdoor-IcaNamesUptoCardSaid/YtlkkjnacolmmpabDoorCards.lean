/-
  DERIVED. GIVEN WITH THE SEED: THE CARDS: each row of YtlkkjnacolmmpabDoorRows.lean that lists a variable, with what it lists TIED to the program's text (the seventh form; the later family's looks); each row that meets fmt, with fmt's text TOLD by the authors' own Lean function (tested against real Go, not proved from fmt's source: count such statements apart). THE CARD IS WHAT COUNTS. Prove the row's statement (the work); the ties are given (YtlkkjnacolmmpabDoorTie.lean); close each card by the builder's one call (the guide's Derived/Test/ToyasCard.lean, 'card_holds'). Laid BY PROGRAM, IN A SANDBOX (cutbox-door.mjs). By AI agents, Wed Nov 11 2026. No macro, syntax, notation, axiom, sorry.
-/
import Derived.Test.YtlkkjnacolmmpabDoorRows
import GoSem.ClaimSeven
namespace Go.Proofs.YtlkkjnacolmmpabDoor
namespace Rows

/-- THE TIED CARD OF 'isthmuslaw20.IcaNames'. -/
def icaNamesCard : Claim7 := { stood := { row := icaNamesRow, standIns := [], harness := (true, "9ce997248523432e7f8cbc2f788b1a21bd6631aa00d421b04d9183bb50cd27b8"), looks := false }, kinds := [], alts := [], laidByText := true, laidKinds := [.data, .data, .data, .data], laidTests := true, laidLooks := .later }
def IcaNamesCardSaid : Prop := Claim7.holds Tryd.pinned (.plain (OpenSpec.ofChange icaNamesSpec)) icaNamesCard

/-- THE SECOND FORM's CARD OF 'isthmuslaw20.IcaNames'. -/
def icaNamesUptoCard : Claim7 := { stood := { row := icaNamesUptoRow, standIns := [], harness := (true, "9ce997248523432e7f8cbc2f788b1a21bd6631aa00d421b04d9183bb50cd27b8"), looks := false }, kinds := [], alts := [], laidByText := true, laidKinds := [.data, .data, .data, .data], laidTests := true, laidLooks := .later }
def IcaNamesUptoCardSaid : Prop := Claim7.holds Tryd.pinned (.plain (OpenSpec.upto icaNamesSpec)) icaNamesUptoCard
end Rows
end Go.Proofs.YtlkkjnacolmmpabDoor
