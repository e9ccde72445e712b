/-
  DERIVED. GIVEN WITH THE SEED: THE CARDS: each row of YtniclaapiabmdaaGreatDoorRows.lean that lists a variable, with what it lists TIED to the program's text (the seventh form; the later family's looks); each row that meets fmt, with fmt's text TOLD by the authors' own Lean function (tested against real Go, not proved from fmt's source: count such statements apart). THE CARD IS WHAT COUNTS. Prove the row's statement (the work); the ties are given (YtniclaapiabmdaaGreatDoorTie.lean); close each card by the builder's one call (the guide's Derived/Test/ToyasCard.lean, 'card_holds'). Laid BY PROGRAM, IN A SANDBOX (cutbox-door.mjs). By AI agents, Wed Nov 11 2026. No macro, syntax, notation, axiom, sorry.
-/
import Derived.Test.YtniclaapiabmdaaGreatDoorRows
import GoSem.ClaimSeven
namespace Go.Proofs.YtniclaapiabmdaaGreatDoor
namespace Rows

/-- THE TIED CARD OF 'isthmuslaw12.AuthOnce'. -/
def authOnceCard : Claim7 := { stood := { row := authOnceRow, standIns := [], harness := (true, "b13a4fe0045679b43f47ecd44e9de5d10d25b69722697bd9183d52f79557aa36"), looks := false }, kinds := [], alts := [], laidByText := true, laidKinds := [.data], laidTests := true, laidLooks := .later }
def AuthOnceCardSaid : Prop := Claim7.holds Tryz.pinned (.plain (OpenSpec.ofChange authOnceSpec)) authOnceCard

/-- THE TIED CARD OF 'isthmuslaw12.AuthTouches'. -/
def authTouchesCard : Claim7 := { stood := { row := authTouchesRow, standIns := [], harness := (true, "b13a4fe0045679b43f47ecd44e9de5d10d25b69722697bd9183d52f79557aa36"), looks := false }, kinds := [], alts := [], laidByText := true, laidKinds := [.data], laidTests := true, laidLooks := .later }
def AuthTouchesCardSaid : Prop := Claim7.holds Tryz.pinned (.plain (OpenSpec.ofChange authTouchesSpec)) authTouchesCard

/-- THE TIED CARD OF 'isthmuslaw12.AuthScripts'. -/
def authScriptsCard : Claim7 := { stood := { row := authScriptsRow, standIns := [], harness := (true, "b13a4fe0045679b43f47ecd44e9de5d10d25b69722697bd9183d52f79557aa36"), looks := false }, kinds := [], alts := [], laidByText := true, laidKinds := [.data, .data], laidTests := true, laidLooks := .later }
def AuthScriptsCardSaid : Prop := Claim7.holds Tryz.pinned (.plain (OpenSpec.ofChange authScriptsSpec)) authScriptsCard

/-- THE SECOND FORM's CARD OF 'isthmuslaw12.AuthOnce'. -/
def authOnceUptoCard : Claim7 := { stood := { row := authOnceUptoRow, standIns := [], harness := (true, "b13a4fe0045679b43f47ecd44e9de5d10d25b69722697bd9183d52f79557aa36"), looks := false }, kinds := [], alts := [], laidByText := true, laidKinds := [.data], laidTests := true, laidLooks := .later }
def AuthOnceUptoCardSaid : Prop := Claim7.holds Tryz.pinned (.plain (OpenSpec.upto authOnceSpec)) authOnceUptoCard

/-- THE SECOND FORM's CARD OF 'isthmuslaw12.AuthTouches'. -/
def authTouchesUptoCard : Claim7 := { stood := { row := authTouchesUptoRow, standIns := [], harness := (true, "b13a4fe0045679b43f47ecd44e9de5d10d25b69722697bd9183d52f79557aa36"), looks := false }, kinds := [], alts := [], laidByText := true, laidKinds := [.data], laidTests := true, laidLooks := .later }
def AuthTouchesUptoCardSaid : Prop := Claim7.holds Tryz.pinned (.plain (OpenSpec.upto authTouchesSpec)) authTouchesUptoCard

/-- THE SECOND FORM's CARD OF 'isthmuslaw12.AuthScripts'. -/
def authScriptsUptoCard : Claim7 := { stood := { row := authScriptsUptoRow, standIns := [], harness := (true, "b13a4fe0045679b43f47ecd44e9de5d10d25b69722697bd9183d52f79557aa36"), looks := false }, kinds := [], alts := [], laidByText := true, laidKinds := [.data, .data], laidTests := true, laidLooks := .later }
def AuthScriptsUptoCardSaid : Prop := Claim7.holds Tryz.pinned (.plain (OpenSpec.upto authScriptsSpec)) authScriptsUptoCard
end Rows
end Go.Proofs.YtniclaapiabmdaaGreatDoor
