/-
  DERIVED. GIVEN WITH THE SEED: THE CARDS: each row of YtcgkonpepmoliaaGreatDoorRows.lean that lists a variable, with what it lists TIED to the program's text (the seventh form; the later family's looks); each row that meets fmt, with fmt's text TOLD by the authors' own Lean function (tested against real Go, not proved from fmt's source: count such statements apart). THE CARD IS WHAT COUNTS. Prove the row's statement (the work); the ties are given (YtcgkonpepmoliaaGreatDoorTie.lean); close each card by the builder's one call (the guide's Derived/Test/ToyasCard.lean, 'card_holds'). Laid BY PROGRAM, IN A SANDBOX (cutbox-door.mjs). By AI agents, Wed Nov 11 2026. No macro, syntax, notation, axiom, sorry.
-/
import Derived.Test.YtcgkonpepmoliaaGreatDoorRows
import GoSem.ClaimSeven
namespace Go.Proofs.YtcgkonpepmoliaaGreatDoor
namespace Rows

/-- THE TIED CARD OF 'isthmuslaw20.IcaAll'. -/
def icaAllCard : Claim7 := { stood := { row := icaAllRow, standIns := [], harness := (true, "1c51e16a4840dcef53f9e229fad020c622f6faffb808eef253029b7504e3ad83"), looks := false }, kinds := [], alts := [], laidByText := true, laidKinds := [.data, .data, .data, .data], laidTests := true, laidLooks := .later }
def IcaAllCardSaid : Prop := Claim7.holds Tryz.pinned (.plain (OpenSpec.ofChange icaAllSpec)) icaAllCard

/-- THE TIED CARD OF 'isthmuslaw12.AuthOnce'. -/
def authOnceCard : Claim7 := { stood := { row := authOnceRow, standIns := [], harness := (true, "1c51e16a4840dcef53f9e229fad020c622f6faffb808eef253029b7504e3ad83"), looks := false }, kinds := [], alts := [], laidByText := true, laidKinds := [.data], laidTests := true, laidLooks := .later }
def AuthOnceCardSaid : Prop := Claim7.holds Tryz.pinned (.plain (OpenSpec.ofChange authOnceSpec)) authOnceCard

/-- THE TIED CARD OF 'isthmuslaw12.AuthTouches'. -/
def authTouchesCard : Claim7 := { stood := { row := authTouchesRow, standIns := [], harness := (true, "1c51e16a4840dcef53f9e229fad020c622f6faffb808eef253029b7504e3ad83"), looks := false }, kinds := [], alts := [], laidByText := true, laidKinds := [.data], laidTests := true, laidLooks := .later }
def AuthTouchesCardSaid : Prop := Claim7.holds Tryz.pinned (.plain (OpenSpec.ofChange authTouchesSpec)) authTouchesCard

/-- THE SECOND FORM's CARD OF 'isthmuslaw20.IcaAll'. -/
def icaAllUptoCard : Claim7 := { stood := { row := icaAllUptoRow, standIns := [], harness := (true, "1c51e16a4840dcef53f9e229fad020c622f6faffb808eef253029b7504e3ad83"), looks := false }, kinds := [], alts := [], laidByText := true, laidKinds := [.data, .data, .data, .data], laidTests := true, laidLooks := .later }
def IcaAllUptoCardSaid : Prop := Claim7.holds Tryz.pinned (.plain (OpenSpec.upto icaAllSpec)) icaAllUptoCard

/-- THE SECOND FORM's CARD OF 'isthmuslaw12.AuthOnce'. -/
def authOnceUptoCard : Claim7 := { stood := { row := authOnceUptoRow, standIns := [], harness := (true, "1c51e16a4840dcef53f9e229fad020c622f6faffb808eef253029b7504e3ad83"), looks := false }, kinds := [], alts := [], laidByText := true, laidKinds := [.data], laidTests := true, laidLooks := .later }
def AuthOnceUptoCardSaid : Prop := Claim7.holds Tryz.pinned (.plain (OpenSpec.upto authOnceSpec)) authOnceUptoCard

/-- THE SECOND FORM's CARD OF 'isthmuslaw12.AuthTouches'. -/
def authTouchesUptoCard : Claim7 := { stood := { row := authTouchesUptoRow, standIns := [], harness := (true, "1c51e16a4840dcef53f9e229fad020c622f6faffb808eef253029b7504e3ad83"), looks := false }, kinds := [], alts := [], laidByText := true, laidKinds := [.data], laidTests := true, laidLooks := .later }
def AuthTouchesUptoCardSaid : Prop := Claim7.holds Tryz.pinned (.plain (OpenSpec.upto authTouchesSpec)) authTouchesUptoCard
end Rows
end Go.Proofs.YtcgkonpepmoliaaGreatDoor
