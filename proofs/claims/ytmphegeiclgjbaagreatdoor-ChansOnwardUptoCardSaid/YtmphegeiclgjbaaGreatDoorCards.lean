/-
  DERIVED. GIVEN WITH THE SEED: THE CARDS: each row of YtmphegeiclgjbaaGreatDoorRows.lean that lists a variable, with what it lists TIED to the program's text (the seventh form; the later family's looks); each row that meets fmt, with fmt's text TOLD by the authors' own Lean function (tested against real Go, not proved from fmt's source: count such statements apart). THE CARD IS WHAT COUNTS. Prove the row's statement (the work); the ties are given (YtmphegeiclgjbaaGreatDoorTie.lean); close each card by the builder's one call (the guide's Derived/Test/ToyasCard.lean, 'card_holds'). Laid BY PROGRAM, IN A SANDBOX (cutbox-door.mjs). By AI agents, Wed Nov 11 2026. No macro, syntax, notation, axiom, sorry.
-/
import Derived.Test.YtmphegeiclgjbaaGreatDoorRows
import GoSem.ClaimSeven
namespace Go.Proofs.YtmphegeiclgjbaaGreatDoor
namespace Rows

/-- THE TIED CARD OF 'isthmuslaw14.ClientFrozen'. -/
def clientFrozenCard : Claim7 := { stood := { row := clientFrozenRow, standIns := [], harness := (true, "35d4aa9a54f1d6a369dc10eb29571705afb93a81e310504d37705bfeabacc883"), looks := false }, kinds := [], alts := [], laidByText := true, laidKinds := [.data, .data, .data, .data], laidTests := true, laidLooks := .later }
def ClientFrozenCardSaid : Prop := Claim7.holds Tryz.pinned (.plain (OpenSpec.ofChange clientFrozenSpec)) clientFrozenCard

/-- THE TIED CARD OF 'isthmuslaw14.ClientTrusts'. -/
def clientTrustsCard : Claim7 := { stood := { row := clientTrustsRow, standIns := [], harness := (true, "35d4aa9a54f1d6a369dc10eb29571705afb93a81e310504d37705bfeabacc883"), looks := false }, kinds := [], alts := [], laidByText := true, laidKinds := [.data, .data, .data, .data], laidTests := true, laidLooks := .later }
def ClientTrustsCardSaid : Prop := Claim7.holds Tryz.pinned (.plain (OpenSpec.ofChange clientTrustsSpec)) clientTrustsCard

/-- THE TIED CARD OF 'isthmuslaw14.ClientShows'. -/
def clientShowsCard : Claim7 := { stood := { row := clientShowsRow, standIns := [], harness := (true, "35d4aa9a54f1d6a369dc10eb29571705afb93a81e310504d37705bfeabacc883"), looks := false }, kinds := [], alts := [], laidByText := true, laidKinds := [.data, .data, .data, .data], laidTests := true, laidLooks := .later }
def ClientShowsCardSaid : Prop := Claim7.holds Tryz.pinned (.plain (OpenSpec.ofChange clientShowsSpec)) clientShowsCard

/-- THE TIED CARD OF 'isthmuslaw14.ClientExpires'. -/
def clientExpiresCard : Claim7 := { stood := { row := clientExpiresRow, standIns := [], harness := (true, "35d4aa9a54f1d6a369dc10eb29571705afb93a81e310504d37705bfeabacc883"), looks := false }, kinds := [], alts := [], laidByText := true, laidKinds := [.data, .data, .data, .data], laidTests := true, laidLooks := .later }
def ClientExpiresCardSaid : Prop := Claim7.holds Tryz.pinned (.plain (OpenSpec.ofChange clientExpiresSpec)) clientExpiresCard

/-- THE TIED CARD OF 'isthmuslaw15.ConnOnward'. -/
def connOnwardCard : Claim7 := { stood := { row := connOnwardRow, standIns := [], harness := (true, "35d4aa9a54f1d6a369dc10eb29571705afb93a81e310504d37705bfeabacc883"), looks := false }, kinds := [], alts := [], laidByText := true, laidKinds := [.data, .data, .data, .data], laidTests := true, laidLooks := .later }
def ConnOnwardCardSaid : Prop := Claim7.holds Tryz.pinned (.plain (OpenSpec.ofChange connOnwardSpec)) connOnwardCard

/-- THE TIED CARD OF 'isthmuslaw15.ConnShown'. -/
def connShownCard : Claim7 := { stood := { row := connShownRow, standIns := [], harness := (true, "35d4aa9a54f1d6a369dc10eb29571705afb93a81e310504d37705bfeabacc883"), looks := false }, kinds := [], alts := [], laidByText := true, laidKinds := [.data, .data, .data, .data], laidTests := true, laidLooks := .later }
def ConnShownCardSaid : Prop := Claim7.holds Tryz.pinned (.plain (OpenSpec.ofChange connShownSpec)) connShownCard

/-- THE TIED CARD OF 'isthmuslaw16.ChansOnward'. -/
def chansOnwardCard : Claim7 := { stood := { row := chansOnwardRow, standIns := [], harness := (true, "35d4aa9a54f1d6a369dc10eb29571705afb93a81e310504d37705bfeabacc883"), looks := false }, kinds := [], alts := [], laidByText := true, laidKinds := [.data, .data, .data, .data], laidTests := true, laidLooks := .later }
def ChansOnwardCardSaid : Prop := Claim7.holds Tryz.pinned (.plain (OpenSpec.ofChange chansOnwardSpec)) chansOnwardCard

/-- THE TIED CARD OF 'isthmuslaw16.ChansNumbers'. -/
def chansNumbersCard : Claim7 := { stood := { row := chansNumbersRow, standIns := [], harness := (true, "35d4aa9a54f1d6a369dc10eb29571705afb93a81e310504d37705bfeabacc883"), looks := false }, kinds := [], alts := [], laidByText := true, laidKinds := [.data, .data, .data, .data], laidTests := true, laidLooks := .later }
def ChansNumbersCardSaid : Prop := Claim7.holds Tryz.pinned (.plain (OpenSpec.ofChange chansNumbersSpec)) chansNumbersCard

/-- THE SECOND FORM's CARD OF 'isthmuslaw14.ClientFrozen'. -/
def clientFrozenUptoCard : Claim7 := { stood := { row := clientFrozenUptoRow, standIns := [], harness := (true, "35d4aa9a54f1d6a369dc10eb29571705afb93a81e310504d37705bfeabacc883"), looks := false }, kinds := [], alts := [], laidByText := true, laidKinds := [.data, .data, .data, .data], laidTests := true, laidLooks := .later }
def ClientFrozenUptoCardSaid : Prop := Claim7.holds Tryz.pinned (.plain (OpenSpec.upto clientFrozenSpec)) clientFrozenUptoCard

/-- THE SECOND FORM's CARD OF 'isthmuslaw14.ClientTrusts'. -/
def clientTrustsUptoCard : Claim7 := { stood := { row := clientTrustsUptoRow, standIns := [], harness := (true, "35d4aa9a54f1d6a369dc10eb29571705afb93a81e310504d37705bfeabacc883"), looks := false }, kinds := [], alts := [], laidByText := true, laidKinds := [.data, .data, .data, .data], laidTests := true, laidLooks := .later }
def ClientTrustsUptoCardSaid : Prop := Claim7.holds Tryz.pinned (.plain (OpenSpec.upto clientTrustsSpec)) clientTrustsUptoCard

/-- THE SECOND FORM's CARD OF 'isthmuslaw14.ClientShows'. -/
def clientShowsUptoCard : Claim7 := { stood := { row := clientShowsUptoRow, standIns := [], harness := (true, "35d4aa9a54f1d6a369dc10eb29571705afb93a81e310504d37705bfeabacc883"), looks := false }, kinds := [], alts := [], laidByText := true, laidKinds := [.data, .data, .data, .data], laidTests := true, laidLooks := .later }
def ClientShowsUptoCardSaid : Prop := Claim7.holds Tryz.pinned (.plain (OpenSpec.upto clientShowsSpec)) clientShowsUptoCard

/-- THE SECOND FORM's CARD OF 'isthmuslaw14.ClientExpires'. -/
def clientExpiresUptoCard : Claim7 := { stood := { row := clientExpiresUptoRow, standIns := [], harness := (true, "35d4aa9a54f1d6a369dc10eb29571705afb93a81e310504d37705bfeabacc883"), looks := false }, kinds := [], alts := [], laidByText := true, laidKinds := [.data, .data, .data, .data], laidTests := true, laidLooks := .later }
def ClientExpiresUptoCardSaid : Prop := Claim7.holds Tryz.pinned (.plain (OpenSpec.upto clientExpiresSpec)) clientExpiresUptoCard

/-- THE SECOND FORM's CARD OF 'isthmuslaw15.ConnOnward'. -/
def connOnwardUptoCard : Claim7 := { stood := { row := connOnwardUptoRow, standIns := [], harness := (true, "35d4aa9a54f1d6a369dc10eb29571705afb93a81e310504d37705bfeabacc883"), looks := false }, kinds := [], alts := [], laidByText := true, laidKinds := [.data, .data, .data, .data], laidTests := true, laidLooks := .later }
def ConnOnwardUptoCardSaid : Prop := Claim7.holds Tryz.pinned (.plain (OpenSpec.upto connOnwardSpec)) connOnwardUptoCard

/-- THE SECOND FORM's CARD OF 'isthmuslaw15.ConnShown'. -/
def connShownUptoCard : Claim7 := { stood := { row := connShownUptoRow, standIns := [], harness := (true, "35d4aa9a54f1d6a369dc10eb29571705afb93a81e310504d37705bfeabacc883"), looks := false }, kinds := [], alts := [], laidByText := true, laidKinds := [.data, .data, .data, .data], laidTests := true, laidLooks := .later }
def ConnShownUptoCardSaid : Prop := Claim7.holds Tryz.pinned (.plain (OpenSpec.upto connShownSpec)) connShownUptoCard

/-- THE SECOND FORM's CARD OF 'isthmuslaw16.ChansOnward'. -/
def chansOnwardUptoCard : Claim7 := { stood := { row := chansOnwardUptoRow, standIns := [], harness := (true, "35d4aa9a54f1d6a369dc10eb29571705afb93a81e310504d37705bfeabacc883"), looks := false }, kinds := [], alts := [], laidByText := true, laidKinds := [.data, .data, .data, .data], laidTests := true, laidLooks := .later }
def ChansOnwardUptoCardSaid : Prop := Claim7.holds Tryz.pinned (.plain (OpenSpec.upto chansOnwardSpec)) chansOnwardUptoCard

/-- THE SECOND FORM's CARD OF 'isthmuslaw16.ChansNumbers'. -/
def chansNumbersUptoCard : Claim7 := { stood := { row := chansNumbersUptoRow, standIns := [], harness := (true, "35d4aa9a54f1d6a369dc10eb29571705afb93a81e310504d37705bfeabacc883"), looks := false }, kinds := [], alts := [], laidByText := true, laidKinds := [.data, .data, .data, .data], laidTests := true, laidLooks := .later }
def ChansNumbersUptoCardSaid : Prop := Claim7.holds Tryz.pinned (.plain (OpenSpec.upto chansNumbersSpec)) chansNumbersUptoCard
end Rows
end Go.Proofs.YtmphegeiclgjbaaGreatDoor
