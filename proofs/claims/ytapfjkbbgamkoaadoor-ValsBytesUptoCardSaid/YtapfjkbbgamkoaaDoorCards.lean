/-
  DERIVED. GIVEN WITH THE SEED: THE CARDS: each row of YtapfjkbbgamkoaaDoorRows.lean that lists a variable, with what it lists TIED to the program's text (the seventh form; the later family's looks); each row that meets fmt, with fmt's text TOLD by the authors' own Lean function (tested against real Go, not proved from fmt's source: count such statements apart). THE CARD IS WHAT COUNTS. Prove the row's statement (the work); the ties are given (YtapfjkbbgamkoaaDoorTie.lean); close each card by the builder's one call (the guide's Derived/Test/ToyasCard.lean, 'card_holds'). Laid BY PROGRAM, IN A SANDBOX (cutbox-door.mjs). By AI agents, Wed Nov 11 2026. No macro, syntax, notation, axiom, sorry.
-/
import Derived.Test.YtapfjkbbgamkoaaDoorRows
import GoSem.ClaimSeven
namespace Go.Proofs.YtapfjkbbgamkoaaDoor
namespace Rows

/-- THE TIED CARD OF 'isthmuslaw13.ValsCounts'. -/
def valsCountsCard : Claim7 := { stood := { row := valsCountsRow, standIns := [], harness := (true, "714b72719c7a1bd8f173bc3991422b4332d0673b3cb0c4514bc488a95d0d85c5"), looks := false }, kinds := [], alts := [], laidByText := true, laidKinds := [.data], laidTests := true, laidLooks := .later }
def ValsCountsCardSaid : Prop := Claim7.holds Tryd.pinned (.plain (OpenSpec.ofChange valsCountsSpec)) valsCountsCard

/-- THE TIED CARD OF 'isthmuslaw13.ValsBytes'. -/
def valsBytesCard : Claim7 := { stood := { row := valsBytesRow, standIns := [], harness := (true, "714b72719c7a1bd8f173bc3991422b4332d0673b3cb0c4514bc488a95d0d85c5"), looks := false }, kinds := [], alts := [], laidByText := true, laidKinds := [.data, .data], laidTests := true, laidLooks := .later }
def ValsBytesCardSaid : Prop := Claim7.holds Tryd.pinned (.plain (OpenSpec.ofChange valsBytesSpec)) valsBytesCard

/-- THE TIED CARD OF 'isthmuslaw13.ValsMeet'. -/
def valsMeetCard : Claim7 := { stood := { row := valsMeetRow, standIns := [], harness := (true, "714b72719c7a1bd8f173bc3991422b4332d0673b3cb0c4514bc488a95d0d85c5"), looks := false }, kinds := [], alts := [], laidByText := true, laidKinds := [.data], laidTests := true, laidLooks := .later }
def ValsMeetCardSaid : Prop := Claim7.holds Tryd.pinned (.plain (OpenSpec.ofChange valsMeetSpec)) valsMeetCard

/-- THE TIED CARD OF 'isthmuslaw13.ValsHeaders'. -/
def valsHeadersCard : Claim7 := { stood := { row := valsHeadersRow, standIns := [], harness := (true, "714b72719c7a1bd8f173bc3991422b4332d0673b3cb0c4514bc488a95d0d85c5"), looks := false }, kinds := [], alts := [], laidByText := true, laidKinds := [.data, .data], laidTests := true, laidLooks := .later }
def ValsHeadersCardSaid : Prop := Claim7.holds Tryd.pinned (.plain (OpenSpec.ofChange valsHeadersSpec)) valsHeadersCard

/-- THE TIED CARD OF 'isthmuslaw13.ValsMore'. -/
def valsMoreCard : Claim7 := { stood := { row := valsMoreRow, standIns := [], harness := (true, "714b72719c7a1bd8f173bc3991422b4332d0673b3cb0c4514bc488a95d0d85c5"), looks := false }, kinds := [], alts := [], laidByText := true, laidKinds := [.data], laidTests := true, laidLooks := .later }
def ValsMoreCardSaid : Prop := Claim7.holds Tryd.pinned (.plain (OpenSpec.ofChange valsMoreSpec)) valsMoreCard

/-- THE TIED CARD OF 'isthmuslaw13.ValsHonest'. -/
def valsHonestCard : Claim7 := { stood := { row := valsHonestRow, standIns := [], harness := (true, "714b72719c7a1bd8f173bc3991422b4332d0673b3cb0c4514bc488a95d0d85c5"), looks := false }, kinds := [], alts := [], laidByText := true, laidKinds := [.data], laidTests := true, laidLooks := .later }
def ValsHonestCardSaid : Prop := Claim7.holds Tryd.pinned (.plain (OpenSpec.ofChange valsHonestSpec)) valsHonestCard

/-- THE TIED CARD OF 'isthmuslaw13.ValsFull'. -/
def valsFullCard : Claim7 := { stood := { row := valsFullRow, standIns := [], harness := (true, "714b72719c7a1bd8f173bc3991422b4332d0673b3cb0c4514bc488a95d0d85c5"), looks := false }, kinds := [], alts := [], laidByText := true, laidKinds := [.data], laidTests := true, laidLooks := .later }
def ValsFullCardSaid : Prop := Claim7.holds Tryd.pinned (.plain (OpenSpec.ofChange valsFullSpec)) valsFullCard

/-- THE SECOND FORM's CARD OF 'isthmuslaw13.ValsCounts'. -/
def valsCountsUptoCard : Claim7 := { stood := { row := valsCountsUptoRow, standIns := [], harness := (true, "714b72719c7a1bd8f173bc3991422b4332d0673b3cb0c4514bc488a95d0d85c5"), looks := false }, kinds := [], alts := [], laidByText := true, laidKinds := [.data], laidTests := true, laidLooks := .later }
def ValsCountsUptoCardSaid : Prop := Claim7.holds Tryd.pinned (.plain (OpenSpec.upto valsCountsSpec)) valsCountsUptoCard

/-- THE SECOND FORM's CARD OF 'isthmuslaw13.ValsBytes'. -/
def valsBytesUptoCard : Claim7 := { stood := { row := valsBytesUptoRow, standIns := [], harness := (true, "714b72719c7a1bd8f173bc3991422b4332d0673b3cb0c4514bc488a95d0d85c5"), looks := false }, kinds := [], alts := [], laidByText := true, laidKinds := [.data, .data], laidTests := true, laidLooks := .later }
def ValsBytesUptoCardSaid : Prop := Claim7.holds Tryd.pinned (.plain (OpenSpec.upto valsBytesSpec)) valsBytesUptoCard

/-- THE SECOND FORM's CARD OF 'isthmuslaw13.ValsMeet'. -/
def valsMeetUptoCard : Claim7 := { stood := { row := valsMeetUptoRow, standIns := [], harness := (true, "714b72719c7a1bd8f173bc3991422b4332d0673b3cb0c4514bc488a95d0d85c5"), looks := false }, kinds := [], alts := [], laidByText := true, laidKinds := [.data], laidTests := true, laidLooks := .later }
def ValsMeetUptoCardSaid : Prop := Claim7.holds Tryd.pinned (.plain (OpenSpec.upto valsMeetSpec)) valsMeetUptoCard

/-- THE SECOND FORM's CARD OF 'isthmuslaw13.ValsHeaders'. -/
def valsHeadersUptoCard : Claim7 := { stood := { row := valsHeadersUptoRow, standIns := [], harness := (true, "714b72719c7a1bd8f173bc3991422b4332d0673b3cb0c4514bc488a95d0d85c5"), looks := false }, kinds := [], alts := [], laidByText := true, laidKinds := [.data, .data], laidTests := true, laidLooks := .later }
def ValsHeadersUptoCardSaid : Prop := Claim7.holds Tryd.pinned (.plain (OpenSpec.upto valsHeadersSpec)) valsHeadersUptoCard

/-- THE SECOND FORM's CARD OF 'isthmuslaw13.ValsMore'. -/
def valsMoreUptoCard : Claim7 := { stood := { row := valsMoreUptoRow, standIns := [], harness := (true, "714b72719c7a1bd8f173bc3991422b4332d0673b3cb0c4514bc488a95d0d85c5"), looks := false }, kinds := [], alts := [], laidByText := true, laidKinds := [.data], laidTests := true, laidLooks := .later }
def ValsMoreUptoCardSaid : Prop := Claim7.holds Tryd.pinned (.plain (OpenSpec.upto valsMoreSpec)) valsMoreUptoCard

/-- THE SECOND FORM's CARD OF 'isthmuslaw13.ValsHonest'. -/
def valsHonestUptoCard : Claim7 := { stood := { row := valsHonestUptoRow, standIns := [], harness := (true, "714b72719c7a1bd8f173bc3991422b4332d0673b3cb0c4514bc488a95d0d85c5"), looks := false }, kinds := [], alts := [], laidByText := true, laidKinds := [.data], laidTests := true, laidLooks := .later }
def ValsHonestUptoCardSaid : Prop := Claim7.holds Tryd.pinned (.plain (OpenSpec.upto valsHonestSpec)) valsHonestUptoCard

/-- THE SECOND FORM's CARD OF 'isthmuslaw13.ValsFull'. -/
def valsFullUptoCard : Claim7 := { stood := { row := valsFullUptoRow, standIns := [], harness := (true, "714b72719c7a1bd8f173bc3991422b4332d0673b3cb0c4514bc488a95d0d85c5"), looks := false }, kinds := [], alts := [], laidByText := true, laidKinds := [.data], laidTests := true, laidLooks := .later }
def ValsFullUptoCardSaid : Prop := Claim7.holds Tryd.pinned (.plain (OpenSpec.upto valsFullSpec)) valsFullUptoCard
end Rows
end Go.Proofs.YtapfjkbbgamkoaaDoor
