/-
  DERIVED. GIVEN WITH THE SEED: THE CARDS: each row of YtgomhojaappbnaaDoorRows.lean that lists a variable, with what it lists TIED to the program's text (the seventh form; the later family's looks); each row that meets fmt, with fmt's text TOLD by the authors' own Lean function (tested against real Go, not proved from fmt's source: count such statements apart). THE CARD IS WHAT COUNTS. Prove the row's statement (the work); the ties are given (YtgomhojaappbnaaDoorTie.lean); close each card by the builder's one call (the guide's Derived/Test/ToyasCard.lean, 'card_holds'). Laid BY PROGRAM, IN A SANDBOX (cutbox-door.mjs). By AI agents, Wed Nov 11 2026. No macro, syntax, notation, axiom, sorry.
-/
import Derived.Test.YtgomhojaappbnaaDoorRows
import GoSem.ClaimSeven
namespace Go.Proofs.YtgomhojaappbnaaDoor
namespace Rows

/-- THE TIED CARD OF 'isthmuslaw04.SignSigns'. -/
def signSignsCard : Claim7 := { stood := { row := signSignsRow, standIns := [], harness := (true, "191ed2e8bd4b0aa2ddf548aa5be91263e9f5a1dfa2198f405a01384dc1631a88"), looks := false }, kinds := [], alts := [], laidByText := true, laidKinds := [.data, .data], laidTests := true, laidLooks := .later }
def SignSignsCardSaid : Prop := Claim7.holds Tryd.pinned (.plain (OpenSpec.ofChange signSignsSpec)) signSignsCard

/-- THE TIED CARD OF 'isthmuslaw04.SignVerifies'. -/
def signVerifiesCard : Claim7 := { stood := { row := signVerifiesRow, standIns := [], harness := (true, "191ed2e8bd4b0aa2ddf548aa5be91263e9f5a1dfa2198f405a01384dc1631a88"), looks := false }, kinds := [], alts := [], laidByText := true, laidKinds := [.data, .data], laidTests := true, laidLooks := .later }
def SignVerifiesCardSaid : Prop := Claim7.holds Tryd.pinned (.plain (OpenSpec.ofChange signVerifiesSpec)) signVerifiesCard

/-- THE TIED CARD OF 'isthmuslaw04.SignHolds'. -/
def signHoldsCard : Claim7 := { stood := { row := signHoldsRow, standIns := [], harness := (true, "191ed2e8bd4b0aa2ddf548aa5be91263e9f5a1dfa2198f405a01384dc1631a88"), looks := false }, kinds := [], alts := [], laidByText := true, laidKinds := [.data], laidTests := true, laidLooks := .later }
def SignHoldsCardSaid : Prop := Claim7.holds Tryd.pinned (.plain (OpenSpec.ofChange signHoldsSpec)) signHoldsCard

/-- THE TIED CARD OF 'isthmuslaw04.SignRoots'. -/
def signRootsCard : Claim7 := { stood := { row := signRootsRow, standIns := [], harness := (true, "191ed2e8bd4b0aa2ddf548aa5be91263e9f5a1dfa2198f405a01384dc1631a88"), looks := false }, kinds := [], alts := [], laidByText := true, laidKinds := [.data, .data], laidTests := true, laidLooks := .later }
def SignRootsCardSaid : Prop := Claim7.holds Tryd.pinned (.plain (OpenSpec.ofChange signRootsSpec)) signRootsCard

/-- THE TIED CARD OF 'isthmuslaw04.SignShape'. -/
def signShapeCard : Claim7 := { stood := { row := signShapeRow, standIns := [], harness := (true, "191ed2e8bd4b0aa2ddf548aa5be91263e9f5a1dfa2198f405a01384dc1631a88"), looks := false }, kinds := [], alts := [], laidByText := true, laidKinds := [.data], laidTests := true, laidLooks := .later }
def SignShapeCardSaid : Prop := Claim7.holds Tryd.pinned (.plain (OpenSpec.ofChange signShapeSpec)) signShapeCard

/-- THE SECOND FORM's CARD OF 'isthmuslaw04.SignSigns'. -/
def signSignsUptoCard : Claim7 := { stood := { row := signSignsUptoRow, standIns := [], harness := (true, "191ed2e8bd4b0aa2ddf548aa5be91263e9f5a1dfa2198f405a01384dc1631a88"), looks := false }, kinds := [], alts := [], laidByText := true, laidKinds := [.data, .data], laidTests := true, laidLooks := .later }
def SignSignsUptoCardSaid : Prop := Claim7.holds Tryd.pinned (.plain (OpenSpec.upto signSignsSpec)) signSignsUptoCard

/-- THE SECOND FORM's CARD OF 'isthmuslaw04.SignVerifies'. -/
def signVerifiesUptoCard : Claim7 := { stood := { row := signVerifiesUptoRow, standIns := [], harness := (true, "191ed2e8bd4b0aa2ddf548aa5be91263e9f5a1dfa2198f405a01384dc1631a88"), looks := false }, kinds := [], alts := [], laidByText := true, laidKinds := [.data, .data], laidTests := true, laidLooks := .later }
def SignVerifiesUptoCardSaid : Prop := Claim7.holds Tryd.pinned (.plain (OpenSpec.upto signVerifiesSpec)) signVerifiesUptoCard

/-- THE SECOND FORM's CARD OF 'isthmuslaw04.SignHolds'. -/
def signHoldsUptoCard : Claim7 := { stood := { row := signHoldsUptoRow, standIns := [], harness := (true, "191ed2e8bd4b0aa2ddf548aa5be91263e9f5a1dfa2198f405a01384dc1631a88"), looks := false }, kinds := [], alts := [], laidByText := true, laidKinds := [.data], laidTests := true, laidLooks := .later }
def SignHoldsUptoCardSaid : Prop := Claim7.holds Tryd.pinned (.plain (OpenSpec.upto signHoldsSpec)) signHoldsUptoCard

/-- THE SECOND FORM's CARD OF 'isthmuslaw04.SignRoots'. -/
def signRootsUptoCard : Claim7 := { stood := { row := signRootsUptoRow, standIns := [], harness := (true, "191ed2e8bd4b0aa2ddf548aa5be91263e9f5a1dfa2198f405a01384dc1631a88"), looks := false }, kinds := [], alts := [], laidByText := true, laidKinds := [.data, .data], laidTests := true, laidLooks := .later }
def SignRootsUptoCardSaid : Prop := Claim7.holds Tryd.pinned (.plain (OpenSpec.upto signRootsSpec)) signRootsUptoCard

/-- THE SECOND FORM's CARD OF 'isthmuslaw04.SignShape'. -/
def signShapeUptoCard : Claim7 := { stood := { row := signShapeUptoRow, standIns := [], harness := (true, "191ed2e8bd4b0aa2ddf548aa5be91263e9f5a1dfa2198f405a01384dc1631a88"), looks := false }, kinds := [], alts := [], laidByText := true, laidKinds := [.data], laidTests := true, laidLooks := .later }
def SignShapeUptoCardSaid : Prop := Claim7.holds Tryd.pinned (.plain (OpenSpec.upto signShapeSpec)) signShapeUptoCard
end Rows
end Go.Proofs.YtgomhojaappbnaaDoor
