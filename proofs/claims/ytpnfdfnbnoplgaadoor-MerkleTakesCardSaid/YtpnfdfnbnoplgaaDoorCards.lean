/-
  DERIVED. GIVEN WITH THE SEED: THE CARDS: each row of YtpnfdfnbnoplgaaDoorRows.lean that lists a variable, with what it lists TIED to the program's text (the seventh form; the later family's looks); each row that meets fmt, with fmt's text TOLD by the authors' own Lean function (tested against real Go, not proved from fmt's source: count such statements apart). THE CARD IS WHAT COUNTS. Prove the row's statement (the work); the ties are given (YtpnfdfnbnoplgaaDoorTie.lean); close each card by the builder's one call (the guide's Derived/Test/ToyasCard.lean, 'card_holds'). Laid BY PROGRAM, IN A SANDBOX (cutbox-door.mjs). By AI agents, Wed Nov 11 2026. No macro, syntax, notation, axiom, sorry.
-/
import Derived.Test.YtpnfdfnbnoplgaaDoorRows
import GoSem.ClaimSeven
namespace Go.Proofs.YtpnfdfnbnoplgaaDoor
namespace Rows

/-- THE TIED CARD OF 'isthmuslaw08.MerkleRoots'. -/
def merkleRootsCard : Claim7 := { stood := { row := merkleRootsRow, standIns := [], harness := (true, "12efc635759353c67b9a81079a81acd7695c1348edc45bd0aec95d61e2245a3c"), looks := false }, kinds := [], alts := [], laidByText := true, laidKinds := [.data, .data], laidTests := true, laidLooks := .later }
def MerkleRootsCardSaid : Prop := Claim7.holds Tryd.pinned (.plain (OpenSpec.ofChange merkleRootsSpec)) merkleRootsCard

/-- THE TIED CARD OF 'isthmuslaw08.MerkleProves'. -/
def merkleProvesCard : Claim7 := { stood := { row := merkleProvesRow, standIns := [], harness := (true, "12efc635759353c67b9a81079a81acd7695c1348edc45bd0aec95d61e2245a3c"), looks := false }, kinds := [], alts := [], laidByText := true, laidKinds := [.data, .data], laidTests := true, laidLooks := .later }
def MerkleProvesCardSaid : Prop := Claim7.holds Tryd.pinned (.plain (OpenSpec.ofChange merkleProvesSpec)) merkleProvesCard

/-- THE TIED CARD OF 'isthmuslaw08.MerkleTakes'. -/
def merkleTakesCard : Claim7 := { stood := { row := merkleTakesRow, standIns := [], harness := (true, "12efc635759353c67b9a81079a81acd7695c1348edc45bd0aec95d61e2245a3c"), looks := false }, kinds := [], alts := [], laidByText := true, laidKinds := [.data, .data], laidTests := true, laidLooks := .later }
def MerkleTakesCardSaid : Prop := Claim7.holds Tryd.pinned (.plain (OpenSpec.ofChange merkleTakesSpec)) merkleTakesCard

/-- THE TIED CARD OF 'isthmuslaw08.MerkleHolds'. -/
def merkleHoldsCard : Claim7 := { stood := { row := merkleHoldsRow, standIns := [], harness := (true, "12efc635759353c67b9a81079a81acd7695c1348edc45bd0aec95d61e2245a3c"), looks := false }, kinds := [], alts := [], laidByText := true, laidKinds := [.data], laidTests := true, laidLooks := .later }
def MerkleHoldsCardSaid : Prop := Claim7.holds Tryd.pinned (.plain (OpenSpec.ofChange merkleHoldsSpec)) merkleHoldsCard

/-- THE TIED CARD OF 'isthmuslaw08.MerkleAbsent'. -/
def merkleAbsentCard : Claim7 := { stood := { row := merkleAbsentRow, standIns := [], harness := (true, "12efc635759353c67b9a81079a81acd7695c1348edc45bd0aec95d61e2245a3c"), looks := false }, kinds := [], alts := [], laidByText := true, laidKinds := [.data, .data], laidTests := true, laidLooks := .later }
def MerkleAbsentCardSaid : Prop := Claim7.holds Tryd.pinned (.plain (OpenSpec.ofChange merkleAbsentSpec)) merkleAbsentCard

/-- THE TIED CARD OF 'isthmuslaw08.MerkleSpots'. -/
def merkleSpotsCard : Claim7 := { stood := { row := merkleSpotsRow, standIns := [], harness := (true, "12efc635759353c67b9a81079a81acd7695c1348edc45bd0aec95d61e2245a3c"), looks := false }, kinds := [], alts := [], laidByText := true, laidKinds := [.data], laidTests := true, laidLooks := .later }
def MerkleSpotsCardSaid : Prop := Claim7.holds Tryd.pinned (.plain (OpenSpec.ofChange merkleSpotsSpec)) merkleSpotsCard

/-- THE SECOND FORM's CARD OF 'isthmuslaw08.MerkleRoots'. -/
def merkleRootsUptoCard : Claim7 := { stood := { row := merkleRootsUptoRow, standIns := [], harness := (true, "12efc635759353c67b9a81079a81acd7695c1348edc45bd0aec95d61e2245a3c"), looks := false }, kinds := [], alts := [], laidByText := true, laidKinds := [.data, .data], laidTests := true, laidLooks := .later }
def MerkleRootsUptoCardSaid : Prop := Claim7.holds Tryd.pinned (.plain (OpenSpec.upto merkleRootsSpec)) merkleRootsUptoCard

/-- THE SECOND FORM's CARD OF 'isthmuslaw08.MerkleProves'. -/
def merkleProvesUptoCard : Claim7 := { stood := { row := merkleProvesUptoRow, standIns := [], harness := (true, "12efc635759353c67b9a81079a81acd7695c1348edc45bd0aec95d61e2245a3c"), looks := false }, kinds := [], alts := [], laidByText := true, laidKinds := [.data, .data], laidTests := true, laidLooks := .later }
def MerkleProvesUptoCardSaid : Prop := Claim7.holds Tryd.pinned (.plain (OpenSpec.upto merkleProvesSpec)) merkleProvesUptoCard

/-- THE SECOND FORM's CARD OF 'isthmuslaw08.MerkleTakes'. -/
def merkleTakesUptoCard : Claim7 := { stood := { row := merkleTakesUptoRow, standIns := [], harness := (true, "12efc635759353c67b9a81079a81acd7695c1348edc45bd0aec95d61e2245a3c"), looks := false }, kinds := [], alts := [], laidByText := true, laidKinds := [.data, .data], laidTests := true, laidLooks := .later }
def MerkleTakesUptoCardSaid : Prop := Claim7.holds Tryd.pinned (.plain (OpenSpec.upto merkleTakesSpec)) merkleTakesUptoCard

/-- THE SECOND FORM's CARD OF 'isthmuslaw08.MerkleHolds'. -/
def merkleHoldsUptoCard : Claim7 := { stood := { row := merkleHoldsUptoRow, standIns := [], harness := (true, "12efc635759353c67b9a81079a81acd7695c1348edc45bd0aec95d61e2245a3c"), looks := false }, kinds := [], alts := [], laidByText := true, laidKinds := [.data], laidTests := true, laidLooks := .later }
def MerkleHoldsUptoCardSaid : Prop := Claim7.holds Tryd.pinned (.plain (OpenSpec.upto merkleHoldsSpec)) merkleHoldsUptoCard

/-- THE SECOND FORM's CARD OF 'isthmuslaw08.MerkleAbsent'. -/
def merkleAbsentUptoCard : Claim7 := { stood := { row := merkleAbsentUptoRow, standIns := [], harness := (true, "12efc635759353c67b9a81079a81acd7695c1348edc45bd0aec95d61e2245a3c"), looks := false }, kinds := [], alts := [], laidByText := true, laidKinds := [.data, .data], laidTests := true, laidLooks := .later }
def MerkleAbsentUptoCardSaid : Prop := Claim7.holds Tryd.pinned (.plain (OpenSpec.upto merkleAbsentSpec)) merkleAbsentUptoCard

/-- THE SECOND FORM's CARD OF 'isthmuslaw08.MerkleSpots'. -/
def merkleSpotsUptoCard : Claim7 := { stood := { row := merkleSpotsUptoRow, standIns := [], harness := (true, "12efc635759353c67b9a81079a81acd7695c1348edc45bd0aec95d61e2245a3c"), looks := false }, kinds := [], alts := [], laidByText := true, laidKinds := [.data], laidTests := true, laidLooks := .later }
def MerkleSpotsUptoCardSaid : Prop := Claim7.holds Tryd.pinned (.plain (OpenSpec.upto merkleSpotsSpec)) merkleSpotsUptoCard
end Rows
end Go.Proofs.YtpnfdfnbnoplgaaDoor
