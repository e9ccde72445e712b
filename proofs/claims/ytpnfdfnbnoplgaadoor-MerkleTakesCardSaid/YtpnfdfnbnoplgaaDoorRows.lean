/-
  NARROWER THAN 'FOR EVERY INPUT', by the rows' own cells (each row's printed sentence says how): MerkleRoots: laid · MerkleProves: laid · MerkleTakes: laid · MerkleHolds: laid · MerkleAbsent: laid · MerkleSpots: laid.
  DERIVED. THE GIVEN ROWS OF THIS SEAT. 6 by the template 'for every input the law returns true; each argument reads behind the call as it read before'; 0 by the template 'total and deterministic' (their statements: YtpnfdfnbnoplgaaDoorTotals.lean).
  GIVEN WITH THE SEED: the statements are not yours to turn. If you find one false, say at which input.
  Laid BY PROGRAM, IN A SANDBOX (cutbox-rows.mjs): the forced cells as the released guide's own fill.sh prints them over the translation 2826049b7a15cbb1… (all of the seat's roots in one cut). By AI agents, Wed Nov 11 2026. No macro, syntax, notation, axiom, sorry.
-/
import Derived.Test.YtpnfdfnbnoplgaaDoorChecked
import GoSem.Claim
import GoSem.ClaimJoined
import GoSem.ClaimMapViews
import Derived.JoinedTies
import Derived.KernelRfl
namespace Go.Proofs.YtpnfdfnbnoplgaaDoor
/- THE CELL 'sum', in the pinned program and in every row, IS THE sha256 OF THE DUMP (.gsa) THAT YtpnfdfnbnoplgaaDoorProg.lean LOADS. Nothing in Lean hashes anything: it is a label: what it is worth is what the hold of that sum in a sandbox is worth. -/
noncomputable def Tryd.pinned : Pinned := { name := "ytpnfdfnbnoplgaadoor", sum := "2826049b7a15cbb1c48d47af7b664ab6f66b13c8c3c74435ab4de3ae316c6db4", checked := Tryd.checked }
namespace Rows
def none {H : Type} : Left H := { results := [], args := [] }

/- WHAT THE LISTED PACKAGE-LEVEL VARIABLES READ AS WHEN THE CALL BEGINS. Each datum BY PROGRAM (the guide's laid-datum.mjs) off the statement by which the dump's own 'gosem.cut.vars' lays the variable. In a bare row this is a premise. The card (YtpnfdfnbnoplgaaDoorCards.lean) ties it to the program's text. -/
def laid_isthmus_isthmusref03_k {H : Type} : DataW H := .agg [.lit (.int .u32 1116352408), .lit (.int .u32 1899447441), .lit (.int .u32 3049323471), .lit (.int .u32 3921009573), .lit (.int .u32 961987163), .lit (.int .u32 1508970993), .lit (.int .u32 2453635748), .lit (.int .u32 2870763221), .lit (.int .u32 3624381080), .lit (.int .u32 310598401), .lit (.int .u32 607225278), .lit (.int .u32 1426881987), .lit (.int .u32 1925078388), .lit (.int .u32 2162078206), .lit (.int .u32 2614888103), .lit (.int .u32 3248222580), .lit (.int .u32 3835390401), .lit (.int .u32 4022224774), .lit (.int .u32 264347078), .lit (.int .u32 604807628), .lit (.int .u32 770255983), .lit (.int .u32 1249150122), .lit (.int .u32 1555081692), .lit (.int .u32 1996064986), .lit (.int .u32 2554220882), .lit (.int .u32 2821834349), .lit (.int .u32 2952996808), .lit (.int .u32 3210313671), .lit (.int .u32 3336571891), .lit (.int .u32 3584528711), .lit (.int .u32 113926993), .lit (.int .u32 338241895), .lit (.int .u32 666307205), .lit (.int .u32 773529912), .lit (.int .u32 1294757372), .lit (.int .u32 1396182291), .lit (.int .u32 1695183700), .lit (.int .u32 1986661051), .lit (.int .u32 2177026350), .lit (.int .u32 2456956037), .lit (.int .u32 2730485921), .lit (.int .u32 2820302411), .lit (.int .u32 3259730800), .lit (.int .u32 3345764771), .lit (.int .u32 3516065817), .lit (.int .u32 3600352804), .lit (.int .u32 4094571909), .lit (.int .u32 275423344), .lit (.int .u32 430227734), .lit (.int .u32 506948616), .lit (.int .u32 659060556), .lit (.int .u32 883997877), .lit (.int .u32 958139571), .lit (.int .u32 1322822218), .lit (.int .u32 1537002063), .lit (.int .u32 1747873779), .lit (.int .u32 1955562222), .lit (.int .u32 2024104815), .lit (.int .u32 2227730452), .lit (.int .u32 2361852424), .lit (.int .u32 2428436474), .lit (.int .u32 2756734187), .lit (.int .u32 3204031479), .lit (.int .u32 3329325298)]
def laid_isthmus_sha_roundTable {H : Type} : DataW H := .agg [.lit (.int .u32 1116352408), .lit (.int .u32 1899447441), .lit (.int .u32 3049323471), .lit (.int .u32 3921009573), .lit (.int .u32 961987163), .lit (.int .u32 1508970993), .lit (.int .u32 2453635748), .lit (.int .u32 2870763221), .lit (.int .u32 3624381080), .lit (.int .u32 310598401), .lit (.int .u32 607225278), .lit (.int .u32 1426881987), .lit (.int .u32 1925078388), .lit (.int .u32 2162078206), .lit (.int .u32 2614888103), .lit (.int .u32 3248222580), .lit (.int .u32 3835390401), .lit (.int .u32 4022224774), .lit (.int .u32 264347078), .lit (.int .u32 604807628), .lit (.int .u32 770255983), .lit (.int .u32 1249150122), .lit (.int .u32 1555081692), .lit (.int .u32 1996064986), .lit (.int .u32 2554220882), .lit (.int .u32 2821834349), .lit (.int .u32 2952996808), .lit (.int .u32 3210313671), .lit (.int .u32 3336571891), .lit (.int .u32 3584528711), .lit (.int .u32 113926993), .lit (.int .u32 338241895), .lit (.int .u32 666307205), .lit (.int .u32 773529912), .lit (.int .u32 1294757372), .lit (.int .u32 1396182291), .lit (.int .u32 1695183700), .lit (.int .u32 1986661051), .lit (.int .u32 2177026350), .lit (.int .u32 2456956037), .lit (.int .u32 2730485921), .lit (.int .u32 2820302411), .lit (.int .u32 3259730800), .lit (.int .u32 3345764771), .lit (.int .u32 3516065817), .lit (.int .u32 3600352804), .lit (.int .u32 4094571909), .lit (.int .u32 275423344), .lit (.int .u32 430227734), .lit (.int .u32 506948616), .lit (.int .u32 659060556), .lit (.int .u32 883997877), .lit (.int .u32 958139571), .lit (.int .u32 1322822218), .lit (.int .u32 1537002063), .lit (.int .u32 1747873779), .lit (.int .u32 1955562222), .lit (.int .u32 2024104815), .lit (.int .u32 2227730452), .lit (.int .u32 2361852424), .lit (.int .u32 2428436474), .lit (.int .u32 2756734187), .lit (.int .u32 3204031479), .lit (.int .u32 3329325298)]

/-- 'isthmuslaw08.MerkleRoots': WHATEVER THE INPUT: true; the input reads as it did. -/
def merkleRootsSpec : ChangeSpec := { name := "merkleRoots", fn := fun _ => fun
  | [d] => { results := [.lit (.bool true)], args := [d] }
  | _ => none }
def merkleRootsRow : OpenClaim := { program := "ytpnfdfnbnoplgaadoor", sum := "2826049b7a15cbb1c48d47af7b664ab6f66b13c8c3c74435ab4de3ae316c6db4", func := "isthmus/isthmuslaw08.MerkleRoots", spec := "merkleRoots", recurses := true, named := ["isthmus/sha.roundTable", "isthmus/isthmusref03.k"], apart := false, laid := [("isthmus/isthmusref03.k", laid_isthmus_isthmusref03_k), ("isthmus/sha.roundTable", laid_isthmus_sha_roundTable)] }
def MerkleRootsSaid : Prop := merkleRootsRow.holds Tryd.pinned (OpenSpec.ofChange merkleRootsSpec)

/-- ITS FALSE NEIGHBOUR: 'it returns false'. Refute it at one input. -/
def merkleRootsWrong : ChangeSpec := { name := "merkleRoots", fn := fun _ => fun
  | [d] => { results := [.lit (.bool false)], args := [d] }
  | _ => none }
def MerkleRootsWrongFalsely : Prop := merkleRootsRow.holds Tryd.pinned (OpenSpec.ofChange merkleRootsWrong)

/-- 'isthmuslaw08.MerkleProves': WHATEVER THE INPUT: true; the input reads as it did. -/
def merkleProvesSpec : ChangeSpec := { name := "merkleProves", fn := fun _ => fun
  | [d1, d2] => { results := [.lit (.bool true)], args := [d1, d2] }
  | _ => none }
def merkleProvesRow : OpenClaim := { program := "ytpnfdfnbnoplgaadoor", sum := "2826049b7a15cbb1c48d47af7b664ab6f66b13c8c3c74435ab4de3ae316c6db4", func := "isthmus/isthmuslaw08.MerkleProves", spec := "merkleProves", recurses := true, named := ["isthmus/sha.roundTable", "isthmus/isthmusref03.k"], apart := false, laid := [("isthmus/isthmusref03.k", laid_isthmus_isthmusref03_k), ("isthmus/sha.roundTable", laid_isthmus_sha_roundTable)] }
def MerkleProvesSaid : Prop := merkleProvesRow.holds Tryd.pinned (OpenSpec.ofChange merkleProvesSpec)

/-- ITS FALSE NEIGHBOUR: 'it returns false'. Refute it at one input. -/
def merkleProvesWrong : ChangeSpec := { name := "merkleProves", fn := fun _ => fun
  | [d1, d2] => { results := [.lit (.bool false)], args := [d1, d2] }
  | _ => none }
def MerkleProvesWrongFalsely : Prop := merkleProvesRow.holds Tryd.pinned (OpenSpec.ofChange merkleProvesWrong)

/-- 'isthmuslaw08.MerkleTakes': WHATEVER THE INPUT: true; the input reads as it did. -/
def merkleTakesSpec : ChangeSpec := { name := "merkleTakes", fn := fun _ => fun
  | [d] => { results := [.lit (.bool true)], args := [d] }
  | _ => none }
def merkleTakesRow : OpenClaim := { program := "ytpnfdfnbnoplgaadoor", sum := "2826049b7a15cbb1c48d47af7b664ab6f66b13c8c3c74435ab4de3ae316c6db4", func := "isthmus/isthmuslaw08.MerkleTakes", spec := "merkleTakes", recurses := true, named := ["isthmus/sha.roundTable", "isthmus/isthmusref03.k"], apart := false, laid := [("isthmus/isthmusref03.k", laid_isthmus_isthmusref03_k), ("isthmus/sha.roundTable", laid_isthmus_sha_roundTable)] }
def MerkleTakesSaid : Prop := merkleTakesRow.holds Tryd.pinned (OpenSpec.ofChange merkleTakesSpec)

/-- ITS FALSE NEIGHBOUR: 'it returns false'. Refute it at one input. -/
def merkleTakesWrong : ChangeSpec := { name := "merkleTakes", fn := fun _ => fun
  | [d] => { results := [.lit (.bool false)], args := [d] }
  | _ => none }
def MerkleTakesWrongFalsely : Prop := merkleTakesRow.holds Tryd.pinned (OpenSpec.ofChange merkleTakesWrong)

/-- 'isthmuslaw08.MerkleHolds': WHATEVER THE INPUT: true; the input reads as it did. -/
def merkleHoldsSpec : ChangeSpec := { name := "merkleHolds", fn := fun _ => fun
  | [d1, d2] => { results := [.lit (.bool true)], args := [d1, d2] }
  | _ => none }
def merkleHoldsRow : OpenClaim := { program := "ytpnfdfnbnoplgaadoor", sum := "2826049b7a15cbb1c48d47af7b664ab6f66b13c8c3c74435ab4de3ae316c6db4", func := "isthmus/isthmuslaw08.MerkleHolds", spec := "merkleHolds", named := ["isthmus/sha.roundTable"], apart := false, laid := [("isthmus/sha.roundTable", laid_isthmus_sha_roundTable)] }
def MerkleHoldsSaid : Prop := merkleHoldsRow.holds Tryd.pinned (OpenSpec.ofChange merkleHoldsSpec)

/-- ITS FALSE NEIGHBOUR: 'it returns false'. Refute it at one input. -/
def merkleHoldsWrong : ChangeSpec := { name := "merkleHolds", fn := fun _ => fun
  | [d1, d2] => { results := [.lit (.bool false)], args := [d1, d2] }
  | _ => none }
def MerkleHoldsWrongFalsely : Prop := merkleHoldsRow.holds Tryd.pinned (OpenSpec.ofChange merkleHoldsWrong)

/-- 'isthmuslaw08.MerkleAbsent': WHATEVER THE INPUT: true; the input reads as it did. -/
def merkleAbsentSpec : ChangeSpec := { name := "merkleAbsent", fn := fun _ => fun
  | [d] => { results := [.lit (.bool true)], args := [d] }
  | _ => none }
def merkleAbsentRow : OpenClaim := { program := "ytpnfdfnbnoplgaadoor", sum := "2826049b7a15cbb1c48d47af7b664ab6f66b13c8c3c74435ab4de3ae316c6db4", func := "isthmus/isthmuslaw08.MerkleAbsent", spec := "merkleAbsent", recurses := true, named := ["isthmus/sha.roundTable", "isthmus/isthmusref03.k"], apart := false, laid := [("isthmus/isthmusref03.k", laid_isthmus_isthmusref03_k), ("isthmus/sha.roundTable", laid_isthmus_sha_roundTable)] }
def MerkleAbsentSaid : Prop := merkleAbsentRow.holds Tryd.pinned (OpenSpec.ofChange merkleAbsentSpec)

/-- ITS FALSE NEIGHBOUR: 'it returns false'. Refute it at one input. -/
def merkleAbsentWrong : ChangeSpec := { name := "merkleAbsent", fn := fun _ => fun
  | [d] => { results := [.lit (.bool false)], args := [d] }
  | _ => none }
def MerkleAbsentWrongFalsely : Prop := merkleAbsentRow.holds Tryd.pinned (OpenSpec.ofChange merkleAbsentWrong)

/-- 'isthmuslaw08.MerkleSpots': WHATEVER THE INPUT: true; the input reads as it did. -/
def merkleSpotsSpec : ChangeSpec := { name := "merkleSpots", fn := fun _ => fun
  | [d1, d2] => { results := [.lit (.bool true)], args := [d1, d2] }
  | _ => none }
def merkleSpotsRow : OpenClaim := { program := "ytpnfdfnbnoplgaadoor", sum := "2826049b7a15cbb1c48d47af7b664ab6f66b13c8c3c74435ab4de3ae316c6db4", func := "isthmus/isthmuslaw08.MerkleSpots", spec := "merkleSpots", named := ["isthmus/sha.roundTable"], apart := false, laid := [("isthmus/sha.roundTable", laid_isthmus_sha_roundTable)] }
def MerkleSpotsSaid : Prop := merkleSpotsRow.holds Tryd.pinned (OpenSpec.ofChange merkleSpotsSpec)

/-- ITS FALSE NEIGHBOUR: 'it returns false'. Refute it at one input. -/
def merkleSpotsWrong : ChangeSpec := { name := "merkleSpots", fn := fun _ => fun
  | [d1, d2] => { results := [.lit (.bool false)], args := [d1, d2] }
  | _ => none }
def MerkleSpotsWrongFalsely : Prop := merkleSpotsRow.holds Tryd.pinned (OpenSpec.ofChange merkleSpotsWrong)

/- THE SECOND FORM. 'bulk': how many values and letters a reading holds, each counted each time it is reached (what is shared counts as often as it is met; a slice's spare places count too). A statement '..UptoSaid' is the law's where the arguments, and the package variables that the reading takes, are together of bulk at most 1048576: NARROWER than '..Said'. Prove '..Said' where nothing that the law and all that it calls make is longer than what came in: it says more and counts as full. Else prove '..UptoSaid'. A law counts once. -/
mutual
def uptoBulk {H : Type} : DataW H → Nat
  | .lit (.string bytes) => bytes.length + 1
  | .lit _ => 1
  | .nil => 1
  | .ptr d => uptoBulk d + 1
  | .slice elems spare => uptoBulkAll elems + uptoBulkAll spare + 1
  | .agg parts => uptoBulkAll parts + 1
  | .iface _ d => uptoBulk d + 1
  | .map entries => uptoBulkEntries entries + 1
  | .held _ => 1
def uptoBulkAll {H : Type} : List (DataW H) → Nat
  | [] => 0
  | d :: r => uptoBulk d + uptoBulkAll r
def uptoBulkEntries {H : Type} : List (Lit × DataW H) → Nat
  | [] => 0
  | x :: r => uptoBulkEntry x + uptoBulkEntries r
def uptoBulkEntry {H : Type} : Lit × DataW H → Nat
  | (.string bytes, d) => bytes.length + uptoBulk d + 1
  | (_, d) => uptoBulk d + 1
 end
def uptoSmall : (H : Type) → List (DataW H) → Bool := fun _ ds => decide (uptoBulkAll ds ≤ 1048576)
def OpenSpec.upto (s : _root_.Go.ChangeSpec) : _root_.Go.OpenSpec := { _root_.Go.OpenSpec.ofChange s with cond := some uptoSmall }

/-- 'isthmuslaw08.MerkleRoots', WHERE WHAT IT READS IS OF BULK AT MOST 1048576: true; the input reads as it did. -/
def merkleRootsUptoRow : OpenClaim := { program := "ytpnfdfnbnoplgaadoor", sum := "2826049b7a15cbb1c48d47af7b664ab6f66b13c8c3c74435ab4de3ae316c6db4", func := "isthmus/isthmuslaw08.MerkleRoots", spec := "merkleRoots", recurses := true, named := ["isthmus/sha.roundTable", "isthmus/isthmusref03.k"], apart := false, laid := [("isthmus/isthmusref03.k", laid_isthmus_isthmusref03_k), ("isthmus/sha.roundTable", laid_isthmus_sha_roundTable)], narrowed := true }
def MerkleRootsUptoSaid : Prop := merkleRootsUptoRow.holds Tryd.pinned (OpenSpec.upto merkleRootsSpec)

/-- 'isthmuslaw08.MerkleProves', WHERE WHAT IT READS IS OF BULK AT MOST 1048576: true; the input reads as it did. -/
def merkleProvesUptoRow : OpenClaim := { program := "ytpnfdfnbnoplgaadoor", sum := "2826049b7a15cbb1c48d47af7b664ab6f66b13c8c3c74435ab4de3ae316c6db4", func := "isthmus/isthmuslaw08.MerkleProves", spec := "merkleProves", recurses := true, named := ["isthmus/sha.roundTable", "isthmus/isthmusref03.k"], apart := false, laid := [("isthmus/isthmusref03.k", laid_isthmus_isthmusref03_k), ("isthmus/sha.roundTable", laid_isthmus_sha_roundTable)], narrowed := true }
def MerkleProvesUptoSaid : Prop := merkleProvesUptoRow.holds Tryd.pinned (OpenSpec.upto merkleProvesSpec)

/-- 'isthmuslaw08.MerkleTakes', WHERE WHAT IT READS IS OF BULK AT MOST 1048576: true; the input reads as it did. -/
def merkleTakesUptoRow : OpenClaim := { program := "ytpnfdfnbnoplgaadoor", sum := "2826049b7a15cbb1c48d47af7b664ab6f66b13c8c3c74435ab4de3ae316c6db4", func := "isthmus/isthmuslaw08.MerkleTakes", spec := "merkleTakes", recurses := true, named := ["isthmus/sha.roundTable", "isthmus/isthmusref03.k"], apart := false, laid := [("isthmus/isthmusref03.k", laid_isthmus_isthmusref03_k), ("isthmus/sha.roundTable", laid_isthmus_sha_roundTable)], narrowed := true }
def MerkleTakesUptoSaid : Prop := merkleTakesUptoRow.holds Tryd.pinned (OpenSpec.upto merkleTakesSpec)

/-- 'isthmuslaw08.MerkleHolds', WHERE WHAT IT READS IS OF BULK AT MOST 1048576: true; the input reads as it did. -/
def merkleHoldsUptoRow : OpenClaim := { program := "ytpnfdfnbnoplgaadoor", sum := "2826049b7a15cbb1c48d47af7b664ab6f66b13c8c3c74435ab4de3ae316c6db4", func := "isthmus/isthmuslaw08.MerkleHolds", spec := "merkleHolds", named := ["isthmus/sha.roundTable"], apart := false, laid := [("isthmus/sha.roundTable", laid_isthmus_sha_roundTable)], narrowed := true }
def MerkleHoldsUptoSaid : Prop := merkleHoldsUptoRow.holds Tryd.pinned (OpenSpec.upto merkleHoldsSpec)

/-- 'isthmuslaw08.MerkleAbsent', WHERE WHAT IT READS IS OF BULK AT MOST 1048576: true; the input reads as it did. -/
def merkleAbsentUptoRow : OpenClaim := { program := "ytpnfdfnbnoplgaadoor", sum := "2826049b7a15cbb1c48d47af7b664ab6f66b13c8c3c74435ab4de3ae316c6db4", func := "isthmus/isthmuslaw08.MerkleAbsent", spec := "merkleAbsent", recurses := true, named := ["isthmus/sha.roundTable", "isthmus/isthmusref03.k"], apart := false, laid := [("isthmus/isthmusref03.k", laid_isthmus_isthmusref03_k), ("isthmus/sha.roundTable", laid_isthmus_sha_roundTable)], narrowed := true }
def MerkleAbsentUptoSaid : Prop := merkleAbsentUptoRow.holds Tryd.pinned (OpenSpec.upto merkleAbsentSpec)

/-- 'isthmuslaw08.MerkleSpots', WHERE WHAT IT READS IS OF BULK AT MOST 1048576: true; the input reads as it did. -/
def merkleSpotsUptoRow : OpenClaim := { program := "ytpnfdfnbnoplgaadoor", sum := "2826049b7a15cbb1c48d47af7b664ab6f66b13c8c3c74435ab4de3ae316c6db4", func := "isthmus/isthmuslaw08.MerkleSpots", spec := "merkleSpots", named := ["isthmus/sha.roundTable"], apart := false, laid := [("isthmus/sha.roundTable", laid_isthmus_sha_roundTable)], narrowed := true }
def MerkleSpotsUptoSaid : Prop := merkleSpotsUptoRow.holds Tryd.pinned (OpenSpec.upto merkleSpotsSpec)

end Rows
end Go.Proofs.YtpnfdfnbnoplgaaDoor
