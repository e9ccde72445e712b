/-
  No cell of these rows narrows 'for every input' (looked for: loops, veiled, ifaces, maps, wideKeys, modest, calm, conditions, laid).
  DERIVED. THE GIVEN ROWS OF THIS SEAT. 5 by the template 'for every input the law returns true; each argument reads behind the call as it read before'; 0 by the template 'total and deterministic' (their statements: YtbbpkenbeenocaaTotals.lean).
  GIVEN WITH THE SEED: the statements are not yours to turn. If you find one false, say at which input.
  Laid BY PROGRAM, IN A SANDBOX (cutbox-rows.mjs): the forced cells as the released guide's own fill.sh prints them over the translation 8de0da52c470d684… (all of the seat's roots in one cut). By AI agents, Wed Nov 11 2026. No macro, syntax, notation, axiom, sorry.
-/
import Derived.Test.YtbbpkenbeenocaaChecked
import GoSem.Claim
import GoSem.ClaimJoined
import GoSem.ClaimMapViews
import Derived.JoinedTies
import Derived.KernelRfl
namespace Go.Proofs.Ytbbpkenbeenocaa
/- THE CELL 'sum', in the pinned program and in every row, IS THE sha256 OF THE DUMP (.gsa) THAT YtbbpkenbeenocaaProg.lean LOADS. Nothing in Lean hashes anything: it is a label: what it is worth is what the hold of that sum in a sandbox is worth. -/
noncomputable def Try.pinned : Pinned := { name := "ytbbpkenbeenocaa", sum := "8de0da52c470d68407b67a3139c949a233acfd3e224670b763a8b5ffbaa52150", checked := Try.checked }
namespace Rows
def none {H : Type} : Left H := { results := [], args := [] }

/-- 'isthmuslaw07.NodeLives': WHATEVER THE INPUT: true; the input reads as it did. -/
def nodeLivesSpec : ChangeSpec := { name := "nodeLives", fn := fun _ => fun
  | [d1, d2] => { results := [.lit (.bool true)], args := [d1, d2] }
  | _ => none }
def nodeLivesRow : OpenClaim := { program := "ytbbpkenbeenocaa", sum := "8de0da52c470d68407b67a3139c949a233acfd3e224670b763a8b5ffbaa52150", func := "isthmus/isthmuslaw07.NodeLives", spec := "nodeLives", unfollowed := true, recurses := true, apart := false }
def NodeLivesSaid : Prop := nodeLivesRow.holds Try.pinned (OpenSpec.ofChange nodeLivesSpec)

/-- ITS FALSE NEIGHBOUR: 'it returns false'. Refute it at one input. -/
def nodeLivesWrong : ChangeSpec := { name := "nodeLives", fn := fun _ => fun
  | [d1, d2] => { results := [.lit (.bool false)], args := [d1, d2] }
  | _ => none }
def NodeLivesWrongFalsely : Prop := nodeLivesRow.holds Try.pinned (OpenSpec.ofChange nodeLivesWrong)

/-- 'isthmuslaw07.NodeKeeps': WHATEVER THE INPUT: true; the input reads as it did. -/
def nodeKeepsSpec : ChangeSpec := { name := "nodeKeeps", fn := fun _ => fun
  | [d] => { results := [.lit (.bool true)], args := [d] }
  | _ => none }
def nodeKeepsRow : OpenClaim := { program := "ytbbpkenbeenocaa", sum := "8de0da52c470d68407b67a3139c949a233acfd3e224670b763a8b5ffbaa52150", func := "isthmus/isthmuslaw07.NodeKeeps", spec := "nodeKeeps", unfollowed := true, recurses := true, apart := false }
def NodeKeepsSaid : Prop := nodeKeepsRow.holds Try.pinned (OpenSpec.ofChange nodeKeepsSpec)

/-- ITS FALSE NEIGHBOUR: 'it returns false'. Refute it at one input. -/
def nodeKeepsWrong : ChangeSpec := { name := "nodeKeeps", fn := fun _ => fun
  | [d] => { results := [.lit (.bool false)], args := [d] }
  | _ => none }
def NodeKeepsWrongFalsely : Prop := nodeKeepsRow.holds Try.pinned (OpenSpec.ofChange nodeKeepsWrong)

/-- 'isthmuslaw07.NodeMemory': WHATEVER THE INPUT: true; the input reads as it did. -/
def nodeMemorySpec : ChangeSpec := { name := "nodeMemory", fn := fun _ => fun
  | [d1, d2] => { results := [.lit (.bool true)], args := [d1, d2] }
  | _ => none }
def nodeMemoryRow : OpenClaim := { program := "ytbbpkenbeenocaa", sum := "8de0da52c470d68407b67a3139c949a233acfd3e224670b763a8b5ffbaa52150", func := "isthmus/isthmuslaw07.NodeMemory", spec := "nodeMemory", unfollowed := true, recurses := true, apart := false }
def NodeMemorySaid : Prop := nodeMemoryRow.holds Try.pinned (OpenSpec.ofChange nodeMemorySpec)

/-- ITS FALSE NEIGHBOUR: 'it returns false'. Refute it at one input. -/
def nodeMemoryWrong : ChangeSpec := { name := "nodeMemory", fn := fun _ => fun
  | [d1, d2] => { results := [.lit (.bool false)], args := [d1, d2] }
  | _ => none }
def NodeMemoryWrongFalsely : Prop := nodeMemoryRow.holds Try.pinned (OpenSpec.ofChange nodeMemoryWrong)

/-- 'isthmuslaw07.NodeOpens': WHATEVER THE INPUT: true; the input reads as it did. -/
def nodeOpensSpec : ChangeSpec := { name := "nodeOpens", fn := fun _ => fun
  | [d] => { results := [.lit (.bool true)], args := [d] }
  | _ => none }
def nodeOpensRow : OpenClaim := { program := "ytbbpkenbeenocaa", sum := "8de0da52c470d68407b67a3139c949a233acfd3e224670b763a8b5ffbaa52150", func := "isthmus/isthmuslaw07.NodeOpens", spec := "nodeOpens", unfollowed := true, recurses := true, apart := false }
def NodeOpensSaid : Prop := nodeOpensRow.holds Try.pinned (OpenSpec.ofChange nodeOpensSpec)

/-- ITS FALSE NEIGHBOUR: 'it returns false'. Refute it at one input. -/
def nodeOpensWrong : ChangeSpec := { name := "nodeOpens", fn := fun _ => fun
  | [d] => { results := [.lit (.bool false)], args := [d] }
  | _ => none }
def NodeOpensWrongFalsely : Prop := nodeOpensRow.holds Try.pinned (OpenSpec.ofChange nodeOpensWrong)

/-- 'isthmuslaw07.NodeBytes': WHATEVER THE INPUT: true; the input reads as it did. -/
def nodeBytesSpec : ChangeSpec := { name := "nodeBytes", fn := fun _ => fun
  | [d] => { results := [.lit (.bool true)], args := [d] }
  | _ => none }
def nodeBytesRow : OpenClaim := { program := "ytbbpkenbeenocaa", sum := "8de0da52c470d68407b67a3139c949a233acfd3e224670b763a8b5ffbaa52150", func := "isthmus/isthmuslaw07.NodeBytes", spec := "nodeBytes", unfollowed := true, recurses := true, apart := false }
def NodeBytesSaid : Prop := nodeBytesRow.holds Try.pinned (OpenSpec.ofChange nodeBytesSpec)

/-- ITS FALSE NEIGHBOUR: 'it returns false'. Refute it at one input. -/
def nodeBytesWrong : ChangeSpec := { name := "nodeBytes", fn := fun _ => fun
  | [d] => { results := [.lit (.bool false)], args := [d] }
  | _ => none }
def NodeBytesWrongFalsely : Prop := nodeBytesRow.holds Try.pinned (OpenSpec.ofChange nodeBytesWrong)

/- THE SECOND FORM. 'bulk': how many values and letters a reading holds, each counted each time it is reached (what is shared counts as often as it is met; a slice's spare places count too). A statement '..UptoSaid' is the law's where the arguments, and the package variables that the reading takes, are together of bulk at most 1048576: NARROWER than '..Said'. Prove '..Said' where nothing that the law and all that it calls make is longer than what came in: it says more and counts as full. Else prove '..UptoSaid'. A law counts once. -/
mutual
def uptoBulk {H : Type} : DataW H → Nat
  | .lit (.string bytes) => bytes.length + 1
  | .lit _ => 1
  | .nil => 1
  | .ptr d => uptoBulk d + 1
  | .slice elems spare => uptoBulkAll elems + uptoBulkAll spare + 1
  | .agg parts => uptoBulkAll parts + 1
  | .iface _ d => uptoBulk d + 1
  | .map entries => uptoBulkEntries entries + 1
  | .held _ => 1
def uptoBulkAll {H : Type} : List (DataW H) → Nat
  | [] => 0
  | d :: r => uptoBulk d + uptoBulkAll r
def uptoBulkEntries {H : Type} : List (Lit × DataW H) → Nat
  | [] => 0
  | x :: r => uptoBulkEntry x + uptoBulkEntries r
def uptoBulkEntry {H : Type} : Lit × DataW H → Nat
  | (.string bytes, d) => bytes.length + uptoBulk d + 1
  | (_, d) => uptoBulk d + 1
 end
def uptoSmall : (H : Type) → List (DataW H) → Bool := fun _ ds => decide (uptoBulkAll ds ≤ 1048576)
def OpenSpec.upto (s : _root_.Go.ChangeSpec) : _root_.Go.OpenSpec := { _root_.Go.OpenSpec.ofChange s with cond := some uptoSmall }

/-- 'isthmuslaw07.NodeLives', WHERE WHAT IT READS IS OF BULK AT MOST 1048576: true; the input reads as it did. -/
def nodeLivesUptoRow : OpenClaim := { program := "ytbbpkenbeenocaa", sum := "8de0da52c470d68407b67a3139c949a233acfd3e224670b763a8b5ffbaa52150", func := "isthmus/isthmuslaw07.NodeLives", spec := "nodeLives", unfollowed := true, recurses := true, apart := false, narrowed := true }
def NodeLivesUptoSaid : Prop := nodeLivesUptoRow.holds Try.pinned (OpenSpec.upto nodeLivesSpec)

/-- 'isthmuslaw07.NodeKeeps', WHERE WHAT IT READS IS OF BULK AT MOST 1048576: true; the input reads as it did. -/
def nodeKeepsUptoRow : OpenClaim := { program := "ytbbpkenbeenocaa", sum := "8de0da52c470d68407b67a3139c949a233acfd3e224670b763a8b5ffbaa52150", func := "isthmus/isthmuslaw07.NodeKeeps", spec := "nodeKeeps", unfollowed := true, recurses := true, apart := false, narrowed := true }
def NodeKeepsUptoSaid : Prop := nodeKeepsUptoRow.holds Try.pinned (OpenSpec.upto nodeKeepsSpec)

/-- 'isthmuslaw07.NodeMemory', WHERE WHAT IT READS IS OF BULK AT MOST 1048576: true; the input reads as it did. -/
def nodeMemoryUptoRow : OpenClaim := { program := "ytbbpkenbeenocaa", sum := "8de0da52c470d68407b67a3139c949a233acfd3e224670b763a8b5ffbaa52150", func := "isthmus/isthmuslaw07.NodeMemory", spec := "nodeMemory", unfollowed := true, recurses := true, apart := false, narrowed := true }
def NodeMemoryUptoSaid : Prop := nodeMemoryUptoRow.holds Try.pinned (OpenSpec.upto nodeMemorySpec)

/-- 'isthmuslaw07.NodeOpens', WHERE WHAT IT READS IS OF BULK AT MOST 1048576: true; the input reads as it did. -/
def nodeOpensUptoRow : OpenClaim := { program := "ytbbpkenbeenocaa", sum := "8de0da52c470d68407b67a3139c949a233acfd3e224670b763a8b5ffbaa52150", func := "isthmus/isthmuslaw07.NodeOpens", spec := "nodeOpens", unfollowed := true, recurses := true, apart := false, narrowed := true }
def NodeOpensUptoSaid : Prop := nodeOpensUptoRow.holds Try.pinned (OpenSpec.upto nodeOpensSpec)

/-- 'isthmuslaw07.NodeBytes', WHERE WHAT IT READS IS OF BULK AT MOST 1048576: true; the input reads as it did. -/
def nodeBytesUptoRow : OpenClaim := { program := "ytbbpkenbeenocaa", sum := "8de0da52c470d68407b67a3139c949a233acfd3e224670b763a8b5ffbaa52150", func := "isthmus/isthmuslaw07.NodeBytes", spec := "nodeBytes", unfollowed := true, recurses := true, apart := false, narrowed := true }
def NodeBytesUptoSaid : Prop := nodeBytesUptoRow.holds Try.pinned (OpenSpec.upto nodeBytesSpec)

end Rows
end Go.Proofs.Ytbbpkenbeenocaa
