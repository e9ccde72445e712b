/-
  No cell of these rows narrows 'for every input' (looked for: loops, veiled, ifaces, maps, wideKeys, modest, calm, conditions, laid).
  DERIVED. THE GIVEN ROWS OF THIS SEAT. 2 by the template 'for every input the law returns true; each argument reads behind the call as it read before'; 0 by the template 'total and deterministic' (their statements: YtgiciaeaibonbaaGreatTotals.lean).
  GIVEN WITH THE SEED: the statements are not yours to turn. If you find one false, say at which input.
  Laid BY PROGRAM, IN A SANDBOX (cutbox-rows.mjs): the forced cells as the released guide's own fill.sh prints them over the translation d56d327f3bf3e1d1… (all of the seat's roots in one cut). By AI agents, Wed Nov 11 2026. No macro, syntax, notation, axiom, sorry.
-/
import Derived.Test.YtgiciaeaibonbaaGreatChecked
import GoSem.Claim
import GoSem.ClaimJoined
import GoSem.ClaimMapViews
import Derived.JoinedTies
import Derived.KernelRfl
namespace Go.Proofs.YtgiciaeaibonbaaGreat
/- THE CELL 'sum', in the pinned program and in every row, IS THE sha256 OF THE DUMP (.gsa) THAT YtgiciaeaibonbaaGreatProg.lean LOADS. Nothing in Lean hashes anything: it is a label: what it is worth is what the hold of that sum in a sandbox is worth. -/
noncomputable def Tryz.pinned : Pinned := { name := "ytgiciaeaibonbaagreat", sum := "d56d327f3bf3e1d1b10ee6e3277f70e6a2913f82b5d9bd65c8134e20ab573b1b", checked := Tryz.checked }
namespace Rows
def none {H : Type} : Left H := { results := [], args := [] }

/-- 'isthmuslaw10.BankScripts': WHATEVER THE INPUT: true; the input reads as it did. -/
def bankScriptsSpec : ChangeSpec := { name := "bankScripts", fn := fun _ => fun
  | [d1, d2] => { results := [.lit (.bool true)], args := [d1, d2] }
  | _ => none }
def bankScriptsRow : OpenClaim := { program := "ytgiciaeaibonbaagreat", sum := "d56d327f3bf3e1d1b10ee6e3277f70e6a2913f82b5d9bd65c8134e20ab573b1b", func := "isthmus/isthmuslaw10.BankScripts", spec := "bankScripts", inPlace := ["internal/bytealg.IndexByteString", "internal/bytealg.IndexString", "math/bits.Add64", "math/bits.Sub64", "internal/bytealg.abigen_runtime_cmpstring"], unfollowed := true, recurses := true, named := ["internal/bytealg.MaxLen"], apart := false }
def BankScriptsSaid : Prop := bankScriptsRow.holds Tryz.pinned (OpenSpec.ofChange bankScriptsSpec)

/-- ITS FALSE NEIGHBOUR: 'it returns false'. Refute it at one input. -/
def bankScriptsWrong : ChangeSpec := { name := "bankScripts", fn := fun _ => fun
  | [d1, d2] => { results := [.lit (.bool false)], args := [d1, d2] }
  | _ => none }
def BankScriptsWrongFalsely : Prop := bankScriptsRow.holds Tryz.pinned (OpenSpec.ofChange bankScriptsWrong)

/-- 'isthmuslaw10.BankUndo': WHATEVER THE INPUT: true; the input reads as it did. -/
def bankUndoSpec : ChangeSpec := { name := "bankUndo", fn := fun _ => fun
  | [d1, d2] => { results := [.lit (.bool true)], args := [d1, d2] }
  | _ => none }
def bankUndoRow : OpenClaim := { program := "ytgiciaeaibonbaagreat", sum := "d56d327f3bf3e1d1b10ee6e3277f70e6a2913f82b5d9bd65c8134e20ab573b1b", func := "isthmus/isthmuslaw10.BankUndo", spec := "bankUndo", inPlace := ["internal/bytealg.IndexByteString", "internal/bytealg.IndexString", "math/bits.Add64", "math/bits.Sub64", "internal/bytealg.abigen_runtime_cmpstring"], unfollowed := true, recurses := true, named := ["internal/bytealg.MaxLen"], apart := false }
def BankUndoSaid : Prop := bankUndoRow.holds Tryz.pinned (OpenSpec.ofChange bankUndoSpec)

/-- ITS FALSE NEIGHBOUR: 'it returns false'. Refute it at one input. -/
def bankUndoWrong : ChangeSpec := { name := "bankUndo", fn := fun _ => fun
  | [d1, d2] => { results := [.lit (.bool false)], args := [d1, d2] }
  | _ => none }
def BankUndoWrongFalsely : Prop := bankUndoRow.holds Tryz.pinned (OpenSpec.ofChange bankUndoWrong)

/- THE SECOND FORM. 'bulk': how many values and letters a reading holds, each counted each time it is reached (what is shared counts as often as it is met; a slice's spare places count too). A statement '..UptoSaid' is the law's where the arguments, and the package variables that the reading takes, are together of bulk at most 1048576: NARROWER than '..Said'. Prove '..Said' where nothing that the law and all that it calls make is longer than what came in: it says more and counts as full. Else prove '..UptoSaid'. A law counts once. -/
mutual
def uptoBulk {H : Type} : DataW H → Nat
  | .lit (.string bytes) => bytes.length + 1
  | .lit _ => 1
  | .nil => 1
  | .ptr d => uptoBulk d + 1
  | .slice elems spare => uptoBulkAll elems + uptoBulkAll spare + 1
  | .agg parts => uptoBulkAll parts + 1
  | .iface _ d => uptoBulk d + 1
  | .map entries => uptoBulkEntries entries + 1
  | .held _ => 1
def uptoBulkAll {H : Type} : List (DataW H) → Nat
  | [] => 0
  | d :: r => uptoBulk d + uptoBulkAll r
def uptoBulkEntries {H : Type} : List (Lit × DataW H) → Nat
  | [] => 0
  | x :: r => uptoBulkEntry x + uptoBulkEntries r
def uptoBulkEntry {H : Type} : Lit × DataW H → Nat
  | (.string bytes, d) => bytes.length + uptoBulk d + 1
  | (_, d) => uptoBulk d + 1
 end
def uptoSmall : (H : Type) → List (DataW H) → Bool := fun _ ds => decide (uptoBulkAll ds ≤ 1048576)
def OpenSpec.upto (s : _root_.Go.ChangeSpec) : _root_.Go.OpenSpec := { _root_.Go.OpenSpec.ofChange s with cond := some uptoSmall }

/-- 'isthmuslaw10.BankScripts', WHERE WHAT IT READS IS OF BULK AT MOST 1048576: true; the input reads as it did. -/
def bankScriptsUptoRow : OpenClaim := { program := "ytgiciaeaibonbaagreat", sum := "d56d327f3bf3e1d1b10ee6e3277f70e6a2913f82b5d9bd65c8134e20ab573b1b", func := "isthmus/isthmuslaw10.BankScripts", spec := "bankScripts", inPlace := ["internal/bytealg.IndexByteString", "internal/bytealg.IndexString", "math/bits.Add64", "math/bits.Sub64", "internal/bytealg.abigen_runtime_cmpstring"], unfollowed := true, recurses := true, named := ["internal/bytealg.MaxLen"], apart := false, narrowed := true }
def BankScriptsUptoSaid : Prop := bankScriptsUptoRow.holds Tryz.pinned (OpenSpec.upto bankScriptsSpec)

/-- 'isthmuslaw10.BankUndo', WHERE WHAT IT READS IS OF BULK AT MOST 1048576: true; the input reads as it did. -/
def bankUndoUptoRow : OpenClaim := { program := "ytgiciaeaibonbaagreat", sum := "d56d327f3bf3e1d1b10ee6e3277f70e6a2913f82b5d9bd65c8134e20ab573b1b", func := "isthmus/isthmuslaw10.BankUndo", spec := "bankUndo", inPlace := ["internal/bytealg.IndexByteString", "internal/bytealg.IndexString", "math/bits.Add64", "math/bits.Sub64", "internal/bytealg.abigen_runtime_cmpstring"], unfollowed := true, recurses := true, named := ["internal/bytealg.MaxLen"], apart := false, narrowed := true }
def BankUndoUptoSaid : Prop := bankUndoUptoRow.holds Tryz.pinned (OpenSpec.upto bankUndoSpec)

end Rows
end Go.Proofs.YtgiciaeaibonbaaGreat
