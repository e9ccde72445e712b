/-
  No cell of these rows narrows 'for every input' (looked for: loops, veiled, ifaces, maps, wideKeys, modest, calm, conditions, laid).
  DERIVED. THE GIVEN ROWS OF THIS SEAT. 5 by the template 'for every input the law returns true; each argument reads behind the call as it read before'; 0 by the template 'total and deterministic' (their statements: YtpcoonnfaoakhaaTotals.lean).
  GIVEN WITH THE SEED: the statements are not yours to turn. If you find one false, say at which input.
  Laid BY PROGRAM, IN A SANDBOX (cutbox-rows.mjs): the forced cells as the released guide's own fill.sh prints them over the translation cc58c9f29279243b… (all of the seat's roots in one cut). By AI agents, Wed Nov 11 2026. No macro, syntax, notation, axiom, sorry.
-/
import Derived.Test.YtpcoonnfaoakhaaChecked
import GoSem.Claim
import GoSem.ClaimJoined
import GoSem.ClaimMapViews
import Derived.JoinedTies
import Derived.KernelRfl
namespace Go.Proofs.Ytpcoonnfaoakhaa
/- THE CELL 'sum', in the pinned program and in every row, IS THE sha256 OF THE DUMP (.gsa) THAT YtpcoonnfaoakhaaProg.lean LOADS. Nothing in Lean hashes anything: it is a label: what it is worth is what the hold of that sum in a sandbox is worth. -/
noncomputable def Try.pinned : Pinned := { name := "ytpcoonnfaoakhaa", sum := "cc58c9f29279243bff982bc802ec5d32a3e93fac8daf7e814ace5e0a7c733d6c", checked := Try.checked }
namespace Rows
def none {H : Type} : Left H := { results := [], args := [] }

/-- 'isthmuslaw02.WireBack': WHATEVER THE INPUT: true; the input reads as it did. -/
def wireBackSpec : ChangeSpec := { name := "wireBack", fn := fun _ => fun
  | [d] => { results := [.lit (.bool true)], args := [d] }
  | _ => none }
def wireBackRow : OpenClaim := { program := "ytpcoonnfaoakhaa", sum := "cc58c9f29279243bff982bc802ec5d32a3e93fac8daf7e814ace5e0a7c733d6c", func := "isthmus/isthmuslaw02.WireBack", spec := "wireBack", apart := false }
def WireBackSaid : Prop := wireBackRow.holds Try.pinned (OpenSpec.ofChange wireBackSpec)

/-- ITS FALSE NEIGHBOUR: 'it returns false'. Refute it at one input. -/
def wireBackWrong : ChangeSpec := { name := "wireBack", fn := fun _ => fun
  | [d] => { results := [.lit (.bool false)], args := [d] }
  | _ => none }
def WireBackWrongFalsely : Prop := wireBackRow.holds Try.pinned (OpenSpec.ofChange wireBackWrong)

/-- 'isthmuslaw02.WireForms': WHATEVER THE INPUT: true; the input reads as it did. -/
def wireFormsSpec : ChangeSpec := { name := "wireForms", fn := fun _ => fun
  | [d1, d2] => { results := [.lit (.bool true)], args := [d1, d2] }
  | _ => none }
def wireFormsRow : OpenClaim := { program := "ytpcoonnfaoakhaa", sum := "cc58c9f29279243bff982bc802ec5d32a3e93fac8daf7e814ace5e0a7c733d6c", func := "isthmus/isthmuslaw02.WireForms", spec := "wireForms", apart := false }
def WireFormsSaid : Prop := wireFormsRow.holds Try.pinned (OpenSpec.ofChange wireFormsSpec)

/-- ITS FALSE NEIGHBOUR: 'it returns false'. Refute it at one input. -/
def wireFormsWrong : ChangeSpec := { name := "wireForms", fn := fun _ => fun
  | [d1, d2] => { results := [.lit (.bool false)], args := [d1, d2] }
  | _ => none }
def WireFormsWrongFalsely : Prop := wireFormsRow.holds Try.pinned (OpenSpec.ofChange wireFormsWrong)

/-- 'isthmuslaw11.TxFits': WHATEVER THE INPUT: true; the input reads as it did. -/
def txFitsSpec : ChangeSpec := { name := "txFits", fn := fun _ => fun
  | [d] => { results := [.lit (.bool true)], args := [d] }
  | _ => none }
def txFitsRow : OpenClaim := { program := "ytpcoonnfaoakhaa", sum := "cc58c9f29279243bff982bc802ec5d32a3e93fac8daf7e814ace5e0a7c733d6c", func := "isthmus/isthmuslaw11.TxFits", spec := "txFits", apart := false }
def TxFitsSaid : Prop := txFitsRow.holds Try.pinned (OpenSpec.ofChange txFitsSpec)

/-- ITS FALSE NEIGHBOUR: 'it returns false'. Refute it at one input. -/
def txFitsWrong : ChangeSpec := { name := "txFits", fn := fun _ => fun
  | [d] => { results := [.lit (.bool false)], args := [d] }
  | _ => none }
def TxFitsWrongFalsely : Prop := txFitsRow.holds Try.pinned (OpenSpec.ofChange txFitsWrong)

/-- 'isthmuslaw11.TxChains': WHATEVER THE INPUT: true; the input reads as it did. -/
def txChainsSpec : ChangeSpec := { name := "txChains", fn := fun _ => fun
  | [d1, d2, d3] => { results := [.lit (.bool true)], args := [d1, d2, d3] }
  | _ => none }
def txChainsRow : OpenClaim := { program := "ytpcoonnfaoakhaa", sum := "cc58c9f29279243bff982bc802ec5d32a3e93fac8daf7e814ace5e0a7c733d6c", func := "isthmus/isthmuslaw11.TxChains", spec := "txChains", apart := false }
def TxChainsSaid : Prop := txChainsRow.holds Try.pinned (OpenSpec.ofChange txChainsSpec)

/-- ITS FALSE NEIGHBOUR: 'it returns false'. Refute it at one input. -/
def txChainsWrong : ChangeSpec := { name := "txChains", fn := fun _ => fun
  | [d1, d2, d3] => { results := [.lit (.bool false)], args := [d1, d2, d3] }
  | _ => none }
def TxChainsWrongFalsely : Prop := txChainsRow.holds Try.pinned (OpenSpec.ofChange txChainsWrong)

/-- 'isthmuslaw11.TxBack': WHATEVER THE INPUT: true; the input reads as it did. -/
def txBackSpec : ChangeSpec := { name := "txBack", fn := fun _ => fun
  | [d1, d2, d3] => { results := [.lit (.bool true)], args := [d1, d2, d3] }
  | _ => none }
def txBackRow : OpenClaim := { program := "ytpcoonnfaoakhaa", sum := "cc58c9f29279243bff982bc802ec5d32a3e93fac8daf7e814ace5e0a7c733d6c", func := "isthmus/isthmuslaw11.TxBack", spec := "txBack", apart := false }
def TxBackSaid : Prop := txBackRow.holds Try.pinned (OpenSpec.ofChange txBackSpec)

/-- ITS FALSE NEIGHBOUR: 'it returns false'. Refute it at one input. -/
def txBackWrong : ChangeSpec := { name := "txBack", fn := fun _ => fun
  | [d1, d2, d3] => { results := [.lit (.bool false)], args := [d1, d2, d3] }
  | _ => none }
def TxBackWrongFalsely : Prop := txBackRow.holds Try.pinned (OpenSpec.ofChange txBackWrong)

/- THE SECOND FORM. 'bulk': how many values and letters a reading holds, each counted each time it is reached (what is shared counts as often as it is met; a slice's spare places count too). A statement '..UptoSaid' is the law's where the arguments, and the package variables that the reading takes, are together of bulk at most 1048576: NARROWER than '..Said'. Prove '..Said' where nothing that the law and all that it calls make is longer than what came in: it says more and counts as full. Else prove '..UptoSaid'. A law counts once. -/
mutual
def uptoBulk {H : Type} : DataW H → Nat
  | .lit (.string bytes) => bytes.length + 1
  | .lit _ => 1
  | .nil => 1
  | .ptr d => uptoBulk d + 1
  | .slice elems spare => uptoBulkAll elems + uptoBulkAll spare + 1
  | .agg parts => uptoBulkAll parts + 1
  | .iface _ d => uptoBulk d + 1
  | .map entries => uptoBulkEntries entries + 1
  | .held _ => 1
def uptoBulkAll {H : Type} : List (DataW H) → Nat
  | [] => 0
  | d :: r => uptoBulk d + uptoBulkAll r
def uptoBulkEntries {H : Type} : List (Lit × DataW H) → Nat
  | [] => 0
  | x :: r => uptoBulkEntry x + uptoBulkEntries r
def uptoBulkEntry {H : Type} : Lit × DataW H → Nat
  | (.string bytes, d) => bytes.length + uptoBulk d + 1
  | (_, d) => uptoBulk d + 1
 end
def uptoSmall : (H : Type) → List (DataW H) → Bool := fun _ ds => decide (uptoBulkAll ds ≤ 1048576)
def OpenSpec.upto (s : _root_.Go.ChangeSpec) : _root_.Go.OpenSpec := { _root_.Go.OpenSpec.ofChange s with cond := some uptoSmall }

/-- 'isthmuslaw02.WireBack', WHERE WHAT IT READS IS OF BULK AT MOST 1048576: true; the input reads as it did. -/
def wireBackUptoRow : OpenClaim := { program := "ytpcoonnfaoakhaa", sum := "cc58c9f29279243bff982bc802ec5d32a3e93fac8daf7e814ace5e0a7c733d6c", func := "isthmus/isthmuslaw02.WireBack", spec := "wireBack", apart := false, narrowed := true }
def WireBackUptoSaid : Prop := wireBackUptoRow.holds Try.pinned (OpenSpec.upto wireBackSpec)

/-- 'isthmuslaw02.WireForms', WHERE WHAT IT READS IS OF BULK AT MOST 1048576: true; the input reads as it did. -/
def wireFormsUptoRow : OpenClaim := { program := "ytpcoonnfaoakhaa", sum := "cc58c9f29279243bff982bc802ec5d32a3e93fac8daf7e814ace5e0a7c733d6c", func := "isthmus/isthmuslaw02.WireForms", spec := "wireForms", apart := false, narrowed := true }
def WireFormsUptoSaid : Prop := wireFormsUptoRow.holds Try.pinned (OpenSpec.upto wireFormsSpec)

/-- 'isthmuslaw11.TxFits', WHERE WHAT IT READS IS OF BULK AT MOST 1048576: true; the input reads as it did. -/
def txFitsUptoRow : OpenClaim := { program := "ytpcoonnfaoakhaa", sum := "cc58c9f29279243bff982bc802ec5d32a3e93fac8daf7e814ace5e0a7c733d6c", func := "isthmus/isthmuslaw11.TxFits", spec := "txFits", apart := false, narrowed := true }
def TxFitsUptoSaid : Prop := txFitsUptoRow.holds Try.pinned (OpenSpec.upto txFitsSpec)

/-- 'isthmuslaw11.TxChains', WHERE WHAT IT READS IS OF BULK AT MOST 1048576: true; the input reads as it did. -/
def txChainsUptoRow : OpenClaim := { program := "ytpcoonnfaoakhaa", sum := "cc58c9f29279243bff982bc802ec5d32a3e93fac8daf7e814ace5e0a7c733d6c", func := "isthmus/isthmuslaw11.TxChains", spec := "txChains", apart := false, narrowed := true }
def TxChainsUptoSaid : Prop := txChainsUptoRow.holds Try.pinned (OpenSpec.upto txChainsSpec)

/-- 'isthmuslaw11.TxBack', WHERE WHAT IT READS IS OF BULK AT MOST 1048576: true; the input reads as it did. -/
def txBackUptoRow : OpenClaim := { program := "ytpcoonnfaoakhaa", sum := "cc58c9f29279243bff982bc802ec5d32a3e93fac8daf7e814ace5e0a7c733d6c", func := "isthmus/isthmuslaw11.TxBack", spec := "txBack", apart := false, narrowed := true }
def TxBackUptoSaid : Prop := txBackUptoRow.holds Try.pinned (OpenSpec.upto txBackSpec)

end Rows
end Go.Proofs.Ytpcoonnfaoakhaa
