
/- The walk of package sha: the words that 64 bytes are spread to. -/
import Derived.Test.YtohnhdandkkonaaShaT
import Derived.Test.YtohnhdandkkonaaShaSpec
import Derived.Test.YtohnhdandkkonaaTac
namespace Go.Proofs.Ytohnhdandkkonaa
open Go.RowKit

theorem _root_.Go.results_cell_mid {P : Program} {fn : Func} {p : Tmp} {ty : TypeId} (h : fn.results = #[.cell p ty]) (tmps : Array Value) (w : World) (b o : Nat) (cs : List Value) (d : TypeDesc)
    (hp : tmps.getD p undef = .pointer (some ⟨b, o, none⟩)) (hc : w.rangeAt b o cs) (hu : P.underlying ty = some d) (hd : d.isRow = true) (hi : (P.info? ty).map (·.size) = some cs.length) :
    (results fn tmps).run P w = .ok (.agg cs.toArray) w := by
  have hp' : tmps[p]?.getD undef = .pointer (some ⟨b, o, none⟩) := by simpa using hp
  simp [results, h, hp', asAddr, run_loadVar_mid w b o ty cs d hc hu hd hi]
theorem _root_.Go.heap_setCells_out {k b : Nat} (hb : k ≠ b) : ∀ (cs : List Value) (o : Nat) (w : World), (w.setCells b o cs).heap[k]? = w.heap[k]?
  | [], _, _ => rfl
  | v :: r, o, w => by rw [World.setCells, heap_setCells_out hb r (o + 1), Below.heap_setCell w _ _ k hb]
theorem _root_.Go.Below.setCells {n b : Nat} {w : World} (hb : n ≤ b) : ∀ (cs : List Value) (o : Nat) {w' : World}, Below n w w' → Below n w (w'.setCells b o cs)
  | [], _, _, h => h
  | v :: r, o, _, h => Below.setCells hb r (o + 1) (h.setCell hb v)

end Go.Proofs.Ytohnhdandkkonaa
