
/- The walks of connections and channels, the document's being read. -/
import Derived.Test.YtlkbjhhbpmmamaaCliM
import Derived.Test.YtlkbjhhbpmmamaaRStoG
import Derived.Test.YtlkbjhhbpmmamaaWireDoc0
import Derived.Test.YtlkbjhhbpmmamaaNameG0
namespace Go.Proofs.Ytlkbjhhbpmmamaa
set_option maxRecDepth 100000
open Go Go.RowKit
set_option linter.unusedVariables false

/-- a document's store that can be read -/
structure RGet (w : World) (b : Nat) (R : List Pr) : Prop where
  get : ∀ Z, Below w.heap.size w Z → ∀ key : ByteArray, key.size ≤ maxLen → Calls Try.prog 24 #[.pointer (some ⟨b, 0, none⟩), .string key] Z fun e w' => ∃ v, e = .returned (.tuple #[v, .bool (getL R key).isSome]) ∧ Own w' Z.heap.size v ((getL R key).getD []) ∧ Below Z.heap.size Z w'
  short : ∀ key v, getL R key = some v → v.length ≤ 2000000
theorem RdP.keptX {w w' : World} {v : Value} {ps : List Pr} (h : RdP w w.heap.size v ps) (hk : Kept w w') : RdP w' w'.heap.size v ps := by
  have hsz : w.heap.size ≤ w'.heap.size := by obtain ⟨F, h1, _⟩ := hk; exact h1.size
  obtain ⟨A, c, hv, h1, h2, hp⟩ := h
  refine ⟨A, c, hv, h1, h2, fun h0 => ?_⟩
  obtain ⟨b, o, hA, hb, hcell⟩ := hp h0
  refine ⟨b, o, hA, by omega, fun j hj => ?_⟩
  obtain ⟨q1, x, q2, q3⟩ := hcell j hj
  exact ⟨hk.cell q1, x, hk.cell q2, hk.rd q3⟩
theorem DocS.upX {w w' : World} {b : Nat} {R : List Pr} (h : DocS w b R) (hb : Below w.heap.size w w') : DocS w' b R := by
  obtain ⟨v, h1, h2⟩ := h
  exact ⟨v, (hb.block _ (blk_lt h1)).trans h1, h2.keptX (Kept.of_belowX hb)⟩
theorem RGet.of {w : World} {b : Nat} {R : List Pr} (h : DocS w b R) (hn : R.length ≤ 100000000) (hv : ∀ p ∈ R, p.2.length ≤ 2000000) : RGet w b R where
  get := fun Z hz key _ => rget_any (h.upX hz) hn hv key
  short := fun key v e => hv _ (getL_mem e)
theorem RGet.up {w w' : World} {b : Nat} {R : List Pr} (h : RGet w b R) (hb : Below w.heap.size w w') : RGet w' b R where
  get := fun Z hz key hk => h.get Z (below_chain hb hb.size hz) key hk
  short := h.short
end Go.Proofs.Ytlkbjhhbpmmamaa
