
/- Rows of orders, handed in. -/
import Derived.Test.YtmphegeiclgjbaaGreatDoorStoM0
import Derived.Test.YtmphegeiclgjbaaGreatDoorLimbA0
namespace Go.Proofs.YtmphegeiclgjbaaGreatDoor
set_option maxRecDepth 100000
open Go Go.RowKit
set_option linter.unusedVariables false

structure OrdV where
  t : ByteArray
  d : ByteArray
  x : U4
def OrdV.cells (o : OrdV) : Array Value := #[.string o.t, .string o.d, .int .u64 (o.x.a : Int), .int .u64 (o.x.b : Int), .int .u64 (o.x.c : Int), .int .u64 (o.x.d : Int)]
def OrdsAt (W : World) (v : Value) (l : List OrdV) : Prop := ∃ A c, v = .slice A l.length c ∧ (0 < l.length → ∃ b o, A = some ⟨b, o, none⟩ ∧ b < W.heap.size ∧
  ∀ (j : Nat) (h : j < l.length) (i : Nat) (u : Value), i < 6 → l[j].cells[i]? = some u → W.cell? ⟨b, o + j * 6 + i, none⟩ = some u)
theorem OrdsAt.keptX {W W' : World} {v : Value} {l : List OrdV} (h : OrdsAt W v l) (hk : Kept W W') : OrdsAt W' v l := by
  obtain ⟨A, c, rfl, hc⟩ := h
  refine ⟨A, c, rfl, fun h0 => ?_⟩
  obtain ⟨b, o, rfl, hb1, hcell⟩ := hc h0
  have hs : W.heap.size ≤ W'.heap.size := by obtain ⟨F, h1, _⟩ := hk; exact h1.size
  exact ⟨b, o, rfl, Nat.lt_of_lt_of_le hb1 hs, fun j hj i u hi hu => hk.cell (hcell j hj i u hi hu)⟩
end Go.Proofs.YtmphegeiclgjbaaGreatDoor
