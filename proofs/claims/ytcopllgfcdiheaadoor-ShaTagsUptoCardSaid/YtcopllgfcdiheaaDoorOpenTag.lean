/- An argument that is a word and three rows of bytes, opened. -/
import Derived.Test.YtcopllgfcdiheaaDoorOpenB
import Derived.Lib.SmallJoins
namespace Go.Proofs.YtcopllgfcdiheaaDoor
open Go.ChangeShapes Go.WideShapes Go.ChangeAt Go.RowKit Go.Deep

theorem open_tag {H : Type} {enc : TypeId × Value → H} {W : World} {v : Value} {d : DataW H} {p : List MemPlace} {base : Nat} (hv : Value.okWide Tryd.prog W .any base 28 v)
    (h : DataW.Trod enc Tryd.prog W 0 (fun _ => true) true 28 v d p) :
    ∃ (s : ByteArray) (va vb vc : Value) (a b c : List UInt8), v = .agg #[.string s, va, vb, vc] ∧ s.size ≤ maxLen ∧ Rd W W.heap.size va a ∧ Rd W W.heap.size vb b ∧ Rd W W.heap.size vc c := by
  obtain ⟨v0, v1, v2, v3, y0, y1, y2, y3, n, rfl, _, _, t0, t1, t2, t3⟩ := Go.Joins.open_agg4 Tryd.underlying28 (by kernel_rfl) (by kernel_rfl) hv h
  obtain ⟨s, e0, _, hs⟩ := DataW.trod_string Tryd.underlying9 t0
  obtain ⟨a, ha, _⟩ := open_bytes Tryd.underlying22 Tryd.underlying5 (by kernel_rfl) t1
  obtain ⟨b, hb, _⟩ := open_bytes Tryd.underlying22 Tryd.underlying5 (by kernel_rfl) t2
  obtain ⟨c, hc, _⟩ := open_bytes Tryd.underlying22 Tryd.underlying5 (by kernel_rfl) t3
  simp at e0
  subst e0
  exact ⟨s, v1, v2, v3, a, b, c, rfl, hs, ha, hb, hc⟩
end Go.Proofs.YtcopllgfcdiheaaDoor
