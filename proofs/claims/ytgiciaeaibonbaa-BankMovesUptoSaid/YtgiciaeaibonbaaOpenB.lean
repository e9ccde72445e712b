
/- An argument that is a row of bytes, opened. -/
import Derived.Test.YtgiciaeaibonbaaOpen
namespace Go.Proofs.Ytgiciaeaibonbaa
set_option maxRecDepth 100000
open Go.ChangeShapes Go.WideShapes Go.ChangeAt Go.RowKit Go.Deep

set_option maxRecDepth 100000 in
theorem open_bytes_arg {H : Type} {enc : TypeId × Value → H} {W : World} {v : Value} {d : DataW H} {p : List MemPlace} {base : Nat} (hv : Value.okWide Try.prog W .any base 50 v)
    (h : DataW.Trod enc Try.prog W 0 (fun _ => true) true 50 v d p) : ∃ l : List UInt8, Rd W W.heap.size v l ∧ l.length ≤ Rows.uptoBulk d := by
  obtain ⟨fuel, hf⟩ := h
  obtain ⟨b0, c0, k0, rfl⟩ := okWide_slice Try.underlying50 hv
  exact open_bytes (x := (d, p)) Try.underlying50 Try.underlying5 (by kernel_rfl) hf

end Go.Proofs.Ytgiciaeaibonbaa
