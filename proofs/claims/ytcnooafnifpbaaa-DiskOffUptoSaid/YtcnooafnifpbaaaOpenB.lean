/- An argument that is a row of bytes, opened. -/
import Derived.Test.YtcnooafnifpbaaaOpen
namespace Go.Proofs.Ytcnooafnifpbaaa
open Go.ChangeShapes Go.WideShapes Go.ChangeAt Go.RowKit Go.Deep

theorem open_bytes_arg {H : Type} {enc : TypeId × Value → H} {W : World} {v : Value} {d : DataW H} {p : List MemPlace} {base : Nat} (hv : Value.okWide Try.prog W .any base 32 v)
    (h : DataW.Trod enc Try.prog W 0 (fun _ => true) true 32 v d p) : ∃ l : List UInt8, Rd W W.heap.size v l ∧ l.length ≤ Rows.uptoBulk d := by
  obtain ⟨fuel, hf⟩ := h
  obtain ⟨b0, c0, k0, rfl⟩ := okWide_slice Try.underlying32 hv
  exact open_bytes (x := (d, p)) Try.underlying32 Try.underlying5 (by kernel_rfl) hf

end Go.Proofs.Ytcnooafnifpbaaa
