
/- An argument that is a row of bytes, opened. -/
import Derived.Test.YtnapmdfdbkpjpaaGreatDoorOpen
namespace Go.Proofs.YtnapmdfdbkpjpaaGreatDoor
set_option maxRecDepth 100000
open Go.ChangeShapes Go.WideShapes Go.ChangeAt Go.RowKit Go.Deep

set_option maxRecDepth 100000 in
theorem open_bytes_arg {H : Type} {enc : TypeId × Value → H} {W : World} {v : Value} {d : DataW H} {p : List MemPlace} {base : Nat} (hv : Value.okWide Tryz.prog W .any base 23 v)
    (h : DataW.Trod enc Tryz.prog W 0 (fun _ => true) true 23 v d p) : ∃ l : List UInt8, Rd W W.heap.size v l ∧ l.length ≤ Rows.uptoBulk d := by
  obtain ⟨fuel, hf⟩ := h
  obtain ⟨b0, c0, k0, rfl⟩ := okWide_slice Tryz.underlying23 hv
  exact open_bytes (x := (d, p)) Tryz.underlying23 Tryz.underlying5 (by kernel_rfl) hf

theorem str_bulk {H : Type} {d : DataW H} {a : ByteArray} (e : d = .lit (.string a.data.toList)) : a.size ≤ Rows.uptoBulk d := by
  have ea : a.data.toList.length = a.size := by rw [Array.length_toList]; rfl
  rw [e]
  simp only [Rows.uptoBulk, ea]
  omega
end Go.Proofs.YtnapmdfdbkpjpaaGreatDoor
