
/- The walk of the reference's hexadecimal text: two digits a byte. -/
import Derived.Test.YtcgkonpepmoliaaGreatDoorShaH
import Derived.Laws.Concat
namespace Go.Proofs.YtcgkonpepmoliaaGreatDoor
set_option maxRecDepth 100000
open Go.RowKit

theorem digit_cut (k : Nat) (h : k < 16) (w : World) : (Instr.slice 9 (.string ⟨#[48, 49, 50, 51, 52, 53, 54, 55, 56, 57, 97, 98, 99, 100, 101, 102]⟩) (some (.int .u8 (k : Int))) (some (.int .u8 ((k + 1 : Nat) : Int))) none).run Tryz.prog w = .ok (.string ⟨#[digits.getD k 0]⟩) w := by
  have : k = 0 ∨ k = 1 ∨ k = 2 ∨ k = 3 ∨ k = 4 ∨ k = 5 ∨ k = 6 ∨ k = 7 ∨ k = 8 ∨ k = 9 ∨ k = 10 ∨ k = 11 ∨ k = 12 ∨ k = 13 ∨ k = 14 ∨ k = 15 := by omega
  rcases this with rfl | rfl | rfl | rfl | rfl | rfl | rfl | rfl | rfl | rfl | rfl | rfl | rfl | rfl | rfl | rfl <;> rfl
theorem two_add (x y : UInt8) (w : World) : (Op.stringOp .add ⟨#[x]⟩ ⟨#[y]⟩).run Tryz.prog w = .ok (.string ⟨#[x, y]⟩) w :=
  run_string_add_sum (P := Tryz.prog) (w := w) ⟨#[x]⟩ ⟨#[y]⟩ (by show 2 ≤ 9223372036854775807; omega)
theorem list_add (l m : List UInt8) (h : l.length + m.length ≤ 9223372036854775807) (w : World) : (Op.stringOp .add ⟨l.toArray⟩ ⟨m.toArray⟩).run Tryz.prog w = .ok (.string ⟨(l ++ m).toArray⟩) w := by
  have := run_string_add_sum (P := Tryz.prog) (w := w) ⟨l.toArray⟩ ⟨m.toArray⟩ (by simpa [ByteArray.size] using h)
  rw [this]
  congr 2

end Go.Proofs.YtcgkonpepmoliaaGreatDoor
