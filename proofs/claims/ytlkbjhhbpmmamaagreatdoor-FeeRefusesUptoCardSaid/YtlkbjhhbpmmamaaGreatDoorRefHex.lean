
/- The walk of the reference's hexadecimal text: two digits a byte. -/
import Derived.Test.YtlkbjhhbpmmamaaGreatDoorShaH
import Derived.Laws.Concat
namespace Go.Proofs.YtlkbjhhbpmmamaaGreatDoor
set_option maxRecDepth 100000
open Go.RowKit

theorem digit_cut (k : Nat) (h : k < 16) (w : World) : (Instr.slice 9 (.string ⟨#[48, 49, 50, 51, 52, 53, 54, 55, 56, 57, 97, 98, 99, 100, 101, 102]⟩) (some (.int .u8 (k : Int))) (some (.int .u8 ((k + 1 : Nat) : Int))) none).run Tryz.prog w = .ok (.string ⟨#[digits.getD k 0]⟩) w := by
  have : k = 0 ∨ k = 1 ∨ k = 2 ∨ k = 3 ∨ k = 4 ∨ k = 5 ∨ k = 6 ∨ k = 7 ∨ k = 8 ∨ k = 9 ∨ k = 10 ∨ k = 11 ∨ k = 12 ∨ k = 13 ∨ k = 14 ∨ k = 15 := by omega
  rcases this with rfl | rfl | rfl | rfl | rfl | rfl | rfl | rfl | rfl | rfl | rfl | rfl | rfl | rfl | rfl | rfl <;> rfl
theorem two_add (x y : UInt8) (w : World) : (Op.stringOp .add ⟨#[x]⟩ ⟨#[y]⟩).run Tryz.prog w = .ok (.string ⟨#[x, y]⟩) w :=
  run_string_add_sum (P := Tryz.prog) (w := w) ⟨#[x]⟩ ⟨#[y]⟩ (by show 2 ≤ 9223372036854775807; omega)
theorem list_add (l m : List UInt8) (h : l.length + m.length ≤ 9223372036854775807) (w : World) : (Op.stringOp .add ⟨l.toArray⟩ ⟨m.toArray⟩).run Tryz.prog w = .ok (.string ⟨(l ++ m).toArray⟩) w := by
  have := run_string_add_sum (P := Tryz.prog) (w := w) ⟨l.toArray⟩ ⟨m.toArray⟩ (by simpa [ByteArray.size] using h)
  rw [this]
  congr 2

set_option maxHeartbeats 1000000 in
theorem refHex_any (v : Value) (l : List UInt8) (w : World) (hr : Rd w w.heap.size v l) (hl : l.length ≤ 70368744177664) :
    Calls Tryz.prog 107 #[v] w fun e w' => e = .returned (.string ⟨(hexOf l).toArray⟩) ∧ Below w.heap.size w w' := by
  obtain ⟨A, c, rfl, hc, hcm, hp⟩ := id hr
  go_enter Tryz.func107, Tryz.ntmps107
  have HP := Lib.hid hp
  clear hp
  go_wp2
  go_loopw [4, 9] (fun s i wr => ∃ t : Nat, t ≤ l.length ∧ i = .int .i64 (t : Int) ∧ s = .string ⟨(hexOf (l.take t)).toArray⟩ ∧ Below w.heap.size w wr)
    (fun _ i _ => l.length - (intOf i).toNat)
  case atStart => exact ⟨0, Nat.zero_le _, rfl, rfl, Below.refl _ _⟩
  case round =>
    obtain ⟨t, ht, rfl, rfl, hb⟩ := hrel
    by_cases hlt : t < l.length
    · obtain ⟨b, o, rfl, hbl, hcell⟩ := HP.out (by omega)
      have hol : (hexOf (l.take t)).length = 2 * t := by rw [hexOf_length, List.length_take]; omega
      have hnext := hexOf_succ l t hlt
      have e := (hb.cell (p := ⟨b, o + t, none⟩) hbl).trans (hcell t hlt)
      unfold bval at e
      obtain ⟨x, hx⟩ : ∃ x, x = l[t] := ⟨_, rfl⟩
      rw [← hx] at e hnext
      have hx16 : x.toNat / 16 < 16 := by have := x.toNat_lt; omega
      have hc2 := fun W => list_add (hexOf (l.take t)) [digits.getD (x.toNat / 16) 0, digits.getD (x.toNat % 16) 0] (by rw [hol]; simp; omega) W
      rw [← hnext] at hc2
      have hc1 := fun W => two_add (digits.getD (x.toNat / 16) 0) (digits.getD (x.toNat % 16) 0) W
      clear hnext hx hcell HP hol
      have d1 := fun W => digit_cut (x.toNat / 16) hx16 W
      have d2 := fun W => digit_cut (x.toNat % 16) (by omega) W
      have k1 : (x.toNat : Int) / 16 = ((x.toNat / 16 : Nat) : Int) := by omega
      have k2 := and15 x
      have k3 : (x.toNat : Int) / 2 ^ 4 = ((x.toNat / 16 : Nat) : Int) := by omega
      have hm16 : x.toNat % 16 < 16 := by omega
      generalize x.toNat / 16 = h1 at *
      generalize x.toNat % 16 = h2 at *
      have w1 : IntKind.u8.wrap ((h1 : Int) + 1) = ((h1 + 1 : Nat) : Int) := by simp only [IntKind.wrap, IntKind.bits, IntKind.signed]; simp; omega
      have w2 : IntKind.u8.wrap ((h2 : Int) + 1) = ((h2 + 1 : Nat) : Int) := by simp only [IntKind.wrap, IntKind.bits, IntKind.signed]; simp; omega
      generalize ((h1 + 1 : Nat) : Int) = q1 at *
      generalize ((h2 + 1 : Nat) : Int) = q2 at *
      generalize digits.getD h1 0 = g1 at *
      generalize digits.getD h2 0 = g2 at *
      generalize hexOf (l.take t) = s0 at *
      obtain ⟨s1, hs1⟩ : ∃ s1, s1 = hexOf (l.take (t + 1)) := ⟨_, rfl⟩
      rw [← hs1] at hc2
      have i1 : (0 : Int) ≤ (t : Int) := by omega
      have i2 : (t : Int) < (l.length : Int) := by omega
      go_wp2_with fail
      go_quiet (fail)
      go_wp2
      go_roundw
      case rel => exact ⟨t + 1, by omega, by go_num, by first | rfl | rw [hs1], below_drewN' hb _⟩
      case measure => simp [intOf]; omega
    · have hte : t = l.length := by omega
      have i2 : ¬ (t : Int) < (l.length : Int) := by omega
      rw [hte, List.take_of_length_le (Nat.le_refl _)]
      clear hte HP
      go_wp2
      go_ret
      exact ⟨rfl, hb⟩
end Go.Proofs.YtlkbjhhbpmmamaaGreatDoor
