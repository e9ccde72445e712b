
/- The walk of package sha: two digits a byte. The walk of the reference's hexadecimal text: two digits a byte. -/
import Derived.Test.YtmphegeiclgjbaaGreatDoorShaS0
import Derived.Test.YtmphegeiclgjbaaGreatDoorInfo1
import Derived.Test.YtmphegeiclgjbaaGreatDoorBase0
import Derived.StillTailTactics
import Derived.Deep.RegionHeldLaw
import Derived.Laws.Concat
namespace Go.Proofs.YtmphegeiclgjbaaGreatDoor
set_option maxRecDepth 100000
open Go.RowKit

def digits : List UInt8 := [48, 49, 50, 51, 52, 53, 54, 55, 56, 57, 97, 98, 99, 100, 101, 102]
def hex2 (x : UInt8) : List UInt8 := [digits.getD (x.toNat / 16) 0, digits.getD (x.toNat % 16) 0]
def hexOf (l : List UInt8) : List UInt8 := l.flatMap hex2

theorem hexOf_length (l : List UInt8) : (hexOf l).length = 2 * l.length := by
  induction l with
  | nil => rfl
  | cons x l ih => rw [hexOf, List.flatMap_cons, List.length_append, ← hexOf, ih, List.length_cons, show (hex2 x).length = 2 from rfl]; omega
theorem hexOf_succ (l : List UInt8) (t : Nat) (h : t < l.length) : hexOf (l.take (t + 1)) = hexOf (l.take t) ++ [digits.getD (l[t].toNat / 16) 0, digits.getD (l[t].toNat % 16) 0] := by
  unfold hexOf
  rw [List.take_add_one, List.flatMap_append, List.getElem?_eq_getElem h]
  simp [hex2]

theorem dig_at (k : Nat) (h : k < 16) (w : World) : (Instr.index 9 (.string ⟨#[48, 49, 50, 51, 52, 53, 54, 55, 56, 57, 97, 98, 99, 100, 101, 102]⟩) (.int .u8 (k : Int))).run Tryz.prog w = .ok (.int .u8 ((digits.getD k 0).toNat : Int)) w := by
  have : k = 0 ∨ k = 1 ∨ k = 2 ∨ k = 3 ∨ k = 4 ∨ k = 5 ∨ k = 6 ∨ k = 7 ∨ k = 8 ∨ k = 9 ∨ k = 10 ∨ k = 11 ∨ k = 12 ∨ k = 13 ∨ k = 14 ∨ k = 15 := by omega
  rcases this with rfl | rfl | rfl | rfl | rfl | rfl | rfl | rfl | rfl | rfl | rfl | rfl | rfl | rfl | rfl | rfl <;> rfl

theorem bits_and_u8_nat (a b : Nat) (ha : a < 256) (hb : b < 256) : bits .and .u8 (a : Int) (b : Int) = ((a &&& b : Nat) : Int) := by
  have hx : a &&& b < 2 ^ 8 := Nat.and_lt_two_pow a (by omega)
  have h1 : (BitVec.ofInt 8 (a : Int)).toNat = a := by
    rw [BitVec.ofInt_natCast, BitVec.toNat_ofNat]; exact Nat.mod_eq_of_lt (by omega)
  have h2 : (BitVec.ofInt 8 (b : Int)).toNat = b := by
    rw [BitVec.ofInt_natCast, BitVec.toNat_ofNat]; exact Nat.mod_eq_of_lt (by omega)
  show IntKind.u8.wrap ((BitVec.ofInt 8 (a : Int) &&& BitVec.ofInt 8 (b : Int)).toNat : Int) = _
  rw [BitVec.toNat_and, h1, h2]
  simp only [IntKind.wrap, IntKind.bits, IntKind.signed]
  simp
  omega
theorem and15 (x : UInt8) : bits .and .u8 (x.toNat : Int) 15 = ((x.toNat % 16 : Nat) : Int) := by
  have hx := x.toNat_lt
  have h : bits .and .u8 (x.toNat : Int) ((15 : Nat) : Int) = ((x.toNat &&& 15 : Nat) : Int) := bits_and_u8_nat x.toNat 15 hx (by omega)
  rw [show x.toNat &&& 15 = x.toNat % 16 from Nat.and_two_pow_sub_one_eq_mod x.toNat 4] at h
  exact h

set_option maxHeartbeats 1000000 in
theorem hex_any (v : Value) (l : List UInt8) (w : World) (hr : Rd w w.heap.size v l) (hl : l.length ≤ 70368744177664) :
    Calls Tryz.prog 133 #[v] w fun e w' => e = .returned (.string ⟨(hexOf l).toArray⟩) ∧ Below w.heap.size w w' := by
  obtain ⟨i0, hi, hz, hsz, hby⟩ := info_parts Tryz.infoByte
  obtain ⟨A, c, rfl, hc, hcm, hp⟩ := id hr
  go_enter Tryz.func133, Tryz.ntmps133
  go_wp2_with (
    at_make
    have hmul : (2 : Int) * (l.length : Int) = ((2 * l.length : Nat) : Int) := by omega
    refine wpList_make_own _ rfl (.const (.int .i64 0)) (.tmp 8) 32 rfl w.heap.size 5 i0 _ 1 Tryz.underlying32 hi hz hsz .i64 .i64 _ (2 * l.length) rfl rfl hmul (by rw [hby]; omega) (by simp only [maxLen]; omega) (Nat.le_refl _) ?_
    intro w0 ho0 hg0
    have hb0 : Below w.heap.size w w0 := (Below.refl _ _).grown hg0 (Nat.le_refl _) (by intro k hk; cases hk)
    replace ho0 : Own w0 w.heap.size _ [] := ho0
    have HP := Lib.hid hp
    clear hg0 hmul hp)
  go_wp2
  go_loopw [3, 12] (fun v3 i wr => ∃ t : Nat, t ≤ l.length ∧ i = .int .i64 (t : Int) ∧ Own wr w.heap.size v3 (hexOf (l.take t)) ∧ Below w.heap.size w wr)
    (fun _ i _ => l.length - (intOf i).toNat)
  case atStart => exact ⟨0, Nat.zero_le _, rfl, ho0, hb0⟩
  case round =>
    clear ho0 hb0
    obtain ⟨t, ht, rfl, ho, hb⟩ := hrel
    by_cases hlt : t < l.length
    · obtain ⟨b, o, rfl, hbl, hcell⟩ := HP.out (by omega)
      have hol : (hexOf (l.take t)).length = 2 * t := by rw [hexOf_length, List.length_take]; omega
      have hnext := hexOf_succ l t hlt
      have e := (hb.cell (p := ⟨b, o + t, none⟩) hbl).trans (hcell t hlt)
      unfold bval at e
      obtain ⟨x, hx⟩ : ∃ x, x = l[t] := ⟨_, rfl⟩
      rw [← hx] at e hnext
      have HN := Lib.hid hnext
      clear hnext hx hcell HP
      have hx16 : x.toNat / 16 < 16 := by have := x.toNat_lt; omega
      have d1 := dig_at (x.toNat / 16) hx16
      have d2 := dig_at (x.toNat % 16) (by omega)
      have k1 : (x.toNat : Int) / 16 = ((x.toNat / 16 : Nat) : Int) := by omega
      have k2 := and15 x
      have k3 : (x.toNat : Int) / 2 ^ 4 = ((x.toNat / 16 : Nat) : Int) := by omega
      generalize x.toNat / 16 = h1 at *
      generalize x.toNat % 16 = h2 at *
      have i1 : (0 : Int) ≤ (t : Int) := by omega
      have i2 : (t : Int) < (l.length : Int) := by omega
      go_wp2
      go_region_held_law (fun _ => True) (trivial)
        ((rw [if_pos (by rfl)]; refine wp_append_rd (.tmp 16) (.tmp 23) _ rfl i0 Tryz.underlying32 hi hz hsz hby rfl (ho.drew.alloc _) rfl (rd_lit _ _ [digits.getD h1 0, digits.getD h2 0] 2 rfl (by simp [bcells, bval]) (by simp [maxLen])) (by rw [hol]; simp; omega) (by have := hb.size; simp; omega) ?_; intro v3 w3 ho3 hg3 _))
      all_goals
        have hb3 : Below w.heap.size w w3 := Own.below_grown (hb.drew.alloc hb.size _) (ho.drew.alloc _) (Nat.le_refl _) (by have := hb.size; simp; omega) hg3
        rw [← HN.out] at ho3
        clear hg3 d1 d2
        go_wp2
        go_roundw
        case rel => exact ⟨t + 1, by omega, by go_num, ho3, hb3⟩
        case measure => simp [intOf]; omega
    · have hte : t = l.length := by omega
      have i2 : ¬ (t : Int) < (l.length : Int) := by omega
      have hrd := ho.rd
      rw [hte, List.take_of_length_le (Nat.le_refl _)] at hrd
      have hcv := run_str (P := Tryz.prog) Tryz.underlying32 Tryz.underlying5 Tryz.isString hrd
      clear hte HP
      go_wp2
      go_ret
      exact ⟨rfl, hb⟩
end Go.Proofs.YtmphegeiclgjbaaGreatDoor
namespace Go.Proofs.YtmphegeiclgjbaaGreatDoor
set_option maxRecDepth 100000
open Go.RowKit

end Go.Proofs.YtmphegeiclgjbaaGreatDoor
