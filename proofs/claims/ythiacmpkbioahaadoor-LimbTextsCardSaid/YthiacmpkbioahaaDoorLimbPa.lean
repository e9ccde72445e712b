
/- The document's Mul: doubling by the bits, the highest first. -/
import Derived.Test.YthiacmpkbioahaaDoorLimbM0
import Derived.Test.YthiacmpkbioahaaDoorLimbN1
import Derived.Test.YthiacmpkbioahaaDoorLimbL1
namespace Go.Proofs.YthiacmpkbioahaaDoor
open Go Go.RowKit

/-- what the round with r bits to come finds -/
def RMul (a : U4) (k r : Nat) (P : U4) (f : Bool) : Prop := P.ok ∧ ((f = true ∧ a.nat * (k / 2 ^ r) < top ∧ P = ofN (a.nat * (k / 2 ^ r))) ∨ (f = false ∧ top ≤ a.nat * (k / 2 ^ r)))
theorem half (k i : Nat) : k / 2 ^ i = 2 * (k / 2 ^ (i + 1)) + k / 2 ^ i % 2 := by
  rw [Nat.pow_succ, ← Nat.div_div_eq_div_mul]
  omega
theorem RMul.zero {a : U4} {k i : Nat} {P : U4} {f : Bool} (h : RMul a k (i + 1) P f) (hb : k / 2 ^ i % 2 = 0) : RMul a k i (addU P P).1 (f && (addU P P).2) := by
  have hk := half k i
  rw [hb, Nat.add_zero] at hk
  have hm : a.nat * (k / 2 ^ i) = a.nat * (k / 2 ^ (i + 1)) + a.nat * (k / 2 ^ (i + 1)) := by rw [hk, Nat.mul_left_comm]; omega
  obtain ⟨_, ⟨rfl, h1, rfl⟩ | ⟨rfl, h1⟩⟩ := h
  · refine ⟨addU_ok, ?_⟩
    have e := nat_ofN h1
    by_cases h2 : (ofN (a.nat * (k / 2 ^ (i + 1)))).nat + (ofN (a.nat * (k / 2 ^ (i + 1)))).nat < top
    · rw [addU_yes h2, hm]
      rw [e] at h2 ⊢
      exact .inl ⟨rfl, h2, rfl⟩
    · rw [addU_no h2, hm]
      rw [e] at h2
      exact .inr ⟨rfl, by omega⟩
  · exact ⟨addU_ok, .inr ⟨rfl, by omega⟩⟩
theorem RMul.one {a : U4} (ha : a.ok) {k i : Nat} {P : U4} {f : Bool} (h : RMul a k (i + 1) P f) (hb : k / 2 ^ i % 2 = 1) : RMul a k i (addU (addU P P).1 a).1 ((f && (addU P P).2) && (addU (addU P P).1 a).2) := by
  have hk := half k i
  rw [hb] at hk
  have hm : a.nat * (k / 2 ^ i) = a.nat * (k / 2 ^ (i + 1)) + a.nat * (k / 2 ^ (i + 1)) + a.nat := by rw [hk, Nat.mul_add, Nat.mul_one, Nat.mul_left_comm]; omega
  obtain ⟨_, ⟨rfl, h1, rfl⟩ | ⟨rfl, h1⟩⟩ := h
  · refine ⟨addU_ok, ?_⟩
    have e := nat_ofN h1
    by_cases h2 : (ofN (a.nat * (k / 2 ^ (i + 1)))).nat + (ofN (a.nat * (k / 2 ^ (i + 1)))).nat < top
    · rw [addU_yes h2]
      rw [e] at h2 ⊢
      have e2 := nat_ofN h2
      by_cases h3 : (ofN (a.nat * (k / 2 ^ (i + 1)) + a.nat * (k / 2 ^ (i + 1)))).nat + a.nat < top
      · simp only
        rw [addU_yes h3, hm]
        rw [e2] at h3 ⊢
        exact .inl ⟨rfl, h3, rfl⟩
      · simp only
        rw [addU_no h3, hm]
        rw [e2] at h3
        exact .inr ⟨rfl, by omega⟩
    · rw [e] at h2
      refine .inr ⟨?_, by omega⟩
      rw [addU_no (by rw [e]; exact h2)]
      rfl
  · exact ⟨addU_ok, .inr ⟨rfl, by omega⟩⟩
theorem RMul.start (a : U4) (k : Nat) (hk : k < 18446744073709551616) : RMul a k 64 U4.zero true := by
  have h : k / 2 ^ 64 = 0 := Nat.div_eq_of_lt hk
  refine ⟨zero_ok, .inl ⟨rfl, ?_, ?_⟩⟩
  · rw [h, Nat.mul_zero]; decide
  · rw [h, Nat.mul_zero]; rfl
theorem RMul.done {a : U4} {k : Nat} {P : U4} {f : Bool} (h : RMul a k 0 P f) : (f = true ∧ mulU a k = (P, true)) ∨ (f = false ∧ mulU a k = (U4.zero, false)) := by
  obtain ⟨_, ⟨rfl, h1, rfl⟩ | ⟨rfl, h1⟩⟩ := h
  · rw [Nat.pow_zero, Nat.div_one] at h1 ⊢
    exact .inl ⟨rfl, by unfold mulU; rw [if_pos h1]⟩
  · rw [Nat.pow_zero, Nat.div_one] at h1
    exact .inr ⟨rfl, by unfold mulU; rw [if_neg (by omega)]⟩
theorem and1 (n : Nat) (h : n < 18446744073709551616) : bits .and .u64 (n : Int) 1 = ((n % 2 : Nat) : Int) := by
  have h1 : (BitVec.ofInt 64 (n : Int)).toNat = n := by
    rw [BitVec.ofInt_natCast, BitVec.toNat_ofNat]; exact Nat.mod_eq_of_lt (by omega)
  show IntKind.u64.wrap ((BitVec.ofInt 64 (n : Int) &&& BitVec.ofInt 64 1).toNat : Int) = _
  rw [BitVec.toNat_and, h1, show (BitVec.ofInt 64 1).toNat = 2 ^ 1 - 1 from rfl, Nat.and_two_pow_sub_one_eq_mod, IntKind.wrap_u64]
  omega
theorem bit_at (k i : Nat) (h : k < 18446744073709551616) : bits .and .u64 ((k : Int) / 2 ^ i) 1 = ((k / 2 ^ i % 2 : Nat) : Int) := by
  have e : (k : Int) / 2 ^ i = ((k / 2 ^ i : Nat) : Int) := by push_cast; rfl
  rw [e, and1 _ (Nat.lt_of_le_of_lt (Nat.div_le_self _ _) h)]
theorem LBlk.putU {w : World} {g : Nat} {x : U4} (h : LBlk w g x.cells) (u : U4) : LBlk ((((w.setCell ⟨g, 0, none⟩ (.int .u64 (u.a : Int))).setCell ⟨g, 1, none⟩ (.int .u64 (u.b : Int))).setCell ⟨g, 2, none⟩ (.int .u64 (u.c : Int))).setCell ⟨g, 3, none⟩ (.int .u64 (u.d : Int))) g u.cells :=
  (((h.set_ 0 (.int .u64 (u.a : Int))).set_ 1 (.int .u64 (u.b : Int))).set_ 2 (.int .u64 (u.c : Int))).set_ 3 (.int .u64 (u.d : Int))
end Go.Proofs.YthiacmpkbioahaaDoor
