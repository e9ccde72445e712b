/- The walk of the law, whole. -/
import Derived.Test.YthiacmpkbioahaaDoorLimbL8
import Derived.Test.YthiacmpkbioahaaDoorLimbL9
namespace Go.Proofs.YthiacmpkbioahaaDoor
open Go Go.RowKit
theorem ring_walk (a b : U4) (k : Nat) (w : World) (ha : a.ok) (hb : b.ok) (hk : k < 18446744073709551616) : Calls Tryd.prog 7 #[a.val, b.val, .int .u64 (k : Int)] w fun e w' => e = .returned (.bool true) ∧ Below w.heap.size w w' := by
  have hr : (divU a k).2 < 18446744073709551616 := by
    unfold divU
    split
    · decide
    · exact Nat.lt_trans (Nat.mod_lt _ (by omega)) hk
  have hqk : (divU a k).1.ok := by
    unfold divU
    split
    · exact zero_ok
    · exact ofN_ok _
  have k5 := (div_any a k · ha hk)
  have k6 := (mul_any (divU a k).1 k · hqk hk)
  have k7 := (of_any (divU a k).2 ·)
  have k8 := (add_any (mulU (divU a k).1 k).1 ⟨(divU a k).2, 0, 0, 0⟩ · mulU_ok (lit_ok _ 0 hr (by decide)))
  have hK : (((k : Int) == 0) = true ∧ (((divU a k).2 : Int) == 0) = true ∧ eqB (divU a k).1 U4.zero = true) ∨ (((k : Int) == 0) = false ∧ ((k : Int) != 0) = true ∧ (divU a k).2 < k ∧ (mulU (divU a k).1 k).2 = true ∧ (addU (mulU (divU a k).1 k).1 ⟨(divU a k).2, 0, 0, 0⟩).2 = true ∧ eqB (addU (mulU (divU a k).1 k).1 ⟨(divU a k).2, 0, 0, 0⟩).1 a = true) := by
    by_cases hkz : k = 0
    · left
      have e : divU a k = (U4.zero, 0) := by unfold divU; rw [if_pos hkz]
      rw [e, hkz]
      exact ⟨rfl, rfl, eqB_refl _⟩
    · right
      obtain ⟨r1, r2, r3⟩ := ring_math ha (k := k) (by omega)
      rw [r1]
      simp only
      rw [r2]
      simp only
      rw [r3]
      exact ⟨by rw [beq_eq_false_iff_ne]; omega, by rw [bne_iff_ne]; omega, Nat.mod_lt _ (by omega), by first | trivial | rfl, by first | trivial | rfl, eqB_refl _⟩
  have q3 := fun W => eql4 (divU a k).1 U4.zero W
  have q4 := fun W => eql4 (addU (mulU (divU a k).1 k).1 ⟨(divU a k).2, 0, 0, 0⟩).1 a W
  by_cases hft : a.nat + b.nat < top
  · have k1 := (add_any a b · ha hb)
    have k2 := (add_any b a · hb ha)
    rw [← add_comm4 a b] at k2
    rw [addU_yes hft] at k1 k2
    have k3 := (sub_any (ofN (a.nat + b.nat)) b · (ofN_ok _) hb)
    rw [sub_back ha hft] at k3
    have k4 := (cmp_any (ofN (a.nat + b.nat)) a · (ofN_ok _) ha)
    have hcm := cmp_back a b hft
    have q1 := fun W => neq4 (ofN (a.nat + b.nat)) (ofN (a.nat + b.nat)) W
    have q2 := fun W => neq4 a a W
    rw [eqB_refl] at q1 q2
    exact ring_true a b _ _ _ _ k _ _ _ _ _ _ w k1 k2 k3 k4 (by omega) k5 k6 k7 k8 q1 q2 q3 q4 hK
  · have k1 := (add_any a b · ha hb)
    have k2 := (add_any b a · hb ha)
    rw [← add_comm4 a b] at k2
    rw [addU_no hft] at k1 k2
    have q1 := fun W => neq4 U4.zero U4.zero W
    have q2 := fun W => neq4 a a W
    rw [eqB_refl] at q1 q2
    exact ring_no a b _ _ _ _ k _ _ _ _ _ w k1 k2 k5 k6 k7 k8 q1 q2 q3 q4 hK
end Go.Proofs.YthiacmpkbioahaaDoor
