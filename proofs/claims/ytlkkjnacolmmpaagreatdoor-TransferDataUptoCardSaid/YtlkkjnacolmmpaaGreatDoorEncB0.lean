
/- What was put is taken again: a number, bytes. What is read without a fault is what was put: one form. -/
import Derived.Test.YtlkkjnacolmmpaaGreatDoorWireR
import Derived.Test.YtlkkjnacolmmpaaGreatDoorBeLt
import Derived.Test.YtlkkjnacolmmpaaGreatDoorBase0
import Derived.Test.YtlkkjnacolmmpaaGreatDoorLimbS0
namespace Go.Proofs.YtlkkjnacolmmpaaGreatDoor
set_option maxRecDepth 100000

/-- the form of what is put -/
def encB (m : List UInt8) : List UInt8 := be (m.take 65535).length 4 ++ m.take 65535
theorem rN_enc (n : Nat) (rest : List UInt8) (h : n < 18446744073709551616) : rN (be n 8 ++ rest) 0 = (n, rest, 0) := by
  have h1 : (be n 8 ++ rest).take 8 = be n 8 := by rw [List.take_append_of_le_length (by simp [be_length]), List.take_of_length_le (by simp [be_length])]
  have h2 : (be n 8 ++ rest).drop 8 = rest := by rw [List.drop_append_of_le_length (by simp [be_length]), List.drop_of_length_le (by simp [be_length]), List.nil_append]
  unfold rN
  rw [if_neg (by simp), if_neg (by simp [be_length]), h1, h2, be_lt, Nat.mod_eq_of_lt (by omega)]
theorem rB_enc (m : List UInt8) (rest : List UInt8) : rB (encB m ++ rest) 0 = (m.take 65535, rest, 0) := by
  have hl : (m.take 65535).length ≤ 65535 := by simp; omega
  unfold encB
  generalize m.take 65535 = t at *
  have h1 : (be t.length 4 ++ t ++ rest).take 4 = be t.length 4 := by
    rw [List.append_assoc, List.take_append_of_le_length (by simp [be_length]), List.take_of_length_le (by simp [be_length])]
  have h2 : (be t.length 4 ++ t ++ rest).drop 4 = t ++ rest := by
    rw [List.append_assoc, List.drop_append_of_le_length (by simp [be_length]), List.drop_of_length_le (by simp [be_length]), List.nil_append]
  have h3 : beVal (be t.length 4) = t.length := by rw [be_lt, Nat.mod_eq_of_lt (by omega)]
  unfold rB
  rw [if_neg (by simp), if_neg (by simp [be_length]), h1, h3, if_neg (by omega), if_neg (by simp [be_length]), h2]
  rw [← List.drop_drop, h2]
  simp
end Go.Proofs.YtlkkjnacolmmpaaGreatDoor
namespace Go.Proofs.YtlkkjnacolmmpaaGreatDoor
set_option maxRecDepth 100000
open Go Go.RowKit
set_option linter.unusedVariables false

theorem be_mod (n k : Nat) : ∀ j, j ≤ k → be (n % 256 ^ k) j = be n j := by
  intro j
  induction j with
  | zero => intro _; rfl
  | succ j ih =>
    intro h
    simp only [be]
    rw [ih (by omega)]
    congr 1
    have e : 256 ^ k = 2 ^ (8 * j) * (256 * 256 ^ (k - j - 1)) := by
      rw [Nat.pow_mul, ← Nat.mul_assoc]
      show 256 ^ k = 256 ^ j * 256 * 256 ^ (k - j - 1)
      rw [← Nat.pow_succ, ← Nat.pow_add]
      congr 1
      omega
    rw [e, Nat.mod_mul_right_div_self]
    apply UInt8.toNat_inj.1
    rw [UInt8.toNat_ofNat', UInt8.toNat_ofNat']
    show n / 2 ^ (8 * j) % (256 * _) % 256 = n / 2 ^ (8 * j) % 256
    rw [Nat.mod_mul_right_mod]
theorem be_beVal (t : List UInt8) : be (beVal t) t.length = t := by
  have h1 := be_valB t
  have h2 : beVal t = valB t % 256 ^ t.length := by
    conv => lhs; rw [← h1]
    rw [be_lt]
  rw [h2, be_mod _ _ _ (Nat.le_refl _), h1]
theorem rEnd_zero {l : List UInt8} {f : Int} (h : rEnd l f = 0) : f = 0 ∧ l = [] := by
  unfold rEnd at h
  split at h
  · next h1 => exact absurd h h1
  · next h1 =>
    split at h
    · cases h
    · exact ⟨by simpa using h1, List.eq_nil_of_length_eq_zero (by omega)⟩
theorem rN_ok {l : List UInt8} {f : Int} (h : (rN l f).2.2 = 0) : f = 0 ∧ l = be (rN l f).1 8 ++ (rN l f).2.1 := by
  unfold rN at h ⊢
  split at h
  · next h1 => exact absurd h h1
  · next h1 =>
    split at h
    · cases h
    · next h2 =>
      rw [if_neg h1, if_neg h2]
      refine ⟨by simpa using h1, ?_⟩
      have e := be_beVal (l.take 8)
      rw [List.length_take, Nat.min_eq_left (by omega)] at e
      rw [e, List.take_append_drop]
theorem rB_ok {l : List UInt8} {f : Int} (h : (rB l f).2.2 = 0) : f = 0 ∧ l = encB (rB l f).1 ++ (rB l f).2.1 := by
  have hle := rB_le l f
  unfold encB
  rw [List.take_of_length_le hle]
  unfold rB at h hle ⊢
  split at h
  · next h1 => exact absurd h h1
  · next h1 =>
    split at h
    · cases h
    · next h2 =>
      split at h
      · cases h
      · next h3 =>
        split at h
        · cases h
        · next h4 =>
          rw [if_neg h1, if_neg h2, if_neg h3, if_neg h4]
          refine ⟨by simpa using h1, ?_⟩
          have e := be_beVal (l.take 4)
          rw [List.length_take, Nat.min_eq_left (by omega)] at e
          have e2 : ((l.drop 4).take (beVal (l.take 4))).length = beVal (l.take 4) := by rw [List.length_take, List.length_drop]; omega
          rw [e2, e, List.append_assoc, ← List.drop_drop, List.take_append_drop, List.take_append_drop]
end Go.Proofs.YtlkkjnacolmmpaaGreatDoor
