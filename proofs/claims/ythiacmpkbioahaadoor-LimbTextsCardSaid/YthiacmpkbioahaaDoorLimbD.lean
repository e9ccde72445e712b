
/- A number of 128 bits by one of 64, digit by digit: plain mathematics, nothing of the program. -/
namespace Go.Proofs.YthiacmpkbioahaaDoor

/-- one digit of 32 bits: what is tried, and what is left of the upper part -/
structure Digit (u v1 v0 d q r : Nat) : Prop where
  left : u = q * v1 + r
  above : (u * 4294967296 + d) / (v1 * 4294967296 + v0) ≤ q
  most : q ≤ 4294967297
  small : r < 4294967296

theorem div_low_of (B u v1 d : Nat) (hd : d < B) : (u * B + d) / (B * v1) = u / v1 := by
  have e0 : (u * B + d) / B = u := by rw [Nat.add_comm, Nat.add_mul_div_right _ _ (by omega), Nat.div_eq_of_lt hd, Nat.zero_add]
  rw [← Nat.div_div_eq_div_mul, e0]
theorem start_above (B u v1 v0 d : Nat) (hd : d < B) (hp : 0 < v1) : (u * B + d) / (v1 * B + v0) ≤ u / v1 := by
  rw [← div_low_of B u v1 d hd, Nat.mul_comm B v1]
  exact Nat.div_le_div_left (Nat.le_add_right _ _) (Nat.mul_pos hp (by omega))
theorem div_low (u v1 : Nat) {d : Nat} (hd : d < 4294967296) : (u * 4294967296 + d) / (4294967296 * v1) = u / v1 := div_low_of 4294967296 u v1 d hd

section
variable {u v1 v0 d q r : Nat}
theorem digit_start (h1 : 2147483648 ≤ v1) (h2 : v1 < 4294967296) (hu : u < v1 * 4294967296 + v0) (h3 : v0 < 4294967296) (hd : d < 4294967296) : Digit u v1 v0 d (u / v1) (u % v1) := by
  refine ⟨?_, ?_, ?_, ?_⟩
  · rw [Nat.mul_comm]; exact (Nat.div_add_mod u v1).symm
  · exact start_above 4294967296 u v1 v0 d hd (by omega)
  · have h5 : u < 4294967298 * v1 := by omega
    have h6 : u / v1 < 4294967298 := (Nat.div_lt_iff_lt_mul (by omega)).2 h5
    omega
  · have := Nat.mod_lt u (show 0 < v1 by omega)
    omega
theorem digit_lt (h1 : 2147483648 ≤ v1) (hu : u < v1 * 4294967296 + v0) (hd : d < 4294967296) : (u * 4294967296 + d) / (v1 * 4294967296 + v0) < 4294967296 := by
  rw [Nat.div_lt_iff_lt_mul (by omega)]
  omega
theorem digit_eq (h : Digit u v1 v0 d q r) : q * (v1 * 4294967296 + v0) + 4294967296 * r + d = u * 4294967296 + d + q * v0 := by
  have := h.left
  rw [this, Nat.mul_add, ← Nat.mul_assoc, Nat.add_mul]
  omega
theorem digit_down (h1 : 2147483648 ≤ v1) (hu : u < v1 * 4294967296 + v0) (hd : d < 4294967296) (h : Digit u v1 v0 d q r) (ht : 4294967296 ≤ q ∨ 4294967296 * r + d < q * v0) :
    1 ≤ q ∧ u = (q - 1) * v1 + (r + v1) ∧ (u * 4294967296 + d) / (v1 * 4294967296 + v0) ≤ q - 1 ∧ q - 1 ≤ 4294967296 := by
  have hm := h.most
  have hlt : (u * 4294967296 + d) / (v1 * 4294967296 + v0) < q := by
    rcases ht with ht | ht
    · exact Nat.lt_of_lt_of_le (digit_lt h1 hu hd) ht
    · rw [Nat.div_lt_iff_lt_mul (by omega)]
      have := digit_eq h
      omega
  have hq : 1 ≤ q := Nat.lt_of_le_of_lt (Nat.zero_le _) hlt
  refine ⟨hq, ?_, Nat.le_sub_one_of_lt hlt, by omega⟩
  have := h.left
  rw [Nat.sub_mul, Nat.one_mul]
  have : v1 ≤ q * v1 := Nat.le_mul_of_pos_left _ (by omega)
  omega
theorem digit_stop (h1 : 2147483648 ≤ v1) (hl : u = q * v1 + r) (ha : (u * 4294967296 + d) / (v1 * 4294967296 + v0) ≤ q) (ht : q * v0 ≤ 4294967296 * r + d) :
    q = (u * 4294967296 + d) / (v1 * 4294967296 + v0) := by
  have h2 : q ≤ (u * 4294967296 + d) / (v1 * 4294967296 + v0) := by
    rw [Nat.le_div_iff_mul_le (by omega), hl, Nat.mul_add, ← Nat.mul_assoc, Nat.add_mul]
    omega
  omega
theorem digit_break (h2 : v0 < 4294967296) (hq : q ≤ 4294967296) (hr : 4294967296 ≤ r) : q * v0 ≤ 4294967296 * r + d := by
  have : q * v0 ≤ 4294967296 * 4294967295 := Nat.mul_le_mul hq (by omega)
  omega
end

/-- both digits -/
theorem two_digits {N v u w d1 d0 q1 r1 q0 r0 : Nat} (hv : 0 < v) (hN : N = u * 18446744073709551616 + w) (hw : w = d1 * 4294967296 + d0)
    (e1 : u * 4294967296 + d1 = q1 * v + r1) (e0 : r1 * 4294967296 + d0 = q0 * v + r0) (hr : r0 < v) : N / v = q1 * 4294967296 + q0 ∧ N % v = r0 := by
  have h : N = (q1 * 4294967296 + q0) * v + r0 := by
    have h1 : N = (u * 4294967296 + d1) * 4294967296 + d0 := by rw [hN, hw, Nat.add_mul, Nat.mul_assoc, Nat.add_assoc]
    rw [h1, e1, Nat.add_mul, Nat.add_mul, Nat.add_assoc, e0, Nat.mul_right_comm]
    omega
  constructor
  · rw [h, Nat.mul_comm _ v, Nat.mul_add_div hv, Nat.div_eq_of_lt hr, Nat.add_zero]
  · rw [h, Nat.mul_comm _ v, Nat.mul_add_mod, Nat.mod_eq_of_lt hr]
/-- turned left by s bits, both -/
theorem shifted {n y s : Nat} (hy : 0 < y) : n * 2 ^ s / (y * 2 ^ s) = n / y ∧ n * 2 ^ s % (y * 2 ^ s) / 2 ^ s = n % y := by
  have hp : 0 < 2 ^ s := Nat.two_pow_pos s
  refine ⟨Nat.mul_div_mul_right _ _ hp, ?_⟩
  rw [Nat.mul_mod_mul_right, Nat.mul_div_cancel _ hp]
/-- the upper and the lower part, turned left -/
theorem parts {hi lo y s : Nat} (hy : hi < y) (hs : s ≤ 63) (hlo : lo < 18446744073709551616) (hv : y * 2 ^ s < 18446744073709551616) :
    hi * 2 ^ s < 18446744073709551616 ∧ (hi * 18446744073709551616 + lo) * 2 ^ s = (hi * 2 ^ s + lo / 2 ^ (64 - s)) * 18446744073709551616 + lo * 2 ^ s % 18446744073709551616 ∧ lo / 2 ^ (64 - s) < 2 ^ s ∧ hi * 2 ^ s + lo / 2 ^ (64 - s) < y * 2 ^ s := by
  have hp : 0 < 2 ^ s := Nat.two_pow_pos s
  have e64 : 2 ^ s * 2 ^ (64 - s) = 18446744073709551616 := by rw [← Nat.pow_add, show s + (64 - s) = 64 by omega]
  have hmul : (hi + 1) * 2 ^ s ≤ y * 2 ^ s := Nat.mul_le_mul_right _ hy
  rw [Nat.add_mul, Nat.one_mul] at hmul
  have hd : lo * 2 ^ s / 18446744073709551616 = lo / 2 ^ (64 - s) := by
    rw [← e64, Nat.mul_comm lo, Nat.mul_div_mul_left _ _ hp]
  have hdl : lo / 2 ^ (64 - s) < 2 ^ s := by
    rw [Nat.div_lt_iff_lt_mul (Nat.two_pow_pos _), e64]
    exact hlo
  refine ⟨by omega, ?_, hdl, by omega⟩
  rw [← hd, Nat.add_mul, Nat.add_mul, Nat.mul_right_comm]
  have := Nat.div_add_mod (lo * 2 ^ s) 18446744073709551616
  omega
end Go.Proofs.YthiacmpkbioahaaDoor
