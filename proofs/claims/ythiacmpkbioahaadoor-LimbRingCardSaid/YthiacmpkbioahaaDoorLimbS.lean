/- Whole numbers of 256 bits as four numbers of 64: plain mathematics, nothing of the program. -/
namespace Go.Proofs.YthiacmpkbioahaaDoor

/-- four numbers of 64 bits, the lowest first -/
structure U4 where
  a : Nat
  b : Nat
  c : Nat
  d : Nat

namespace U4
def ok (x : U4) : Prop := x.a < 18446744073709551616 ∧ x.b < 18446744073709551616 ∧ x.c < 18446744073709551616 ∧ x.d < 18446744073709551616
/-- the number that they are -/
def nat (x : U4) : Nat := x.a + 18446744073709551616 * x.b + 340282366920938463463374607431768211456 * x.c + 6277101735386680763835789423207666416102355444464034512896 * x.d
def zero : U4 := ⟨0, 0, 0, 0⟩
end U4
/-- the first number that doesn't fit -/
def top : Nat := 115792089237316195423570985008687907853269984665640564039457584007913129639936
def ofN (n : Nat) : U4 := ⟨n % 18446744073709551616, n / 18446744073709551616 % 18446744073709551616, n / 340282366920938463463374607431768211456 % 18446744073709551616, n / 6277101735386680763835789423207666416102355444464034512896 % 18446744073709551616⟩

theorem ofN_ok (n : Nat) : (ofN n).ok := ⟨Nat.mod_lt _ (by decide), Nat.mod_lt _ (by decide), Nat.mod_lt _ (by decide), Nat.mod_lt _ (by decide)⟩
theorem nat_lt {x : U4} (h : x.ok) : x.nat < top := by
  obtain ⟨h1, h2, h3, h4⟩ := h
  unfold U4.nat top
  omega
theorem nat_ofN {n : Nat} (h : n < top) : (ofN n).nat = n := by
  unfold top at h
  unfold U4.nat ofN
  simp only
  omega
theorem nat_inj {x y : U4} (hx : x.ok) (hy : y.ok) (h : x.nat = y.nat) : x = y := by
  obtain ⟨h1, h2, h3, h4⟩ := hx
  obtain ⟨k1, k2, k3, k4⟩ := hy
  obtain ⟨a, b, c, d⟩ := x
  obtain ⟨a', b', c', d'⟩ := y
  simp only [U4.nat] at *
  simp only [U4.mk.injEq]
  omega
theorem ofN_nat {x : U4} (h : x.ok) : ofN x.nat = x := nat_inj (ofN_ok _) h (nat_ofN (nat_lt h))
theorem zero_ok : U4.zero.ok := by unfold U4.ok U4.zero; decide
theorem zero_nat : U4.zero.nat = 0 := rfl
theorem nat_zero {x : U4} : x.nat = 0 ↔ x = U4.zero := by
  obtain ⟨a, b, c, d⟩ := x
  simp only [U4.nat, U4.zero, U4.mk.injEq]
  omega

/-- adding: what is there and what is carried behind k steps -/
def addSt (x y : U4) : Nat → U4 × Nat
  | 0 => (⟨0, 0, 0, 0⟩, 0)
  | 1 => (⟨(x.a + y.a + 0) % 18446744073709551616, 0, 0, 0⟩, (x.a + y.a + 0) / 18446744073709551616)
  | 2 => (⟨(addSt x y 1).1.a, (x.b + y.b + (addSt x y 1).2) % 18446744073709551616, 0, 0⟩, (x.b + y.b + (addSt x y 1).2) / 18446744073709551616)
  | 3 => (⟨(addSt x y 2).1.a, (addSt x y 2).1.b, (x.c + y.c + (addSt x y 2).2) % 18446744073709551616, 0⟩, (x.c + y.c + (addSt x y 2).2) / 18446744073709551616)
  | 4 => (⟨(addSt x y 3).1.a, (addSt x y 3).1.b, (addSt x y 3).1.c, (x.d + y.d + (addSt x y 3).2) % 18446744073709551616⟩, (x.d + y.d + (addSt x y 3).2) / 18446744073709551616)
  | _ => (⟨0, 0, 0, 0⟩, 0)
/-- the sum, and whether it fits -/
def addU (x y : U4) : U4 × Bool := if x.nat + y.nat < top then (ofN (x.nat + y.nat), true) else (U4.zero, false)
theorem add_end {x y : U4} (hx : x.ok) (hy : y.ok) : (addSt x y 4).1.nat + top * (addSt x y 4).2 = x.nat + y.nat ∧ (addSt x y 4).1.ok ∧ (addSt x y 4).2 ≤ 1 := by
  obtain ⟨h1, h2, h3, h4⟩ := hx
  obtain ⟨k1, k2, k3, k4⟩ := hy
  obtain ⟨a, b, c, d⟩ := x
  obtain ⟨a', b', c', d'⟩ := y
  simp only [addSt, U4.nat, U4.ok, top] at *
  omega
theorem add_fits {x y : U4} (hx : x.ok) (hy : y.ok) (h : (addSt x y 4).2 = 0) : addU x y = ((addSt x y 4).1, true) := by
  obtain ⟨h1, h2, _⟩ := add_end hx hy
  have h3 := nat_lt h2
  rw [h, Nat.mul_zero, Nat.add_zero] at h1
  unfold addU
  rw [← h1, if_pos h3, ofN_nat h2]
theorem add_over {x y : U4} (hx : x.ok) (hy : y.ok) (h : (addSt x y 4).2 ≠ 0) : addU x y = (U4.zero, false) := by
  obtain ⟨h1, h2, h4⟩ := add_end hx hy
  have h5 : (addSt x y 4).2 = 1 := by omega
  rw [h5, Nat.mul_one] at h1
  unfold addU
  rw [if_neg (by omega)]

/-- taking away -/
def subSt (x y : U4) : Nat → U4 × Nat
  | 0 => (⟨0, 0, 0, 0⟩, 0)
  | 1 => (⟨(x.a + 18446744073709551616 - y.a - 0) % 18446744073709551616, 0, 0, 0⟩, if x.a < y.a + 0 then 1 else 0)
  | 2 => (⟨(subSt x y 1).1.a, (x.b + 18446744073709551616 - y.b - (subSt x y 1).2) % 18446744073709551616, 0, 0⟩, if x.b < y.b + (subSt x y 1).2 then 1 else 0)
  | 3 => (⟨(subSt x y 2).1.a, (subSt x y 2).1.b, (x.c + 18446744073709551616 - y.c - (subSt x y 2).2) % 18446744073709551616, 0⟩, if x.c < y.c + (subSt x y 2).2 then 1 else 0)
  | 4 => (⟨(subSt x y 3).1.a, (subSt x y 3).1.b, (subSt x y 3).1.c, (x.d + 18446744073709551616 - y.d - (subSt x y 3).2) % 18446744073709551616⟩, if x.d < y.d + (subSt x y 3).2 then 1 else 0)
  | _ => (⟨0, 0, 0, 0⟩, 0)
def subU (x y : U4) : U4 × Bool := if y.nat ≤ x.nat then (ofN (x.nat - y.nat), true) else (U4.zero, false)
theorem sub_end {x y : U4} (hx : x.ok) (hy : y.ok) : (subSt x y 4).1.nat + y.nat = x.nat + top * (subSt x y 4).2 ∧ (subSt x y 4).1.ok ∧ (subSt x y 4).2 ≤ 1 := by
  obtain ⟨h1, h2, h3, h4⟩ := hx
  obtain ⟨k1, k2, k3, k4⟩ := hy
  obtain ⟨a, b, c, d⟩ := x
  obtain ⟨a', b', c', d'⟩ := y
  simp only [subSt, U4.nat, U4.ok, top] at *
  split <;> split <;> split <;> split <;> omega
theorem sub_fits {x y : U4} (hx : x.ok) (hy : y.ok) (h : (subSt x y 4).2 = 0) : subU x y = ((subSt x y 4).1, true) := by
  obtain ⟨h1, h2, _⟩ := sub_end hx hy
  rw [h, Nat.mul_zero, Nat.add_zero] at h1
  unfold subU
  rw [if_pos (by omega), show x.nat - y.nat = (subSt x y 4).1.nat by omega, ofN_nat h2]
theorem sub_over {x y : U4} (hx : x.ok) (hy : y.ok) (h : (subSt x y 4).2 ≠ 0) : subU x y = (U4.zero, false) := by
  obtain ⟨h1, h2, h4⟩ := sub_end hx hy
  have h5 : (subSt x y 4).2 = 1 := by omega
  have h6 := nat_lt h2
  rw [h5, Nat.mul_one] at h1
  unfold subU
  rw [if_neg (by omega)]

/-- times a number of 64 bits -/
def mulSt (x : U4) (k : Nat) : Nat → U4 × Nat
  | 0 => (⟨0, 0, 0, 0⟩, 0)
  | 1 => (⟨(x.a * k + 0) % 18446744073709551616, 0, 0, 0⟩, (x.a * k + 0) / 18446744073709551616)
  | 2 => (⟨(mulSt x k 1).1.a, (x.b * k + (mulSt x k 1).2) % 18446744073709551616, 0, 0⟩, (x.b * k + (mulSt x k 1).2) / 18446744073709551616)
  | 3 => (⟨(mulSt x k 2).1.a, (mulSt x k 2).1.b, (x.c * k + (mulSt x k 2).2) % 18446744073709551616, 0⟩, (x.c * k + (mulSt x k 2).2) / 18446744073709551616)
  | 4 => (⟨(mulSt x k 3).1.a, (mulSt x k 3).1.b, (mulSt x k 3).1.c, (x.d * k + (mulSt x k 3).2) % 18446744073709551616⟩, (x.d * k + (mulSt x k 3).2) / 18446744073709551616)
  | _ => (⟨0, 0, 0, 0⟩, 0)
def mulU (x : U4) (k : Nat) : U4 × Bool := if x.nat * k < top then (ofN (x.nat * k), true) else (U4.zero, false)
theorem mul_end (x : U4) (k : Nat) : (mulSt x k 4).1.nat + top * (mulSt x k 4).2 = x.nat * k ∧ (mulSt x k 4).1.ok := by
  obtain ⟨a, b, c, d⟩ := x
  simp only [mulSt, U4.nat, U4.ok, top]
  rw [show (a + 18446744073709551616 * b + 340282366920938463463374607431768211456 * c + 6277101735386680763835789423207666416102355444464034512896 * d) * k = a * k + 18446744073709551616 * (b * k) + 340282366920938463463374607431768211456 * (c * k) + 6277101735386680763835789423207666416102355444464034512896 * (d * k) by
    simp only [Nat.add_mul, Nat.mul_assoc]]
  generalize a * k = p0
  generalize b * k = p1
  generalize c * k = p2
  generalize d * k = p3
  omega
theorem mul_fits {x : U4} {k : Nat} (h : (mulSt x k 4).2 = 0) : mulU x k = ((mulSt x k 4).1, true) := by
  obtain ⟨h1, h2⟩ := mul_end x k
  have h3 := nat_lt h2
  rw [h, Nat.mul_zero, Nat.add_zero] at h1
  unfold mulU
  rw [← h1, if_pos h3, ofN_nat h2]
theorem mul_over {x : U4} {k : Nat} (h : (mulSt x k 4).2 ≠ 0) : mulU x k = (U4.zero, false) := by
  obtain ⟨h1, h2⟩ := mul_end x k
  have h4 : top * 1 ≤ top * (mulSt x k 4).2 := Nat.mul_le_mul_left _ (by omega)
  unfold mulU
  rw [if_neg (by omega)]
end Go.Proofs.YthiacmpkbioahaaDoor
