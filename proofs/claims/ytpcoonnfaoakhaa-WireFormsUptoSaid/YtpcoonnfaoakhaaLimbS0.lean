
/- Whole numbers of 256 bits as four numbers of 64: plain mathematics, nothing of the program. Whole numbers as rows of bytes, the lowest first: plain mathematics. Adding, taking away and comparing byte by byte: plain mathematics. The number that 32 bytes are: mathematics. -/
import Derived.Test.YtpcoonnfaoakhaaBase0
namespace Go.Proofs.Ytpcoonnfaoakhaa
set_option maxRecDepth 100000

/-- four numbers of 64 bits, the lowest first -/
structure U4 where
  a : Nat
  b : Nat
  c : Nat
  d : Nat

namespace U4
def ok (x : U4) : Prop := x.a < 18446744073709551616 ∧ x.b < 18446744073709551616 ∧ x.c < 18446744073709551616 ∧ x.d < 18446744073709551616
/-- the number that they are -/
def nat (x : U4) : Nat := x.a + 18446744073709551616 * x.b + 340282366920938463463374607431768211456 * x.c + 6277101735386680763835789423207666416102355444464034512896 * x.d
def zero : U4 := ⟨0, 0, 0, 0⟩
end U4
/-- the first number that doesn't fit -/
def top : Nat := 115792089237316195423570985008687907853269984665640564039457584007913129639936
def ofN (n : Nat) : U4 := ⟨n % 18446744073709551616, n / 18446744073709551616 % 18446744073709551616, n / 340282366920938463463374607431768211456 % 18446744073709551616, n / 6277101735386680763835789423207666416102355444464034512896 % 18446744073709551616⟩

theorem ofN_ok (n : Nat) : (ofN n).ok := ⟨Nat.mod_lt _ (by decide), Nat.mod_lt _ (by decide), Nat.mod_lt _ (by decide), Nat.mod_lt _ (by decide)⟩
theorem nat_lt {x : U4} (h : x.ok) : x.nat < top := by
  obtain ⟨h1, h2, h3, h4⟩ := h
  unfold U4.nat top
  omega
theorem nat_ofN {n : Nat} (h : n < top) : (ofN n).nat = n := by
  unfold top at h
  unfold U4.nat ofN
  simp only
  omega
theorem nat_inj {x y : U4} (hx : x.ok) (hy : y.ok) (h : x.nat = y.nat) : x = y := by
  obtain ⟨h1, h2, h3, h4⟩ := hx
  obtain ⟨k1, k2, k3, k4⟩ := hy
  obtain ⟨a, b, c, d⟩ := x
  obtain ⟨a', b', c', d'⟩ := y
  simp only [U4.nat] at *
  simp only [U4.mk.injEq]
  omega
theorem ofN_nat {x : U4} (h : x.ok) : ofN x.nat = x := nat_inj (ofN_ok _) h (nat_ofN (nat_lt h))
theorem zero_ok : U4.zero.ok := by unfold U4.ok U4.zero; decide
theorem zero_nat : U4.zero.nat = 0 := rfl
theorem nat_zero {x : U4} : x.nat = 0 ↔ x = U4.zero := by
  obtain ⟨a, b, c, d⟩ := x
  simp only [U4.nat, U4.zero, U4.mk.injEq]
  omega

/-- adding: what is there and what is carried behind k steps -/
def addSt (x y : U4) : Nat → U4 × Nat
  | 0 => (⟨0, 0, 0, 0⟩, 0)
  | 1 => (⟨(x.a + y.a + 0) % 18446744073709551616, 0, 0, 0⟩, (x.a + y.a + 0) / 18446744073709551616)
  | 2 => (⟨(addSt x y 1).1.a, (x.b + y.b + (addSt x y 1).2) % 18446744073709551616, 0, 0⟩, (x.b + y.b + (addSt x y 1).2) / 18446744073709551616)
  | 3 => (⟨(addSt x y 2).1.a, (addSt x y 2).1.b, (x.c + y.c + (addSt x y 2).2) % 18446744073709551616, 0⟩, (x.c + y.c + (addSt x y 2).2) / 18446744073709551616)
  | 4 => (⟨(addSt x y 3).1.a, (addSt x y 3).1.b, (addSt x y 3).1.c, (x.d + y.d + (addSt x y 3).2) % 18446744073709551616⟩, (x.d + y.d + (addSt x y 3).2) / 18446744073709551616)
  | _ => (⟨0, 0, 0, 0⟩, 0)
/-- the sum, and whether it fits -/
def addU (x y : U4) : U4 × Bool := if x.nat + y.nat < top then (ofN (x.nat + y.nat), true) else (U4.zero, false)
theorem add_end {x y : U4} (hx : x.ok) (hy : y.ok) : (addSt x y 4).1.nat + top * (addSt x y 4).2 = x.nat + y.nat ∧ (addSt x y 4).1.ok ∧ (addSt x y 4).2 ≤ 1 := by
  obtain ⟨h1, h2, h3, h4⟩ := hx
  obtain ⟨k1, k2, k3, k4⟩ := hy
  obtain ⟨a, b, c, d⟩ := x
  obtain ⟨a', b', c', d'⟩ := y
  simp only [addSt, U4.nat, U4.ok, top] at *
  omega
theorem add_fits {x y : U4} (hx : x.ok) (hy : y.ok) (h : (addSt x y 4).2 = 0) : addU x y = ((addSt x y 4).1, true) := by
  obtain ⟨h1, h2, _⟩ := add_end hx hy
  have h3 := nat_lt h2
  rw [h, Nat.mul_zero, Nat.add_zero] at h1
  unfold addU
  rw [← h1, if_pos h3, ofN_nat h2]
theorem add_over {x y : U4} (hx : x.ok) (hy : y.ok) (h : (addSt x y 4).2 ≠ 0) : addU x y = (U4.zero, false) := by
  obtain ⟨h1, h2, h4⟩ := add_end hx hy
  have h5 : (addSt x y 4).2 = 1 := by omega
  rw [h5, Nat.mul_one] at h1
  unfold addU
  rw [if_neg (by omega)]

/-- taking away -/
def subSt (x y : U4) : Nat → U4 × Nat
  | 0 => (⟨0, 0, 0, 0⟩, 0)
  | 1 => (⟨(x.a + 18446744073709551616 - y.a - 0) % 18446744073709551616, 0, 0, 0⟩, if x.a < y.a + 0 then 1 else 0)
  | 2 => (⟨(subSt x y 1).1.a, (x.b + 18446744073709551616 - y.b - (subSt x y 1).2) % 18446744073709551616, 0, 0⟩, if x.b < y.b + (subSt x y 1).2 then 1 else 0)
  | 3 => (⟨(subSt x y 2).1.a, (subSt x y 2).1.b, (x.c + 18446744073709551616 - y.c - (subSt x y 2).2) % 18446744073709551616, 0⟩, if x.c < y.c + (subSt x y 2).2 then 1 else 0)
  | 4 => (⟨(subSt x y 3).1.a, (subSt x y 3).1.b, (subSt x y 3).1.c, (x.d + 18446744073709551616 - y.d - (subSt x y 3).2) % 18446744073709551616⟩, if x.d < y.d + (subSt x y 3).2 then 1 else 0)
  | _ => (⟨0, 0, 0, 0⟩, 0)
def subU (x y : U4) : U4 × Bool := if y.nat ≤ x.nat then (ofN (x.nat - y.nat), true) else (U4.zero, false)
theorem sub_end {x y : U4} (hx : x.ok) (hy : y.ok) : (subSt x y 4).1.nat + y.nat = x.nat + top * (subSt x y 4).2 ∧ (subSt x y 4).1.ok ∧ (subSt x y 4).2 ≤ 1 := by
  obtain ⟨h1, h2, h3, h4⟩ := hx
  obtain ⟨k1, k2, k3, k4⟩ := hy
  obtain ⟨a, b, c, d⟩ := x
  obtain ⟨a', b', c', d'⟩ := y
  simp only [subSt, U4.nat, U4.ok, top] at *
  split <;> split <;> split <;> split <;> omega
theorem sub_fits {x y : U4} (hx : x.ok) (hy : y.ok) (h : (subSt x y 4).2 = 0) : subU x y = ((subSt x y 4).1, true) := by
  obtain ⟨h1, h2, _⟩ := sub_end hx hy
  rw [h, Nat.mul_zero, Nat.add_zero] at h1
  unfold subU
  rw [if_pos (by omega), show x.nat - y.nat = (subSt x y 4).1.nat by omega, ofN_nat h2]
theorem sub_over {x y : U4} (hx : x.ok) (hy : y.ok) (h : (subSt x y 4).2 ≠ 0) : subU x y = (U4.zero, false) := by
  obtain ⟨h1, h2, h4⟩ := sub_end hx hy
  have h5 : (subSt x y 4).2 = 1 := by omega
  have h6 := nat_lt h2
  rw [h5, Nat.mul_one] at h1
  unfold subU
  rw [if_neg (by omega)]

/-- times a number of 64 bits -/
def mulSt (x : U4) (k : Nat) : Nat → U4 × Nat
  | 0 => (⟨0, 0, 0, 0⟩, 0)
  | 1 => (⟨(x.a * k + 0) % 18446744073709551616, 0, 0, 0⟩, (x.a * k + 0) / 18446744073709551616)
  | 2 => (⟨(mulSt x k 1).1.a, (x.b * k + (mulSt x k 1).2) % 18446744073709551616, 0, 0⟩, (x.b * k + (mulSt x k 1).2) / 18446744073709551616)
  | 3 => (⟨(mulSt x k 2).1.a, (mulSt x k 2).1.b, (x.c * k + (mulSt x k 2).2) % 18446744073709551616, 0⟩, (x.c * k + (mulSt x k 2).2) / 18446744073709551616)
  | 4 => (⟨(mulSt x k 3).1.a, (mulSt x k 3).1.b, (mulSt x k 3).1.c, (x.d * k + (mulSt x k 3).2) % 18446744073709551616⟩, (x.d * k + (mulSt x k 3).2) / 18446744073709551616)
  | _ => (⟨0, 0, 0, 0⟩, 0)
def mulU (x : U4) (k : Nat) : U4 × Bool := if x.nat * k < top then (ofN (x.nat * k), true) else (U4.zero, false)
theorem mul_end (x : U4) (k : Nat) : (mulSt x k 4).1.nat + top * (mulSt x k 4).2 = x.nat * k ∧ (mulSt x k 4).1.ok := by
  obtain ⟨a, b, c, d⟩ := x
  simp only [mulSt, U4.nat, U4.ok, top]
  rw [show (a + 18446744073709551616 * b + 340282366920938463463374607431768211456 * c + 6277101735386680763835789423207666416102355444464034512896 * d) * k = a * k + 18446744073709551616 * (b * k) + 340282366920938463463374607431768211456 * (c * k) + 6277101735386680763835789423207666416102355444464034512896 * (d * k) by
    simp only [Nat.add_mul, Nat.mul_assoc]]
  generalize a * k = p0
  generalize b * k = p1
  generalize c * k = p2
  generalize d * k = p3
  omega
theorem mul_fits {x : U4} {k : Nat} (h : (mulSt x k 4).2 = 0) : mulU x k = ((mulSt x k 4).1, true) := by
  obtain ⟨h1, h2⟩ := mul_end x k
  have h3 := nat_lt h2
  rw [h, Nat.mul_zero, Nat.add_zero] at h1
  unfold mulU
  rw [← h1, if_pos h3, ofN_nat h2]
theorem mul_over {x : U4} {k : Nat} (h : (mulSt x k 4).2 ≠ 0) : mulU x k = (U4.zero, false) := by
  obtain ⟨h1, h2⟩ := mul_end x k
  have h4 : top * 1 ≤ top * (mulSt x k 4).2 := Nat.mul_le_mul_left _ (by omega)
  unfold mulU
  rw [if_neg (by omega)]
end Go.Proofs.Ytpcoonnfaoakhaa
namespace Go.Proofs.Ytpcoonnfaoakhaa
set_option maxRecDepth 100000

def byL (n : Nat) : Nat → List Nat
  | 0 => []
  | k + 1 => byL n k ++ [n / 256 ^ k % 256]
def valL : List Nat → Nat
  | [] => 0
  | d :: r => d + 256 * valL r
theorem byL_length (n k : Nat) : (byL n k).length = k := by induction k <;> simp [byL, *]
theorem byL_lt (n k : Nat) : ∀ d ∈ byL n k, d < 256 := by
  induction k with
  | zero => intro d hd; simp [byL] at hd
  | succ k ih =>
    intro d hd
    rw [byL, List.mem_append] at hd
    rcases hd with hd | hd
    · exact ih d hd
    · simp only [List.mem_cons, List.not_mem_nil, or_false] at hd; subst hd; exact Nat.mod_lt _ (by decide)
theorem valL_snoc (l : List Nat) (d : Nat) : valL (l ++ [d]) = valL l + 256 ^ l.length * d := by
  induction l with
  | nil => simp [valL]
  | cons x r ih =>
    simp only [List.cons_append, valL, ih, List.length_cons, Nat.pow_succ, Nat.mul_add]
    rw [show 256 * (256 ^ r.length * d) = 256 ^ r.length * 256 * d by rw [← Nat.mul_assoc, Nat.mul_comm 256]]
    omega
theorem valL_byL (n k : Nat) : valL (byL n k) = n % 256 ^ k := by
  induction k with
  | zero => simp [byL, valL, Nat.mod_one]
  | succ k ih => rw [byL, valL_snoc, ih, byL_length, Nat.pow_succ, Nat.mod_mul]
theorem valL_lt (l : List Nat) (h : ∀ d ∈ l, d < 256) : valL l < 256 ^ l.length := by
  induction l with
  | nil => simp [valL]
  | cons x r ih =>
    have h1 := ih fun d hd => h d (List.mem_cons_of_mem _ hd)
    have h2 := h x (List.mem_cons_self ..)
    simp only [valL, List.length_cons, Nat.pow_succ]
    omega
theorem valL_append (l m : List Nat) : valL (l ++ m) = valL l + 256 ^ l.length * valL m := by
  induction l with
  | nil => simp [valL]
  | cons x r ih =>
    simp only [List.cons_append, valL, ih, List.length_cons, Nat.pow_succ, Nat.mul_add]
    rw [show 256 * (256 ^ r.length * valL m) = 256 ^ r.length * 256 * valL m by rw [← Nat.mul_assoc, Nat.mul_comm 256]]
    omega
theorem valL_inj : ∀ (l m : List Nat), l.length = m.length → (∀ d ∈ l, d < 256) → (∀ d ∈ m, d < 256) → valL l = valL m → l = m
  | [], [], _, _, _, _ => rfl
  | [], y :: s, h, _, _, _ => by simp at h
  | x :: r, [], h, _, _, _ => by simp at h
  | x :: r, y :: s, h, hl, hm, hv => by
    have h1 := hl x (List.mem_cons_self ..)
    have h2 := hm y (List.mem_cons_self ..)
    simp only [valL] at hv
    have hxy : x = y := by omega
    subst hxy
    rw [valL_inj r s (by simpa using h) (fun d hd => hl d (List.mem_cons_of_mem _ hd)) (fun d hd => hm d (List.mem_cons_of_mem _ hd)) (by omega)]
theorem byL_valL (l : List Nat) (h : ∀ d ∈ l, d < 256) : byL (valL l) l.length = l :=
  valL_inj _ _ (byL_length _ _) (byL_lt _ _) h (by rw [valL_byL, Nat.mod_eq_of_lt (valL_lt l h)])
theorem top_pow : top = 256 ^ 32 := by decide +kernel
theorem nat_long {x : U4} (h : x.ok) : valL (byL x.nat 32) = x.nat := by
  have := nat_lt h
  rw [valL_byL, Nat.mod_eq_of_lt (by rw [← top_pow]; exact this)]
/-- a byte of a number of 64 bits is one of the whole -/
theorem part8 (N i k : Nat) (hk : k < 8) : N / 256 ^ (8 * i) % 18446744073709551616 / 256 ^ k % 256 = N / 256 ^ (8 * i + k) % 256 := by
  rw [Nat.pow_add, ← Nat.div_div_eq_div_mul]
  generalize N / 256 ^ (8 * i) = M
  have hk' : k = 0 ∨ k = 1 ∨ k = 2 ∨ k = 3 ∨ k = 4 ∨ k = 5 ∨ k = 6 ∨ k = 7 := by omega
  rcases hk' with rfl | rfl | rfl | rfl | rfl | rfl | rfl | rfl <;> simp only [Nat.reducePow] <;> omega
theorem pow8 : 256 ^ (8 * 0) = 1 ∧ 256 ^ (8 * 1) = 18446744073709551616 ∧ 256 ^ (8 * 2) = 340282366920938463463374607431768211456 ∧ 256 ^ (8 * 3) = 6277101735386680763835789423207666416102355444464034512896 := by decide +kernel
def U4.at' (x : U4) : Nat → Nat
  | 0 => x.a
  | 1 => x.b
  | 2 => x.c
  | _ => x.d
theorem at_part {x : U4} (h : x.ok) (i : Nat) (hi : i < 4) : x.at' i = x.nat / 256 ^ (8 * i) % 18446744073709551616 := by
  obtain ⟨h1, h2, h3, h4⟩ := h
  obtain ⟨p0, p1, p2, p3⟩ := pow8
  have hi' : i = 0 ∨ i = 1 ∨ i = 2 ∨ i = 3 := by omega
  obtain ⟨a, b, c, d⟩ := x
  simp only at h1 h2 h3 h4
  rcases hi' with rfl | rfl | rfl | rfl
  · rw [p0]; simp only [U4.at', U4.nat]; omega
  · rw [p1]; simp only [U4.at', U4.nat]; omega
  · rw [p2]; simp only [U4.at', U4.nat]; omega
  · rw [p3]; simp only [U4.at', U4.nat]; omega
theorem at_byte {x : U4} (h : x.ok) (i k : Nat) (hi : i < 4) (hk : k < 8) : x.at' i / 256 ^ k % 256 = x.nat / 256 ^ (8 * i + k) % 256 := by
  rw [at_part h i hi, part8 _ _ _ hk]
end Go.Proofs.Ytpcoonnfaoakhaa
namespace Go.Proofs.Ytpcoonnfaoakhaa
set_option maxRecDepth 100000

theorem valL_take (X : List Nat) (i : Nat) (h : i < X.length) : valL (X.take (i + 1)) = valL (X.take i) + 256 ^ i * X[i] := by
  rw [List.take_succ_eq_append_getElem h, valL_snoc, List.length_take, Nat.min_eq_left (by omega)]
theorem set_mid (z X : List Nat) (i v : Nat) (hz : z.length = i) (h : i < X.length) : (z ++ X.drop i).set i v = (z ++ [v]) ++ X.drop (i + 1) := by
  rw [List.set_append_right _ _ (by omega), hz, Nat.sub_self, List.drop_eq_getElem_cons h, List.set_cons_zero, List.append_assoc]
  rfl
theorem get_mid (z X : List Nat) (i : Nat) (hz : z.length = i) (h : i < X.length) : (z ++ X.drop i).getD i 0 = X[i] := by
  rw [List.getD_eq_getElem?_getD, List.getElem?_append_right (by omega), hz, Nat.sub_self, List.drop_eq_getElem_cons h]
  rfl
theorem add_step (z X Y : List Nat) (i c : Nat) (hz : z.length = i) (hx : i < X.length) (hy : i < Y.length) (hi : valL z + 256 ^ i * c = valL (X.take i) + valL (Y.take i)) :
    valL (z ++ [(X[i] + Y[i] + c) % 256]) + 256 ^ (i + 1) * ((X[i] + Y[i] + c) / 256) = valL (X.take (i + 1)) + valL (Y.take (i + 1)) := by
  rw [valL_snoc, valL_take X i hx, valL_take Y i hy, hz, Nat.pow_succ]
  generalize 256 ^ i = P at *
  have h : P * ((X[i] + Y[i] + c) % 256) + P * 256 * ((X[i] + Y[i] + c) / 256) = P * (X[i] + Y[i] + c) := by
    rw [Nat.mul_assoc, ← Nat.mul_add, Nat.mod_add_div]
  rw [Nat.mul_add, Nat.mul_add] at h
  omega
theorem sub_step (z X Y : List Nat) (i b d b' : Nat) (hz : z.length = i) (hx : i < X.length) (hy : i < Y.length) (hi : valL z + valL (Y.take i) = valL (X.take i) + 256 ^ i * b) (hd : d + Y[i] + b = X[i] + 256 * b') :
    valL (z ++ [d]) + valL (Y.take (i + 1)) = valL (X.take (i + 1)) + 256 ^ (i + 1) * b' := by
  rw [valL_snoc, valL_take X i hx, valL_take Y i hy, hz, Nat.pow_succ]
  generalize 256 ^ i = P at *
  have h : P * (d + Y[i] + b) = P * (X[i] + 256 * b') := by rw [hd]
  rw [Nat.mul_add, Nat.mul_add, Nat.mul_add, ← Nat.mul_assoc] at h
  omega
theorem valL_split (X : List Nat) (i : Nat) (h : i < X.length) : valL X = valL (X.take i) + 256 ^ i * (X[i] + 256 * valL (X.drop (i + 1))) := by
  have h1 := valL_append (X.take i) (X.drop i)
  rw [List.take_append_drop, List.length_take, Nat.min_eq_left (by omega), List.drop_eq_getElem_cons h] at h1
  exact h1
theorem cmp_lt (X Y : List Nat) (i : Nat) (hx : i < X.length) (hy : i < Y.length) (hX : ∀ d ∈ X, d < 256) (hd : X.drop (i + 1) = Y.drop (i + 1)) (h : X[i] < Y[i]) : valL X < valL Y := by
  have h1 := valL_lt (X.take i) (fun d hd => hX d (List.mem_of_mem_take hd))
  rw [List.length_take, Nat.min_eq_left (by omega)] at h1
  rw [valL_split X i hx, valL_split Y i hy, hd]
  generalize 256 ^ i = P at *
  have h2 : P * (X[i] + 256 * valL (Y.drop (i + 1)) + 1) ≤ P * (Y[i] + 256 * valL (Y.drop (i + 1))) := Nat.mul_le_mul_left P (by omega)
  rw [Nat.mul_add P _ 1] at h2
  omega
theorem be_byL (n : Nat) : ∀ k, be n k = ((byL n k).map UInt8.ofNat).reverse
  | 0 => rfl
  | k + 1 => by
    have e : UInt8.ofNat (n / 2 ^ (8 * k)) = UInt8.ofNat (n / 256 ^ k % 256) := by
      rw [show 2 ^ (8 * k) = 256 ^ k by rw [Nat.pow_mul]]
      apply UInt8.toNat_inj.1
      simp
    rw [be, byL, List.map_append, List.reverse_append, be_byL n k, e]
    rfl
/-- the number that bytes are, the highest first -/
def valB (b : List UInt8) : Nat := valL (b.reverse.map UInt8.toNat)
theorem valB_be (n k : Nat) : valB (be n k) = n % 256 ^ k := by
  rw [valB, be_byL, List.reverse_reverse, List.map_map]
  have : (byL n k).map (UInt8.toNat ∘ UInt8.ofNat) = byL n k := by
    rw [List.map_congr_left (g := id)]
    · simp
    · intro d hd
      have := byL_lt n k d hd
      simp; omega
  rw [this, valL_byL]
theorem be_valB (b : List UInt8) : be (valB b) b.length = b := by
  have h := byL_valL (b.reverse.map UInt8.toNat) (fun d hd => by
    simp only [List.mem_map] at hd
    obtain ⟨x, -, rfl⟩ := hd
    exact x.toNat_lt)
  rw [List.length_map, List.length_reverse] at h
  rw [be_byL, valB, h, List.map_map]
  have : (b.reverse).map (UInt8.ofNat ∘ UInt8.toNat) = b.reverse := by
    rw [List.map_congr_left (g := id)]
    · simp
    · intro d _; simp
  rw [this, List.reverse_reverse]
end Go.Proofs.Ytpcoonnfaoakhaa
namespace Go.Proofs.Ytpcoonnfaoakhaa
set_option maxRecDepth 100000
open Go Go.RowKit

/-- what 32 bytes are as a number; anything else is refused -/
def fromU (l : List UInt8) : U4 × Int := if l.length = 32 then (ofN (valB l), 0) else (U4.zero, 21)
theorem fromU_ok (l : List UInt8) : (fromU l).1.ok := by
  unfold fromU
  split
  · exact ofN_ok _
  · exact zero_ok
theorem fromU_cases (l : List UInt8) : ((fromU l).2 = 0 ∧ be (fromU l).1.nat 32 = l) ∨ (fromU l).2 = 21 := by
  unfold fromU
  by_cases h : l.length = 32
  · left
    rw [if_pos h]
    have hb := be_valB l
    rw [h] at hb
    have hlt : valB l < top := by
      have h1 := valB_be (valB l) 32
      rw [hb] at h1
      rw [top_pow, h1]
      exact Nat.mod_lt _ (Nat.pow_pos (by decide))
    refine ⟨rfl, ?_⟩
    show be (ofN (valB l)).nat 32 = l
    rw [nat_ofN hlt]
    exact hb
  · right
    rw [if_neg h]
theorem fromU_be {a : U4} (ha : a.ok) : fromU (be a.nat 32) = (a, 0) := by
  unfold fromU
  rw [if_pos (be_length _ _), valB_be, Nat.mod_eq_of_lt (by rw [← top_pow]; exact nat_lt ha), ofN_nat ha]
end Go.Proofs.Ytpcoonnfaoakhaa
