
/- Digits of whole numbers: plain mathematics, nothing of the program. -/
namespace Go.Proofs.YthiacmpkbioahaaDoor

def dg (n : Nat) : UInt8 := UInt8.ofNat (48 + n % 10)
/-- so many digits, the lowest first -/
def digN : Nat → Nat → List UInt8
  | 0, _ => []
  | k + 1, n => dg n :: digN k (n / 10)
/-- how many digits a number has -/
def ndigF : Nat → Nat → Nat
  | 0, _ => 1
  | f + 1, n => if n < 10 then 1 else 1 + ndigF f (n / 10)
def ndig (n : Nat) : Nat := ndigF 100 n
/-- a number's text -/
def printL (n : Nat) : List UInt8 := (digN (ndig n) n).reverse

theorem digN_length (k n : Nat) : (digN k n).length = k := by
  induction k generalizing n with
  | zero => rfl
  | succ k ih => simp [digN, ih]
theorem digN_add (a b n : Nat) : digN (a + b) n = digN a n ++ digN b (n / 10 ^ a) := by
  induction a generalizing n with
  | zero => simp [digN]
  | succ a ih =>
    rw [Nat.succ_add]
    simp only [digN, List.cons_append]
    rw [ih, Nat.div_div_eq_div_mul, Nat.pow_succ, Nat.mul_comm 10]
theorem digN_snoc (k n : Nat) : digN (k + 1) n = digN k n ++ [dg (n / 10 ^ k)] := by rw [digN_add k 1]; rfl
theorem digN_mod (k : Nat) : ∀ n, digN k (n % 10 ^ k) = digN k n := by
  induction k with
  | zero => intro n; rfl
  | succ k ih =>
    intro n
    have e1 : dg (n % 10 ^ (k + 1)) = dg n := by
      unfold dg
      rw [Nat.pow_succ, Nat.mul_comm, Nat.mod_mul_right_mod]
    have e2 : n % 10 ^ (k + 1) / 10 = n / 10 % 10 ^ k := by
      rw [Nat.pow_succ, Nat.mul_comm, Nat.mod_mul_right_div_self]
    simp only [digN]
    rw [e1, e2, ih]
theorem dg_toNat (n : Nat) : (dg n).toNat = 48 + n % 10 := by
  unfold dg
  rw [UInt8.toNat_ofNat']
  omega
/-- the last digit is 0: one digit less -/
theorem digN_strip {k n : Nat} (h : n < 10 ^ (k + 1)) (h0 : (dg (n / 10 ^ k)).toNat = 48) : n < 10 ^ k := by
  rw [dg_toNat] at h0
  have hp : 0 < 10 ^ k := Nat.pow_pos (by decide)
  have h1 : n / 10 ^ k < 10 := by
    rw [Nat.div_lt_iff_lt_mul hp, Nat.mul_comm, ← Nat.pow_succ]
    exact h
  have h2 : n / 10 ^ k = 0 := by
    generalize n / 10 ^ k = z at h0 h1 ⊢
    omega
  rcases Nat.div_eq_zero_iff.1 h2 with h3 | h3
  · omega
  · exact h3
theorem ndigF_eq : ∀ (f k n : Nat), k ≤ f → n < 10 ^ (k + 1) → (k = 0 ∨ (dg (n / 10 ^ k)).toNat ≠ 48) → ndigF f n = k + 1
  | 0, k, n, hk, h, _ => by
    obtain rfl : k = 0 := by omega
    rfl
  | f + 1, 0, n, _, h, _ => by
    have h1 : n < 10 := by simpa using h
    simp [ndigF, h1]
  | f + 1, k + 1, n, hk, h, hd => by
    have hd2 : (dg (n / 10 ^ (k + 1))).toNat ≠ 48 := by
      rcases hd with hd | hd
      · omega
      · exact hd
    have hge : ¬ n < 10 := by
      intro hlt
      apply hd2
      have : n / 10 ^ (k + 1) = 0 := by
        apply Nat.div_eq_of_lt
        have : 10 ^ 1 ≤ 10 ^ (k + 1) := Nat.pow_le_pow_right (by decide) (by omega)
        omega
      rw [this]
      rfl
    have hdiv : n / 10 < 10 ^ (k + 1) := by
      rw [Nat.div_lt_iff_lt_mul (by decide), ← Nat.pow_succ]
      exact h
    have ih := ndigF_eq f k (n / 10) (by omega) hdiv (.inr (by
      rw [Nat.div_div_eq_div_mul, Nat.mul_comm, ← Nat.pow_succ]
      exact hd2))
    simp only [ndigF, hge, if_false, ih]
    omega
theorem printL_eq {k n : Nat} (hk : k ≤ 100) (h : n < 10 ^ (k + 1)) (hd : k = 0 ∨ (dg (n / 10 ^ k)).toNat ≠ 48) : printL n = (digN (k + 1) n).reverse := by
  unfold printL ndig
  rw [ndigF_eq 100 k n hk h hd]
theorem rev_step (l : List UInt8) {i : Nat} (h : i < l.length) : (List.replicate (l.length - i) (0 : UInt8) ++ (l.take i).reverse).set (l.length - 1 - i) l[i] = List.replicate (l.length - (i + 1)) (0 : UInt8) ++ (l.take (i + 1)).reverse := by
  have e1 : l.length - i = (l.length - (i + 1)) + 1 := by omega
  have e2 : l.length - 1 - i = l.length - (i + 1) := by omega
  rw [e1, e2, List.replicate_succ', List.append_assoc, List.set_append_right _ _ (by simp)]
  simp only [List.length_replicate, Nat.sub_self, List.singleton_append, List.set_cons_zero]
  rw [List.take_succ_eq_append_getElem h, List.reverse_append]
  rfl
/-- 256 bits have at most 78 digits -/
theorem digits_most {n j : Nat} (h : n < 115792089237316195423570985008687907853269984665640564039457584007913129639936) (hn : n / 10 ^ (19 * j) ≠ 0) : j ≤ 4 := by
  apply Classical.byContradiction
  intro hj
  apply hn
  apply Nat.div_eq_of_lt
  have h1 : 10 ^ (19 * 5) ≤ 10 ^ (19 * j) := Nat.pow_le_pow_right (by decide) (by omega)
  have h2 : (115792089237316195423570985008687907853269984665640564039457584007913129639936 : Nat) ≤ 10 ^ (19 * 5) := by decide
  exact Nat.lt_of_lt_of_le h (Nat.le_trans h2 h1)
end Go.Proofs.YthiacmpkbioahaaDoor
