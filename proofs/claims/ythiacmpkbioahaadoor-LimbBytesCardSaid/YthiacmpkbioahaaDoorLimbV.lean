/- Whole numbers as rows of bytes, the lowest first: plain mathematics. -/
import Derived.Test.YthiacmpkbioahaaDoorLimbS
import Derived.Test.YthiacmpkbioahaaDoorBe
namespace Go.Proofs.YthiacmpkbioahaaDoor

def byL (n : Nat) : Nat → List Nat
  | 0 => []
  | k + 1 => byL n k ++ [n / 256 ^ k % 256]
def valL : List Nat → Nat
  | [] => 0
  | d :: r => d + 256 * valL r
theorem byL_length (n k : Nat) : (byL n k).length = k := by induction k <;> simp [byL, *]
theorem byL_lt (n k : Nat) : ∀ d ∈ byL n k, d < 256 := by
  induction k with
  | zero => intro d hd; simp [byL] at hd
  | succ k ih =>
    intro d hd
    rw [byL, List.mem_append] at hd
    rcases hd with hd | hd
    · exact ih d hd
    · simp only [List.mem_cons, List.not_mem_nil, or_false] at hd; subst hd; exact Nat.mod_lt _ (by decide)
theorem valL_snoc (l : List Nat) (d : Nat) : valL (l ++ [d]) = valL l + 256 ^ l.length * d := by
  induction l with
  | nil => simp [valL]
  | cons x r ih =>
    simp only [List.cons_append, valL, ih, List.length_cons, Nat.pow_succ, Nat.mul_add]
    rw [show 256 * (256 ^ r.length * d) = 256 ^ r.length * 256 * d by rw [← Nat.mul_assoc, Nat.mul_comm 256]]
    omega
theorem valL_byL (n k : Nat) : valL (byL n k) = n % 256 ^ k := by
  induction k with
  | zero => simp [byL, valL, Nat.mod_one]
  | succ k ih => rw [byL, valL_snoc, ih, byL_length, Nat.pow_succ, Nat.mod_mul]
theorem valL_lt (l : List Nat) (h : ∀ d ∈ l, d < 256) : valL l < 256 ^ l.length := by
  induction l with
  | nil => simp [valL]
  | cons x r ih =>
    have h1 := ih fun d hd => h d (List.mem_cons_of_mem _ hd)
    have h2 := h x (List.mem_cons_self ..)
    simp only [valL, List.length_cons, Nat.pow_succ]
    omega
theorem valL_append (l m : List Nat) : valL (l ++ m) = valL l + 256 ^ l.length * valL m := by
  induction l with
  | nil => simp [valL]
  | cons x r ih =>
    simp only [List.cons_append, valL, ih, List.length_cons, Nat.pow_succ, Nat.mul_add]
    rw [show 256 * (256 ^ r.length * valL m) = 256 ^ r.length * 256 * valL m by rw [← Nat.mul_assoc, Nat.mul_comm 256]]
    omega
theorem valL_inj : ∀ (l m : List Nat), l.length = m.length → (∀ d ∈ l, d < 256) → (∀ d ∈ m, d < 256) → valL l = valL m → l = m
  | [], [], _, _, _, _ => rfl
  | [], y :: s, h, _, _, _ => by simp at h
  | x :: r, [], h, _, _, _ => by simp at h
  | x :: r, y :: s, h, hl, hm, hv => by
    have h1 := hl x (List.mem_cons_self ..)
    have h2 := hm y (List.mem_cons_self ..)
    simp only [valL] at hv
    have hxy : x = y := by omega
    subst hxy
    rw [valL_inj r s (by simpa using h) (fun d hd => hl d (List.mem_cons_of_mem _ hd)) (fun d hd => hm d (List.mem_cons_of_mem _ hd)) (by omega)]
theorem byL_valL (l : List Nat) (h : ∀ d ∈ l, d < 256) : byL (valL l) l.length = l :=
  valL_inj _ _ (byL_length _ _) (byL_lt _ _) h (by rw [valL_byL, Nat.mod_eq_of_lt (valL_lt l h)])
theorem top_pow : top = 256 ^ 32 := by decide +kernel
theorem nat_long {x : U4} (h : x.ok) : valL (byL x.nat 32) = x.nat := by
  have := nat_lt h
  rw [valL_byL, Nat.mod_eq_of_lt (by rw [← top_pow]; exact this)]
/-- a byte of a number of 64 bits is one of the whole -/
theorem part8 (N i k : Nat) (hk : k < 8) : N / 256 ^ (8 * i) % 18446744073709551616 / 256 ^ k % 256 = N / 256 ^ (8 * i + k) % 256 := by
  rw [Nat.pow_add, ← Nat.div_div_eq_div_mul]
  generalize N / 256 ^ (8 * i) = M
  have hk' : k = 0 ∨ k = 1 ∨ k = 2 ∨ k = 3 ∨ k = 4 ∨ k = 5 ∨ k = 6 ∨ k = 7 := by omega
  rcases hk' with rfl | rfl | rfl | rfl | rfl | rfl | rfl | rfl <;> simp only [Nat.reducePow] <;> omega
theorem pow8 : 256 ^ (8 * 0) = 1 ∧ 256 ^ (8 * 1) = 18446744073709551616 ∧ 256 ^ (8 * 2) = 340282366920938463463374607431768211456 ∧ 256 ^ (8 * 3) = 6277101735386680763835789423207666416102355444464034512896 := by decide +kernel
def U4.at' (x : U4) : Nat → Nat
  | 0 => x.a
  | 1 => x.b
  | 2 => x.c
  | _ => x.d
theorem at_part {x : U4} (h : x.ok) (i : Nat) (hi : i < 4) : x.at' i = x.nat / 256 ^ (8 * i) % 18446744073709551616 := by
  obtain ⟨h1, h2, h3, h4⟩ := h
  obtain ⟨p0, p1, p2, p3⟩ := pow8
  have hi' : i = 0 ∨ i = 1 ∨ i = 2 ∨ i = 3 := by omega
  obtain ⟨a, b, c, d⟩ := x
  simp only at h1 h2 h3 h4
  rcases hi' with rfl | rfl | rfl | rfl
  · rw [p0]; simp only [U4.at', U4.nat]; omega
  · rw [p1]; simp only [U4.at', U4.nat]; omega
  · rw [p2]; simp only [U4.at', U4.nat]; omega
  · rw [p3]; simp only [U4.at', U4.nat]; omega
theorem at_byte {x : U4} (h : x.ok) (i k : Nat) (hi : i < 4) (hk : k < 8) : x.at' i / 256 ^ k % 256 = x.nat / 256 ^ (8 * i + k) % 256 := by
  rw [at_part h i hi, part8 _ _ _ hk]
end Go.Proofs.YthiacmpkbioahaaDoor
