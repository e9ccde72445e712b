/- Adding, taking away and comparing byte by byte: plain mathematics. -/
import Derived.Test.YthiacmpkbioahaaDoorLimbV
namespace Go.Proofs.YthiacmpkbioahaaDoor

theorem valL_take (X : List Nat) (i : Nat) (h : i < X.length) : valL (X.take (i + 1)) = valL (X.take i) + 256 ^ i * X[i] := by
  rw [List.take_succ_eq_append_getElem h, valL_snoc, List.length_take, Nat.min_eq_left (by omega)]
theorem set_mid (z X : List Nat) (i v : Nat) (hz : z.length = i) (h : i < X.length) : (z ++ X.drop i).set i v = (z ++ [v]) ++ X.drop (i + 1) := by
  rw [List.set_append_right _ _ (by omega), hz, Nat.sub_self, List.drop_eq_getElem_cons h, List.set_cons_zero, List.append_assoc]
  rfl
theorem get_mid (z X : List Nat) (i : Nat) (hz : z.length = i) (h : i < X.length) : (z ++ X.drop i).getD i 0 = X[i] := by
  rw [List.getD_eq_getElem?_getD, List.getElem?_append_right (by omega), hz, Nat.sub_self, List.drop_eq_getElem_cons h]
  rfl
theorem add_step (z X Y : List Nat) (i c : Nat) (hz : z.length = i) (hx : i < X.length) (hy : i < Y.length) (hi : valL z + 256 ^ i * c = valL (X.take i) + valL (Y.take i)) :
    valL (z ++ [(X[i] + Y[i] + c) % 256]) + 256 ^ (i + 1) * ((X[i] + Y[i] + c) / 256) = valL (X.take (i + 1)) + valL (Y.take (i + 1)) := by
  rw [valL_snoc, valL_take X i hx, valL_take Y i hy, hz, Nat.pow_succ]
  generalize 256 ^ i = P at *
  have h : P * ((X[i] + Y[i] + c) % 256) + P * 256 * ((X[i] + Y[i] + c) / 256) = P * (X[i] + Y[i] + c) := by
    rw [Nat.mul_assoc, ← Nat.mul_add, Nat.mod_add_div]
  rw [Nat.mul_add, Nat.mul_add] at h
  omega
theorem sub_step (z X Y : List Nat) (i b d b' : Nat) (hz : z.length = i) (hx : i < X.length) (hy : i < Y.length) (hi : valL z + valL (Y.take i) = valL (X.take i) + 256 ^ i * b) (hd : d + Y[i] + b = X[i] + 256 * b') :
    valL (z ++ [d]) + valL (Y.take (i + 1)) = valL (X.take (i + 1)) + 256 ^ (i + 1) * b' := by
  rw [valL_snoc, valL_take X i hx, valL_take Y i hy, hz, Nat.pow_succ]
  generalize 256 ^ i = P at *
  have h : P * (d + Y[i] + b) = P * (X[i] + 256 * b') := by rw [hd]
  rw [Nat.mul_add, Nat.mul_add, Nat.mul_add, ← Nat.mul_assoc] at h
  omega
theorem valL_split (X : List Nat) (i : Nat) (h : i < X.length) : valL X = valL (X.take i) + 256 ^ i * (X[i] + 256 * valL (X.drop (i + 1))) := by
  have h1 := valL_append (X.take i) (X.drop i)
  rw [List.take_append_drop, List.length_take, Nat.min_eq_left (by omega), List.drop_eq_getElem_cons h] at h1
  exact h1
theorem cmp_lt (X Y : List Nat) (i : Nat) (hx : i < X.length) (hy : i < Y.length) (hX : ∀ d ∈ X, d < 256) (hd : X.drop (i + 1) = Y.drop (i + 1)) (h : X[i] < Y[i]) : valL X < valL Y := by
  have h1 := valL_lt (X.take i) (fun d hd => hX d (List.mem_of_mem_take hd))
  rw [List.length_take, Nat.min_eq_left (by omega)] at h1
  rw [valL_split X i hx, valL_split Y i hy, hd]
  generalize 256 ^ i = P at *
  have h2 : P * (X[i] + 256 * valL (Y.drop (i + 1)) + 1) ≤ P * (Y[i] + 256 * valL (Y.drop (i + 1))) := Nat.mul_le_mul_left P (by omega)
  rw [Nat.mul_add P _ 1] at h2
  omega
theorem be_byL (n : Nat) : ∀ k, be n k = ((byL n k).map UInt8.ofNat).reverse
  | 0 => rfl
  | k + 1 => by
    have e : UInt8.ofNat (n / 2 ^ (8 * k)) = UInt8.ofNat (n / 256 ^ k % 256) := by
      rw [show 2 ^ (8 * k) = 256 ^ k by rw [Nat.pow_mul]]
      apply UInt8.toNat_inj.1
      simp
    rw [be, byL, List.map_append, List.reverse_append, be_byL n k, e]
    rfl
/-- the number that bytes are, the highest first -/
def valB (b : List UInt8) : Nat := valL (b.reverse.map UInt8.toNat)
theorem valB_be (n k : Nat) : valB (be n k) = n % 256 ^ k := by
  rw [valB, be_byL, List.reverse_reverse, List.map_map]
  have : (byL n k).map (UInt8.toNat ∘ UInt8.ofNat) = byL n k := by
    rw [List.map_congr_left (g := id)]
    · simp
    · intro d hd
      have := byL_lt n k d hd
      simp; omega
  rw [this, valL_byL]
theorem be_valB (b : List UInt8) : be (valB b) b.length = b := by
  have h := byL_valL (b.reverse.map UInt8.toNat) (fun d hd => by
    simp only [List.mem_map] at hd
    obtain ⟨x, -, rfl⟩ := hd
    exact x.toNat_lt)
  rw [List.length_map, List.length_reverse] at h
  rw [be_byL, valB, h, List.map_map]
  have : (b.reverse).map (UInt8.ofNat ∘ UInt8.toNat) = b.reverse := by
    rw [List.map_congr_left (g := id)]
    · simp
    · intro d _; simp
  rw [this, List.reverse_reverse]
end Go.Proofs.YthiacmpkbioahaaDoor
