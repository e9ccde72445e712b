/- Texts joined: LimbS0, LimbA0. -/
import Derived.Test.YtniclaapiabmdaaGreatDoorM01
import Derived.Deep.RegionHeldLaw
import Derived.Shelf.Spec.BitsCarry
import Derived.Stop.BytesEq
namespace Go.Proofs.YtniclaapiabmdaaGreatDoor
set_option maxRecDepth 100000

/-- four numbers of 64 bits, the lowest first -/
structure U4 where
  a : Nat
  b : Nat
  c : Nat
  d : Nat

namespace U4
def ok (x : U4) : Prop := x.a < 18446744073709551616 ∧ x.b < 18446744073709551616 ∧ x.c < 18446744073709551616 ∧ x.d < 18446744073709551616
/-- the number that they are -/
def nat (x : U4) : Nat := x.a + 18446744073709551616 * x.b + 340282366920938463463374607431768211456 * x.c + 6277101735386680763835789423207666416102355444464034512896 * x.d
def zero : U4 := ⟨0, 0, 0, 0⟩
end U4
/-- the first number that doesn't fit -/
def top : Nat := 115792089237316195423570985008687907853269984665640564039457584007913129639936
def ofN (n : Nat) : U4 := ⟨n % 18446744073709551616, n / 18446744073709551616 % 18446744073709551616, n / 340282366920938463463374607431768211456 % 18446744073709551616, n / 6277101735386680763835789423207666416102355444464034512896 % 18446744073709551616⟩

theorem ofN_ok (n : Nat) : (ofN n).ok := ⟨Nat.mod_lt _ (by decide), Nat.mod_lt _ (by decide), Nat.mod_lt _ (by decide), Nat.mod_lt _ (by decide)⟩
theorem nat_lt {x : U4} (h : x.ok) : x.nat < top := by
  obtain ⟨h1, h2, h3, h4⟩ := h
  unfold U4.nat top
  omega
theorem nat_ofN {n : Nat} (h : n < top) : (ofN n).nat = n := by
  unfold top at h
  unfold U4.nat ofN
  simp only
  omega
theorem nat_inj {x y : U4} (hx : x.ok) (hy : y.ok) (h : x.nat = y.nat) : x = y := by
  obtain ⟨h1, h2, h3, h4⟩ := hx
  obtain ⟨k1, k2, k3, k4⟩ := hy
  obtain ⟨a, b, c, d⟩ := x
  obtain ⟨a', b', c', d'⟩ := y
  simp only [U4.nat] at *
  simp only [U4.mk.injEq]
  omega
theorem ofN_nat {x : U4} (h : x.ok) : ofN x.nat = x := nat_inj (ofN_ok _) h (nat_ofN (nat_lt h))
theorem zero_ok : U4.zero.ok := by unfold U4.ok U4.zero; decide
theorem zero_nat : U4.zero.nat = 0 := rfl
/-- adding: what is there and what is carried behind k steps -/
def addSt (x y : U4) : Nat → U4 × Nat
  | 0 => (⟨0, 0, 0, 0⟩, 0)
  | 1 => (⟨(x.a + y.a + 0) % 18446744073709551616, 0, 0, 0⟩, (x.a + y.a + 0) / 18446744073709551616)
  | 2 => (⟨(addSt x y 1).1.a, (x.b + y.b + (addSt x y 1).2) % 18446744073709551616, 0, 0⟩, (x.b + y.b + (addSt x y 1).2) / 18446744073709551616)
  | 3 => (⟨(addSt x y 2).1.a, (addSt x y 2).1.b, (x.c + y.c + (addSt x y 2).2) % 18446744073709551616, 0⟩, (x.c + y.c + (addSt x y 2).2) / 18446744073709551616)
  | 4 => (⟨(addSt x y 3).1.a, (addSt x y 3).1.b, (addSt x y 3).1.c, (x.d + y.d + (addSt x y 3).2) % 18446744073709551616⟩, (x.d + y.d + (addSt x y 3).2) / 18446744073709551616)
  | _ => (⟨0, 0, 0, 0⟩, 0)
/-- the sum, and whether it fits -/
def addU (x y : U4) : U4 × Bool := if x.nat + y.nat < top then (ofN (x.nat + y.nat), true) else (U4.zero, false)
theorem add_end {x y : U4} (hx : x.ok) (hy : y.ok) : (addSt x y 4).1.nat + top * (addSt x y 4).2 = x.nat + y.nat ∧ (addSt x y 4).1.ok ∧ (addSt x y 4).2 ≤ 1 := by
  obtain ⟨h1, h2, h3, h4⟩ := hx
  obtain ⟨k1, k2, k3, k4⟩ := hy
  obtain ⟨a, b, c, d⟩ := x
  obtain ⟨a', b', c', d'⟩ := y
  simp only [addSt, U4.nat, U4.ok, top] at *
  omega
theorem add_fits {x y : U4} (hx : x.ok) (hy : y.ok) (h : (addSt x y 4).2 = 0) : addU x y = ((addSt x y 4).1, true) := by
  obtain ⟨h1, h2, _⟩ := add_end hx hy
  have h3 := nat_lt h2
  rw [h, Nat.mul_zero, Nat.add_zero] at h1
  unfold addU
  rw [← h1, if_pos h3, ofN_nat h2]
theorem add_over {x y : U4} (hx : x.ok) (hy : y.ok) (h : (addSt x y 4).2 ≠ 0) : addU x y = (U4.zero, false) := by
  obtain ⟨h1, h2, h4⟩ := add_end hx hy
  have h5 : (addSt x y 4).2 = 1 := by omega
  rw [h5, Nat.mul_one] at h1
  unfold addU
  rw [if_neg (by omega)]

/-- taking away -/
def subSt (x y : U4) : Nat → U4 × Nat
  | 0 => (⟨0, 0, 0, 0⟩, 0)
  | 1 => (⟨(x.a + 18446744073709551616 - y.a - 0) % 18446744073709551616, 0, 0, 0⟩, if x.a < y.a + 0 then 1 else 0)
  | 2 => (⟨(subSt x y 1).1.a, (x.b + 18446744073709551616 - y.b - (subSt x y 1).2) % 18446744073709551616, 0, 0⟩, if x.b < y.b + (subSt x y 1).2 then 1 else 0)
  | 3 => (⟨(subSt x y 2).1.a, (subSt x y 2).1.b, (x.c + 18446744073709551616 - y.c - (subSt x y 2).2) % 18446744073709551616, 0⟩, if x.c < y.c + (subSt x y 2).2 then 1 else 0)
  | 4 => (⟨(subSt x y 3).1.a, (subSt x y 3).1.b, (subSt x y 3).1.c, (x.d + 18446744073709551616 - y.d - (subSt x y 3).2) % 18446744073709551616⟩, if x.d < y.d + (subSt x y 3).2 then 1 else 0)
  | _ => (⟨0, 0, 0, 0⟩, 0)
def subU (x y : U4) : U4 × Bool := if y.nat ≤ x.nat then (ofN (x.nat - y.nat), true) else (U4.zero, false)
theorem sub_end {x y : U4} (hx : x.ok) (hy : y.ok) : (subSt x y 4).1.nat + y.nat = x.nat + top * (subSt x y 4).2 ∧ (subSt x y 4).1.ok ∧ (subSt x y 4).2 ≤ 1 := by
  obtain ⟨h1, h2, h3, h4⟩ := hx
  obtain ⟨k1, k2, k3, k4⟩ := hy
  obtain ⟨a, b, c, d⟩ := x
  obtain ⟨a', b', c', d'⟩ := y
  simp only [subSt, U4.nat, U4.ok, top] at *
  split <;> split <;> split <;> split <;> omega
theorem sub_fits {x y : U4} (hx : x.ok) (hy : y.ok) (h : (subSt x y 4).2 = 0) : subU x y = ((subSt x y 4).1, true) := by
  obtain ⟨h1, h2, _⟩ := sub_end hx hy
  rw [h, Nat.mul_zero, Nat.add_zero] at h1
  unfold subU
  rw [if_pos (by omega), show x.nat - y.nat = (subSt x y 4).1.nat by omega, ofN_nat h2]
theorem sub_over {x y : U4} (hx : x.ok) (hy : y.ok) (h : (subSt x y 4).2 ≠ 0) : subU x y = (U4.zero, false) := by
  obtain ⟨h1, h2, h4⟩ := sub_end hx hy
  have h5 : (subSt x y 4).2 = 1 := by omega
  have h6 := nat_lt h2
  rw [h5, Nat.mul_one] at h1
  unfold subU
  rw [if_neg (by omega)]

/-- times a number of 64 bits -/
def mulSt (x : U4) (k : Nat) : Nat → U4 × Nat
  | 0 => (⟨0, 0, 0, 0⟩, 0)
  | 1 => (⟨(x.a * k + 0) % 18446744073709551616, 0, 0, 0⟩, (x.a * k + 0) / 18446744073709551616)
  | 2 => (⟨(mulSt x k 1).1.a, (x.b * k + (mulSt x k 1).2) % 18446744073709551616, 0, 0⟩, (x.b * k + (mulSt x k 1).2) / 18446744073709551616)
  | 3 => (⟨(mulSt x k 2).1.a, (mulSt x k 2).1.b, (x.c * k + (mulSt x k 2).2) % 18446744073709551616, 0⟩, (x.c * k + (mulSt x k 2).2) / 18446744073709551616)
  | 4 => (⟨(mulSt x k 3).1.a, (mulSt x k 3).1.b, (mulSt x k 3).1.c, (x.d * k + (mulSt x k 3).2) % 18446744073709551616⟩, (x.d * k + (mulSt x k 3).2) / 18446744073709551616)
  | _ => (⟨0, 0, 0, 0⟩, 0)
def mulU (x : U4) (k : Nat) : U4 × Bool := if x.nat * k < top then (ofN (x.nat * k), true) else (U4.zero, false)
end Go.Proofs.YtniclaapiabmdaaGreatDoor
namespace Go.Proofs.YtniclaapiabmdaaGreatDoor
set_option maxRecDepth 100000

def byL (n : Nat) : Nat → List Nat
  | 0 => []
  | k + 1 => byL n k ++ [n / 256 ^ k % 256]
def valL : List Nat → Nat
  | [] => 0
  | d :: r => d + 256 * valL r
theorem byL_length (n k : Nat) : (byL n k).length = k := by induction k <;> simp [byL, *]
theorem byL_lt (n k : Nat) : ∀ d ∈ byL n k, d < 256 := by
  induction k with
  | zero => intro d hd; simp [byL] at hd
  | succ k ih =>
    intro d hd
    rw [byL, List.mem_append] at hd
    rcases hd with hd | hd
    · exact ih d hd
    · simp only [List.mem_cons, List.not_mem_nil, or_false] at hd; subst hd; exact Nat.mod_lt _ (by decide)
theorem valL_snoc (l : List Nat) (d : Nat) : valL (l ++ [d]) = valL l + 256 ^ l.length * d := by
  induction l with
  | nil => simp [valL]
  | cons x r ih =>
    simp only [List.cons_append, valL, ih, List.length_cons, Nat.pow_succ, Nat.mul_add]
    rw [show 256 * (256 ^ r.length * d) = 256 ^ r.length * 256 * d by rw [← Nat.mul_assoc, Nat.mul_comm 256]]
    omega
theorem valL_byL (n k : Nat) : valL (byL n k) = n % 256 ^ k := by
  induction k with
  | zero => simp [byL, valL, Nat.mod_one]
  | succ k ih => rw [byL, valL_snoc, ih, byL_length, Nat.pow_succ, Nat.mod_mul]
theorem valL_lt (l : List Nat) (h : ∀ d ∈ l, d < 256) : valL l < 256 ^ l.length := by
  induction l with
  | nil => simp [valL]
  | cons x r ih =>
    have h1 := ih fun d hd => h d (List.mem_cons_of_mem _ hd)
    have h2 := h x (List.mem_cons_self ..)
    simp only [valL, List.length_cons, Nat.pow_succ]
    omega
theorem valL_append (l m : List Nat) : valL (l ++ m) = valL l + 256 ^ l.length * valL m := by
  induction l with
  | nil => simp [valL]
  | cons x r ih =>
    simp only [List.cons_append, valL, ih, List.length_cons, Nat.pow_succ, Nat.mul_add]
    rw [show 256 * (256 ^ r.length * valL m) = 256 ^ r.length * 256 * valL m by rw [← Nat.mul_assoc, Nat.mul_comm 256]]
    omega
theorem top_pow : top = 256 ^ 32 := by decide +kernel
theorem nat_long {x : U4} (h : x.ok) : valL (byL x.nat 32) = x.nat := by
  have := nat_lt h
  rw [valL_byL, Nat.mod_eq_of_lt (by rw [← top_pow]; exact this)]
/-- a byte of a number of 64 bits is one of the whole -/
theorem part8 (N i k : Nat) (hk : k < 8) : N / 256 ^ (8 * i) % 18446744073709551616 / 256 ^ k % 256 = N / 256 ^ (8 * i + k) % 256 := by
  rw [Nat.pow_add, ← Nat.div_div_eq_div_mul]
  generalize N / 256 ^ (8 * i) = M
  have hk' : k = 0 ∨ k = 1 ∨ k = 2 ∨ k = 3 ∨ k = 4 ∨ k = 5 ∨ k = 6 ∨ k = 7 := by omega
  rcases hk' with rfl | rfl | rfl | rfl | rfl | rfl | rfl | rfl <;> simp only [Nat.reducePow] <;> omega
theorem pow8 : 256 ^ (8 * 0) = 1 ∧ 256 ^ (8 * 1) = 18446744073709551616 ∧ 256 ^ (8 * 2) = 340282366920938463463374607431768211456 ∧ 256 ^ (8 * 3) = 6277101735386680763835789423207666416102355444464034512896 := by decide +kernel
def U4.at' (x : U4) : Nat → Nat
  | 0 => x.a
  | 1 => x.b
  | 2 => x.c
  | _ => x.d
theorem at_part {x : U4} (h : x.ok) (i : Nat) (hi : i < 4) : x.at' i = x.nat / 256 ^ (8 * i) % 18446744073709551616 := by
  obtain ⟨h1, h2, h3, h4⟩ := h
  obtain ⟨p0, p1, p2, p3⟩ := pow8
  have hi' : i = 0 ∨ i = 1 ∨ i = 2 ∨ i = 3 := by omega
  obtain ⟨a, b, c, d⟩ := x
  simp only at h1 h2 h3 h4
  rcases hi' with rfl | rfl | rfl | rfl
  · rw [p0]; simp only [U4.at', U4.nat]; omega
  · rw [p1]; simp only [U4.at', U4.nat]; omega
  · rw [p2]; simp only [U4.at', U4.nat]; omega
  · rw [p3]; simp only [U4.at', U4.nat]; omega
theorem at_byte {x : U4} (h : x.ok) (i k : Nat) (hi : i < 4) (hk : k < 8) : x.at' i / 256 ^ k % 256 = x.nat / 256 ^ (8 * i + k) % 256 := by
  rw [at_part h i hi, part8 _ _ _ hk]
end Go.Proofs.YtniclaapiabmdaaGreatDoor
namespace Go.Proofs.YtniclaapiabmdaaGreatDoor
set_option maxRecDepth 100000

theorem valL_take (X : List Nat) (i : Nat) (h : i < X.length) : valL (X.take (i + 1)) = valL (X.take i) + 256 ^ i * X[i] := by
  rw [List.take_succ_eq_append_getElem h, valL_snoc, List.length_take, Nat.min_eq_left (by omega)]
theorem set_mid (z X : List Nat) (i v : Nat) (hz : z.length = i) (h : i < X.length) : (z ++ X.drop i).set i v = (z ++ [v]) ++ X.drop (i + 1) := by
  rw [List.set_append_right _ _ (by omega), hz, Nat.sub_self, List.drop_eq_getElem_cons h, List.set_cons_zero, List.append_assoc]
  rfl
theorem get_mid (z X : List Nat) (i : Nat) (hz : z.length = i) (h : i < X.length) : (z ++ X.drop i).getD i 0 = X[i] := by
  rw [List.getD_eq_getElem?_getD, List.getElem?_append_right (by omega), hz, Nat.sub_self, List.drop_eq_getElem_cons h]
  rfl
theorem add_step (z X Y : List Nat) (i c : Nat) (hz : z.length = i) (hx : i < X.length) (hy : i < Y.length) (hi : valL z + 256 ^ i * c = valL (X.take i) + valL (Y.take i)) :
    valL (z ++ [(X[i] + Y[i] + c) % 256]) + 256 ^ (i + 1) * ((X[i] + Y[i] + c) / 256) = valL (X.take (i + 1)) + valL (Y.take (i + 1)) := by
  rw [valL_snoc, valL_take X i hx, valL_take Y i hy, hz, Nat.pow_succ]
  generalize 256 ^ i = P at *
  have h : P * ((X[i] + Y[i] + c) % 256) + P * 256 * ((X[i] + Y[i] + c) / 256) = P * (X[i] + Y[i] + c) := by
    rw [Nat.mul_assoc, ← Nat.mul_add, Nat.mod_add_div]
  rw [Nat.mul_add, Nat.mul_add] at h
  omega
theorem sub_step (z X Y : List Nat) (i b d b' : Nat) (hz : z.length = i) (hx : i < X.length) (hy : i < Y.length) (hi : valL z + valL (Y.take i) = valL (X.take i) + 256 ^ i * b) (hd : d + Y[i] + b = X[i] + 256 * b') :
    valL (z ++ [d]) + valL (Y.take (i + 1)) = valL (X.take (i + 1)) + 256 ^ (i + 1) * b' := by
  rw [valL_snoc, valL_take X i hx, valL_take Y i hy, hz, Nat.pow_succ]
  generalize 256 ^ i = P at *
  have h : P * (d + Y[i] + b) = P * (X[i] + 256 * b') := by rw [hd]
  rw [Nat.mul_add, Nat.mul_add, Nat.mul_add, ← Nat.mul_assoc] at h
  omega
theorem valL_split (X : List Nat) (i : Nat) (h : i < X.length) : valL X = valL (X.take i) + 256 ^ i * (X[i] + 256 * valL (X.drop (i + 1))) := by
  have h1 := valL_append (X.take i) (X.drop i)
  rw [List.take_append_drop, List.length_take, Nat.min_eq_left (by omega), List.drop_eq_getElem_cons h] at h1
  exact h1
theorem cmp_lt (X Y : List Nat) (i : Nat) (hx : i < X.length) (hy : i < Y.length) (hX : ∀ d ∈ X, d < 256) (hd : X.drop (i + 1) = Y.drop (i + 1)) (h : X[i] < Y[i]) : valL X < valL Y := by
  have h1 := valL_lt (X.take i) (fun d hd => hX d (List.mem_of_mem_take hd))
  rw [List.length_take, Nat.min_eq_left (by omega)] at h1
  rw [valL_split X i hx, valL_split Y i hy, hd]
  generalize 256 ^ i = P at *
  have h2 : P * (X[i] + 256 * valL (Y.drop (i + 1)) + 1) ≤ P * (Y[i] + 256 * valL (Y.drop (i + 1))) := Nat.mul_le_mul_left P (by omega)
  rw [Nat.mul_add P _ 1] at h2
  omega
theorem be_byL (n : Nat) : ∀ k, be n k = ((byL n k).map UInt8.ofNat).reverse
  | 0 => rfl
  | k + 1 => by
    have e : UInt8.ofNat (n / 2 ^ (8 * k)) = UInt8.ofNat (n / 256 ^ k % 256) := by
      rw [show 2 ^ (8 * k) = 256 ^ k by rw [Nat.pow_mul]]
      apply UInt8.toNat_inj.1
      simp
    rw [be, byL, List.map_append, List.reverse_append, be_byL n k, e]
    rfl
/-- the number that bytes are, the highest first -/
def valB (b : List UInt8) : Nat := valL (b.reverse.map UInt8.toNat)
theorem valB_be (n k : Nat) : valB (be n k) = n % 256 ^ k := by
  rw [valB, be_byL, List.reverse_reverse, List.map_map]
  have : (byL n k).map (UInt8.toNat ∘ UInt8.ofNat) = byL n k := by
    rw [List.map_congr_left (g := id)]
    · simp
    · intro d hd
      have := byL_lt n k d hd
      simp; omega
  rw [this, valL_byL]
end Go.Proofs.YtniclaapiabmdaaGreatDoor
namespace Go.Proofs.YtniclaapiabmdaaGreatDoor
set_option maxRecDepth 100000
open Go Go.RowKit

/-- what 32 bytes are as a number; anything else is refused -/
def fromU (l : List UInt8) : U4 × Int := if l.length = 32 then (ofN (valB l), 0) else (U4.zero, 21)
theorem fromU_ok (l : List UInt8) : (fromU l).1.ok := by
  unfold fromU
  split
  · exact ofN_ok _
  · exact zero_ok
theorem fromU_be {a : U4} (ha : a.ok) : fromU (be a.nat 32) = (a, 0) := by
  unfold fromU
  rw [if_pos (be_length _ _), valB_be, Nat.mod_eq_of_lt (by rw [← top_pow]; exact nat_lt ha), ofN_nat ha]
end Go.Proofs.YtniclaapiabmdaaGreatDoor
namespace Go.Proofs.YtniclaapiabmdaaGreatDoor
set_option maxRecDepth 100000
open Go.RowKit

def U4.cells (x : U4) : Array Value := #[.int .u64 (x.a : Int), .int .u64 (x.b : Int), .int .u64 (x.c : Int), .int .u64 (x.d : Int)]
def U4.val (x : U4) : Value := .agg x.cells

theorem add64 (a b c : Nat) (hc : c ≤ 1) (W : World) : (callFunc 140 #[.int .u64 (a : Int), .int .u64 (b : Int), .int .u64 (c : Int)]).run Tryz.prog W =
    .ok (.value (.tuple #[.int .u64 (((a + b + c) % 18446744073709551616 : Nat) : Int), .int .u64 (((a + b + c) / 18446744073709551616 : Nat) : Int)])) W := by
  rw [run_callFunc_extern Tryz.func140 (by kernel_rfl) (by kernel_rfl) (by kernel_rfl) (e := add64Entry) (by kernel_rfl), run_add64 a b c (by omega) (by omega) (by omega) (by omega)]
  simp only [Result.andThen]
  congr 5 <;> omega

def LBlk (w : World) (g : Nat) (cs : Array Value) : Prop := w.heap[g]? = some (.cells cs 25 (0, 0))

/-- the number at a place -/
def U4.at (x : U4) : Nat → Nat
  | 0 => x.a
  | 1 => x.b
  | 2 => x.c
  | _ => x.d
theorem LBlk.cell {w : World} {g : Nat} {cs : Array Value} (h : LBlk w g cs) (i : Nat) : w.cell? ⟨g, i, none⟩ = cs[i]? := blk_cell h i
theorem LBlk.free {w : World} {g : Nat} {cs : Array Value} (h : LBlk w g cs) (i : Nat) : w.frozen? ⟨g, i, none⟩ = false := blk_free h i
theorem LBlk.new (w : World) (cs : Array Value) : LBlk (w.alloc (.cells cs 25)) w.heap.size cs := heap_alloc_new w _
theorem LBlk.lt {w : World} {g : Nat} {cs : Array Value} (h : LBlk w g cs) : g < w.heap.size := blk_lt h
theorem LBlk.alloc {w : World} {g : Nat} {cs : Array Value} (h : LBlk w g cs) (o : Obj) : LBlk (w.alloc o) g cs := (Below.heap_alloc w o g h.lt).trans h
theorem LBlk.drew {w : World} {g : Nat} {cs : Array Value} (h : LBlk w g cs) : LBlk w.drew g cs := h
theorem LBlk.set_ {w : World} {g : Nat} {cs : Array Value} (h : LBlk w g cs) (i : Nat) (u : Value) : LBlk (w.setCell ⟨g, i, none⟩ u) g (cs.setIfInBounds i u) := blk_set h i u
theorem LBlk.far {w : World} {g g' : Nat} {cs : Array Value} (h : LBlk w g cs) (hne : g ≠ g') (i : Nat) (u : Value) : LBlk (w.setCell ⟨g', i, none⟩ u) g cs := (Below.heap_setCell w ⟨g', i, none⟩ u g hne).trans h
theorem LBlk.below {w w' : World} {g B : Nat} {cs : Array Value} (h : LBlk w g cs) (hb : Below B w w') (hg : g < B) : LBlk w' g cs := (hb.block g hg).trans h
theorem U4.cell_at (x : U4) {k : Nat} (h : k < 4) : x.cells[k]? = some (.int .u64 (x.at k : Int)) := by
  have : k = 0 ∨ k = 1 ∨ k = 2 ∨ k = 3 := by omega
  rcases this with rfl | rfl | rfl | rfl <;> rfl
theorem addSt_succ (x y : U4) {k : Nat} (h : k < 4) : (addSt x y (k + 1)).1.cells = (addSt x y k).1.cells.setIfInBounds k (.int .u64 (((x.at k + y.at k + (addSt x y k).2) % 18446744073709551616 : Nat) : Int)) ∧
    (addSt x y (k + 1)).2 = (x.at k + y.at k + (addSt x y k).2) / 18446744073709551616 := by
  have : k = 0 ∨ k = 1 ∨ k = 2 ∨ k = 3 := by omega
  rcases this with rfl | rfl | rfl | rfl <;> constructor <;> simp [addSt, U4.cells, U4.at]
theorem addSt_le {x y : U4} (hx : x.ok) (hy : y.ok) {k : Nat} (h : k ≤ 4) : (addSt x y k).2 ≤ 1 := by
  obtain ⟨h1, h2, h3, h4⟩ := hx
  obtain ⟨k1, k2, k3, k4⟩ := hy
  have : k = 0 ∨ k = 1 ∨ k = 2 ∨ k = 3 ∨ k = 4 := by omega
  obtain ⟨a, b, c, d⟩ := x
  obtain ⟨a', b', c', d'⟩ := y
  rcases this with rfl | rfl | rfl | rfl | rfl <;> simp only [addSt] at * <;> omega

theorem four (w : World) (X Y Z S : Array Value) : LBlk ((((w.alloc (.cells X 25)).alloc (.cells Y 25)).alloc (.cells Z 25)).alloc (.cells S 25)) w.heap.size X ∧
    LBlk ((((w.alloc (.cells X 25)).alloc (.cells Y 25)).alloc (.cells Z 25)).alloc (.cells S 25)) (w.heap.size + 1) Y ∧
    LBlk ((((w.alloc (.cells X 25)).alloc (.cells Y 25)).alloc (.cells Z 25)).alloc (.cells S 25)) (w.heap.size + 1 + 1) Z ∧
    LBlk ((((w.alloc (.cells X 25)).alloc (.cells Y 25)).alloc (.cells Z 25)).alloc (.cells S 25)) (w.heap.size + 1 + 1 + 1) S ∧
    Below w.heap.size w ((((w.alloc (.cells X 25)).alloc (.cells Y 25)).alloc (.cells Z 25)).alloc (.cells S 25)) := by
  refine ⟨(((LBlk.new w X).alloc _).alloc _).alloc _, ?_, ?_, ?_, ((((Below.refl _ _).alloc (Nat.le_refl _) _).alloc (by simp) _).alloc (by simp; omega) _).alloc (by simp; omega) _⟩
  · have := ((LBlk.new (w.alloc (.cells X 25)) Y).alloc (.cells Z 25)).alloc (.cells S 25)
    simpa using this
  · have := (LBlk.new ((w.alloc (.cells X 25)).alloc (.cells Y 25)) Z).alloc (.cells S 25)
    simpa using this
  · have := LBlk.new (((w.alloc (.cells X 25)).alloc (.cells Y 25)).alloc (.cells Z 25)) S
    simpa using this
theorem LBlk.set4 {w : World} {g : Nat} {s : U4} (h : LBlk w g s.cells) (q : U4) : LBlk ((((w.setCell ⟨g, 0, none⟩ (.int .u64 (q.a : Int))).setCell ⟨g, 1, none⟩ (.int .u64 (q.b : Int))).setCell ⟨g, 2, none⟩ (.int .u64 (q.c : Int))).setCell ⟨g, 3, none⟩ (.int .u64 (q.d : Int))) g q.cells :=
  (((h.set_ 0 _).set_ 1 _).set_ 2 _).set_ 3 _
/-- all four cells of a block -/
theorem LBlk.all {w : World} {g : Nat} {s : U4} (h : LBlk w g s.cells) : w.cell? ⟨g, 0, none⟩ = some (.int .u64 (s.a : Int)) ∧ w.cell? ⟨g, 1, none⟩ = some (.int .u64 (s.b : Int)) ∧ w.cell? ⟨g, 2, none⟩ = some (.int .u64 (s.c : Int)) ∧ w.cell? ⟨g, 3, none⟩ = some (.int .u64 (s.d : Int)) :=
  ⟨h.cell 0, h.cell 1, h.cell 2, h.cell 3⟩

set_option maxHeartbeats 1000000 in
theorem add_any (x y : U4) (w : World) (hx : x.ok) (hy : y.ok) : Calls Tryz.prog 89 #[x.val, y.val] w fun e w' => e = .returned (.tuple #[(addU x y).1.val, .bool (addU x y).2]) ∧ Below w.heap.size w w' := by
  have HX := Lib.hid hx
  have HY := Lib.hid hy
  clear hx hy
  obtain ⟨X, hX⟩ : ∃ X, X = x.cells := ⟨_, rfl⟩
  obtain ⟨Y, hY⟩ : ∃ Y, Y = y.cells := ⟨_, rfl⟩
  unfold U4.val
  rw [← hX, ← hY]
  have hXc := fun (k : Nat) (h : k < 4) => hX ▸ x.cell_at h
  have hYc := fun (k : Nat) (h : k < 4) => hY ▸ y.cell_at h
  have CX := Lib.hid hXc
  have CY := Lib.hid hYc
  clear hX hY hXc hYc
  go_enter Tryz.func89, Tryz.ntmps89
  go_wp2_with fail
  go_loopw [7, 9] (fun c i wr => ∃ k : Nat, k ≤ 4 ∧ i = .int .i64 k ∧ c = .int .u64 ((addSt x y k).2 : Int) ∧ LBlk wr w.heap.size X ∧ LBlk wr (w.heap.size + 1) Y ∧ LBlk wr (w.heap.size + 1 + 1) U4.zero.cells ∧ LBlk wr (w.heap.size + 1 + 1 + 1) (addSt x y k).1.cells ∧ Below w.heap.size w wr) (fun _ i _ => 4 - (intOf i).toNat)
  case atStart =>
    obtain ⟨h1, h2, h3, h4, h5⟩ := four w X Y U4.zero.cells U4.zero.cells
    exact ⟨0, by omega, rfl, by simp [addSt], h1, h2, h3, by simp only [addSt]; exact h4, h5⟩
  case round =>
    obtain ⟨k, hk, rfl, rfl, hb0, hb1, hb2, hb3, hb⟩ := hrel
    by_cases hlt : k < 4
    · have i1 : (0 : Int) ≤ (k : Int) := by omega
      have i2 : (k : Int) < 4 := by omega
      obtain ⟨n1, n2⟩ := addSt_succ x y hlt
      have hc1 := addSt_le HX.out HY.out hk
      have e1 := (blk_cell hb0 k).trans (CX.out k hlt)
      have e2 := (blk_cell hb1 k).trans (CY.out k hlt)
      have e3 := (blk_cell hb3 k).trans (U4.cell_at _ hlt)
      have e4 := blk_free hb3 k
      have ha := add64 (x.at k) (y.at k) (addSt x y k).2 hc1
      have N1 := Lib.hid n1
      have N2 := Lib.hid n2
      have B0 := Lib.hid hb0
      have B1 := Lib.hid hb1
      have B2 := Lib.hid hb2
      have B3 := Lib.hid hb3
      have BB := Lib.hid hb
      clear hb0 hb1 hb2 hb3 hb n1 n2 hc1
      go_wp2
      go_region_held_law (fun W => W.cell? ⟨w.heap.size, k, none⟩ = some (.int .u64 (x.at k : Int)) ∧ W.cell? ⟨w.heap.size + 1, k, none⟩ = some (.int .u64 (y.at k : Int))) (first | exact ⟨e1, e2⟩ | (refine ⟨?_, ?_⟩ <;> go_simp)) ((simp only [ha]))
      go_wp2
      go_roundw
      case rel =>
        refine ⟨k + 1, by omega, by go_num, by rw [N2.out]; go_num, (B0.out.far (by omega) _ _).drew, (B1.out.far (by omega) _ _).drew, (B2.out.far (by omega) _ _).drew, ?_, ?_⟩
        · rw [N1.out]
          exact (B3.out.set_ k _).drew
        · exact below_drewN' (BB.out.setCell (by simp; omega) _) 1
      case measure => simp [intOf]; omega
    · have hk4 : k = 4 := by omega
      subst hk4
      have hsz := hb.size
      have hl := hb3.lt
      obtain ⟨s, hs⟩ : ∃ s, s = (addSt x y 4).1 := ⟨_, rfl⟩
      have hends := add_end HX.out HY.out
      by_cases hc0 : (addSt x y 4).2 = 0
      · have hau := add_fits HX.out HY.out hc0
        rw [← hs] at hau hb3
        obtain ⟨c0, c1, c2, c3⟩ := hb3.all
        obtain ⟨d0, d1, d2, d3⟩ := hb2.all
        have f0 := hb2.free 0
        have f1 := hb2.free 1
        have f2 := hb2.free 2
        have f3 := hb2.free 3
        rw [hc0]
        have HA := Lib.hid hau
        have HS := Lib.hid hs
        have BB := Lib.hid hb
        clear hau hs hc0 hends hb0 hb1 hb2 hb3 hb
        go_wp2
        refine bodyPost_ret (v := .tuple #[.agg s.cells, .bool true]) ?_ rfl ⟨?_, ?_⟩
        · simp [results, Tryz.results89, go_sem, U4.cells, d0, d1, d2, d3]
        · rw [HA.out]
        · have hg : w.heap.size ≤ w.heap.size + 1 + 1 := by omega
          exact (((BB.out.setCell hg _).setCell hg _).setCell hg _).setCell hg _
      · have hau := add_over HX.out HY.out hc0
        obtain ⟨d0, d1, d2, d3⟩ := hb2.all
        have f0 := hb2.free 0
        have f1 := hb2.free 1
        have f2 := hb2.free 2
        have f3 := hb2.free 3
        have hc1 : (addSt x y 4).2 = 1 := by omega
        rw [hc1]
        have HA := Lib.hid hau
        have BB := Lib.hid hb
        clear hau hs hc0 hc1 hends hb0 hb1 hb2 hb3 hb
        go_wp2
        refine bodyPost_ret (v := .tuple #[.agg U4.zero.cells, .bool false]) ?_ rfl ⟨?_, ?_⟩
        · simp [results, Tryz.results89, go_sem, U4.cells, U4.zero, d0, d1, d2, d3]
        · rw [HA.out]
        · have hg : w.heap.size ≤ w.heap.size + 1 + 1 := by omega
          exact (((BB.out.setCell hg _).setCell hg _).setCell hg _).setCell hg _
end Go.Proofs.YtniclaapiabmdaaGreatDoor
namespace Go.Proofs.YtniclaapiabmdaaGreatDoor
set_option maxRecDepth 100000
open Go.RowKit

theorem sub64 (a b c : Nat) (hc : c ≤ 1) (W : World) : (callFunc 139 #[.int .u64 (a : Int), .int .u64 (b : Int), .int .u64 (c : Int)]).run Tryz.prog W =
    .ok (.value (.tuple #[.int .u64 (((a + 18446744073709551616 - b - c) % 18446744073709551616 : Nat) : Int), .int .u64 ((if a < b + c then 1 else 0 : Nat) : Int)])) W := by
  rw [run_callFunc_extern Tryz.func139 (by kernel_rfl) (by kernel_rfl) (by kernel_rfl) (e := sub64Entry) (by kernel_rfl), run_sub64 a b c hc]
  rfl
theorem subSt_succ (x y : U4) {k : Nat} (h : k < 4) : (subSt x y (k + 1)).1.cells = (subSt x y k).1.cells.setIfInBounds k (.int .u64 (((x.at k + 18446744073709551616 - y.at k - (subSt x y k).2) % 18446744073709551616 : Nat) : Int)) ∧
    (subSt x y (k + 1)).2 = (if x.at k < y.at k + (subSt x y k).2 then 1 else 0 : Nat) := by
  have : k = 0 ∨ k = 1 ∨ k = 2 ∨ k = 3 := by omega
  rcases this with rfl | rfl | rfl | rfl <;> constructor <;> simp [subSt, U4.cells, U4.at]
theorem ite_le (p : Prop) [Decidable p] : (if p then 1 else 0 : Nat) ≤ 1 := by split <;> omega
theorem subSt_le (x y : U4) {k : Nat} (h : k ≤ 4) : (subSt x y k).2 ≤ 1 := by
  have : k = 0 ∨ k = 1 ∨ k = 2 ∨ k = 3 ∨ k = 4 := by omega
  rcases this with rfl | rfl | rfl | rfl | rfl <;> simp only [subSt] <;> first | omega | exact ite_le _

set_option maxHeartbeats 1000000 in
theorem sub_any (x y : U4) (w : World) (hx : x.ok) (hy : y.ok) : Calls Tryz.prog 88 #[x.val, y.val] w fun e w' => e = .returned (.tuple #[(subU x y).1.val, .bool (subU x y).2]) ∧ Below w.heap.size w w' := by
  have HX := Lib.hid hx
  have HY := Lib.hid hy
  clear hx hy
  obtain ⟨X, hX⟩ : ∃ X, X = x.cells := ⟨_, rfl⟩
  obtain ⟨Y, hY⟩ : ∃ Y, Y = y.cells := ⟨_, rfl⟩
  unfold U4.val
  rw [← hX, ← hY]
  have hXc := fun (k : Nat) (h : k < 4) => hX ▸ x.cell_at h
  have hYc := fun (k : Nat) (h : k < 4) => hY ▸ y.cell_at h
  have CX := Lib.hid hXc
  have CY := Lib.hid hYc
  clear hX hY hXc hYc
  go_enter Tryz.func88, Tryz.ntmps88
  go_wp2_with fail
  go_loopw [7, 9] (fun c i wr => ∃ k : Nat, k ≤ 4 ∧ i = .int .i64 k ∧ c = .int .u64 ((subSt x y k).2 : Int) ∧ LBlk wr w.heap.size X ∧ LBlk wr (w.heap.size + 1) Y ∧ LBlk wr (w.heap.size + 1 + 1) U4.zero.cells ∧ LBlk wr (w.heap.size + 1 + 1 + 1) (subSt x y k).1.cells ∧ Below w.heap.size w wr) (fun _ i _ => 4 - (intOf i).toNat)
  case atStart =>
    obtain ⟨h1, h2, h3, h4, h5⟩ := four w X Y U4.zero.cells U4.zero.cells
    exact ⟨0, by omega, rfl, by simp [subSt], h1, h2, h3, by simp only [subSt]; exact h4, h5⟩
  case round =>
    obtain ⟨k, hk, rfl, rfl, hb0, hb1, hb2, hb3, hb⟩ := hrel
    by_cases hlt : k < 4
    · have i1 : (0 : Int) ≤ (k : Int) := by omega
      have i2 : (k : Int) < 4 := by omega
      obtain ⟨n1, n2⟩ := subSt_succ x y hlt
      have hc1 := subSt_le x y hk
      have e1 := (blk_cell hb0 k).trans (CX.out k hlt)
      have e2 := (blk_cell hb1 k).trans (CY.out k hlt)
      have e3 := (blk_cell hb3 k).trans (U4.cell_at _ hlt)
      have e4 := blk_free hb3 k
      have ha := sub64 (x.at k) (y.at k) (subSt x y k).2 hc1
      generalize (x.at k + 18446744073709551616 - y.at k - (subSt x y k).2) % 18446744073709551616 = r at ha n1
      generalize (if x.at k < y.at k + (subSt x y k).2 then 1 else 0 : Nat) = c' at ha n2
      have N1 := Lib.hid n1
      have N2 := Lib.hid n2
      have B0 := Lib.hid hb0
      have B1 := Lib.hid hb1
      have B2 := Lib.hid hb2
      have B3 := Lib.hid hb3
      have BB := Lib.hid hb
      clear hb0 hb1 hb2 hb3 hb n1 n2 hc1
      go_wp2
      go_region_held_law (fun W => W.cell? ⟨w.heap.size, k, none⟩ = some (.int .u64 (x.at k : Int)) ∧ W.cell? ⟨w.heap.size + 1, k, none⟩ = some (.int .u64 (y.at k : Int))) (first | exact ⟨e1, e2⟩ | (refine ⟨?_, ?_⟩ <;> go_simp)) ((simp only [ha]))
      go_wp2
      go_roundw
      case rel =>
        refine ⟨k + 1, by omega, by go_num, by rw [N2.out], (B0.out.far (by omega) _ _).drew, (B1.out.far (by omega) _ _).drew, (B2.out.far (by omega) _ _).drew, ?_, ?_⟩
        · rw [N1.out]
          exact (B3.out.set_ k _).drew
        · exact below_drewN' (BB.out.setCell (by simp; omega) _) 1
      case measure => simp [intOf]; omega
    · have hk4 : k = 4 := by omega
      subst hk4
      have hsz := hb.size
      have hl := hb3.lt
      obtain ⟨s, hs⟩ : ∃ s, s = (subSt x y 4).1 := ⟨_, rfl⟩
      have hends := sub_end HX.out HY.out
      by_cases hc0 : (subSt x y 4).2 = 0
      · have hau := sub_fits HX.out HY.out hc0
        rw [← hs] at hau hb3
        obtain ⟨c0, c1, c2, c3⟩ := hb3.all
        obtain ⟨d0, d1, d2, d3⟩ := hb2.all
        have f0 := hb2.free 0
        have f1 := hb2.free 1
        have f2 := hb2.free 2
        have f3 := hb2.free 3
        rw [hc0]
        have HA := Lib.hid hau
        have HS := Lib.hid hs
        have BB := Lib.hid hb
        clear hau hs hc0 hends hb0 hb1 hb2 hb3 hb
        go_wp2
        refine bodyPost_ret (v := .tuple #[.agg s.cells, .bool true]) ?_ rfl ⟨?_, ?_⟩
        · simp [results, Tryz.results88, go_sem, U4.cells, d0, d1, d2, d3]
        · rw [HA.out]
        · have hg : w.heap.size ≤ w.heap.size + 1 + 1 := by omega
          exact (((BB.out.setCell hg _).setCell hg _).setCell hg _).setCell hg _
      · have hau := sub_over HX.out HY.out hc0
        obtain ⟨d0, d1, d2, d3⟩ := hb2.all
        have f0 := hb2.free 0
        have f1 := hb2.free 1
        have f2 := hb2.free 2
        have f3 := hb2.free 3
        have hc1 : (subSt x y 4).2 = 1 := by omega
        rw [hc1]
        have HA := Lib.hid hau
        have BB := Lib.hid hb
        clear hau hs hc0 hc1 hends hb0 hb1 hb2 hb3 hb
        go_wp2
        refine bodyPost_ret (v := .tuple #[.agg U4.zero.cells, .bool false]) ?_ rfl ⟨?_, ?_⟩
        · simp [results, Tryz.results88, go_sem, U4.cells, U4.zero, d0, d1, d2, d3]
        · rw [HA.out]
        · have hg : w.heap.size ≤ w.heap.size + 1 + 1 := by omega
          exact (((BB.out.setCell hg _).setCell hg _).setCell hg _).setCell hg _
end Go.Proofs.YtniclaapiabmdaaGreatDoor
namespace Go.Proofs.YtniclaapiabmdaaGreatDoor
set_option maxRecDepth 100000
open Go Go.RowKit

/-- are they the same? -/
def eqB (x y : U4) : Bool := decide (x.a = y.a) && (decide (x.b = y.b) && (decide (x.c = y.c) && decide (x.d = y.d)))
theorem eqB_iff {x y : U4} : eqB x y = true ↔ x = y := by
  obtain ⟨a, b, c, d⟩ := x
  obtain ⟨a', b', c', d'⟩ := y
  simp [eqB]
theorem eqB_refl (x : U4) : eqB x x = true := eqB_iff.2 rfl

theorem size_u64 (w : World) : (sizeOf 23).run Tryz.prog w = .ok 1 w := by rfl
theorem part_at (x : U4) (w : World) {k : Nat} (h : k < 4) : (part 23 x.cells (k * 1)).run Tryz.prog w = .ok (.int .u64 (x.at k : Int)) w := by
  have : k = 0 ∨ k = 1 ∨ k = 2 ∨ k = 3 := by omega
  rcases this with rfl | rfl | rfl | rfl <;> rfl
theorem part1 (x : U4) (w : World) : (part 23 x.cells 1).run Tryz.prog w = .ok (.int .u64 (x.b : Int)) w := by rfl
theorem part2 (x : U4) (w : World) : (part 23 x.cells 2).run Tryz.prog w = .ok (.int .u64 (x.c : Int)) w := by rfl
theorem part3 (x : U4) (w : World) : (part 23 x.cells 3).run Tryz.prog w = .ok (.int .u64 (x.d : Int)) w := by rfl
theorem eqInt (a b : Nat) (w : World) : (Op.equalIn 9999 23 (.int .u64 (a : Int)) (.int .u64 (b : Int))).run Tryz.prog w = .ok (decide (a = b)) w := by
  rw [run_equalIn_int w 9998 _ _ _ _ _ Tryz.underlying23]
  congr 1
  rw [Bool.eq_iff_iff]; simp; omega
theorem beq_nat (a b : Nat) : ((a : Int) == (b : Int)) = decide (a = b) := by
  rw [Bool.eq_iff_iff]; simp; omega
theorem run_equal4 (x y : U4) (w : World) : (Op.equalIn 10000 25 (.agg x.cells) (.agg y.cells)).run Tryz.prog w = .ok (eqB x y) w := by
  rw [Op.equalIn]
  simp only [Sem.run_bind, run_underlying Tryz.underlying25, Result.andThen_ok, size_u64, Std.Legacy.Range.forIn_eq_forIn_range', Std.Legacy.Range.size, Nat.sub_zero, Nat.add_sub_cancel, Nat.div_one]
  rw [show List.range' 0 4 1 = [0, 1, 2, 3] from rfl]
  simp only [List.forIn_cons, List.forIn_nil, Sem.run_bind, part_at x _ (show 0 < 4 by omega), part_at x _ (show 1 < 4 by omega), part_at x _ (show 2 < 4 by omega), part_at x _ (show 3 < 4 by omega), part_at y _ (show 0 < 4 by omega), part_at y _ (show 1 < 4 by omega), part_at y _ (show 2 < 4 by omega), part_at y _ (show 3 < 4 by omega), Result.andThen_ok,
    run_equalIn_int _ _ _ _ _ _ _ Tryz.underlying23, beq_nat]
  unfold eqB
  by_cases h1 : x.a = y.a <;> by_cases h2 : x.b = y.b <;> by_cases h3 : x.c = y.c <;> by_cases h4 : x.d = y.d <;> simp [U4.at, h1, h2, h3, h4, part1, part2, part3, eqInt, Result.andThen]
theorem eql4 (x y : U4) (w : World) : (binOp .eql 25 (.agg x.cells) (.agg y.cells)).run Tryz.prog w = .ok (.bool (eqB x y)) w := by
  rw [run_eql_struct, run_equal4]; rfl
theorem neq4 (x y : U4) (w : World) : (binOp .neq 25 (.agg x.cells) (.agg y.cells)).run Tryz.prog w = .ok (.bool (!eqB x y)) w := by
  rw [run_neq_struct, run_equal4]; rfl
end Go.Proofs.YtniclaapiabmdaaGreatDoor
namespace Go.Proofs.YtniclaapiabmdaaGreatDoor
set_option maxRecDepth 100000
open Go Go.RowKit

set_option maxHeartbeats 1000000 in
theorem zero_any (x : U4) (w : World) : Calls Tryz.prog 35 #[x.val] w fun e w' => e = .returned (.bool (eqB x U4.zero)) ∧ Below w.heap.size w w' := by
  have he : ∀ W, (binOp .eql 25 (.agg #[.int .u64 (x.a : Int), .int .u64 (x.b : Int), .int .u64 (x.c : Int), .int .u64 (x.d : Int)]) (.agg #[.int .u64 0, .int .u64 0, .int .u64 0, .int .u64 0])).run Tryz.prog W = .ok (.bool (eqB x U4.zero)) W := fun W => eql4 x U4.zero W
  unfold U4.val U4.cells
  generalize eqB x U4.zero = b at *
  go_enter Tryz.func35, Tryz.ntmps35
  go_wp2_with fail
  go_ret
  exact ⟨rfl, (Below.refl _ _).alloc (Nat.le_refl _) _⟩

/-- what Cmp answers -/
def cmpN (m n : Nat) : Int := if m = n then 0 else if n < m then 1 else -1

end Go.Proofs.YtniclaapiabmdaaGreatDoor
