
/- Whole numbers of 256 bits as four numbers of 64: plain mathematics, nothing of the program. Whole numbers as rows of bytes, the lowest first: plain mathematics. Adding, taking away and comparing byte by byte: plain mathematics. The number that 32 bytes are: mathematics. -/
import Derived.Test.YtmphegeiclgjbaaGreatDoorBase0
namespace Go.Proofs.YtmphegeiclgjbaaGreatDoor
set_option maxRecDepth 100000

/-- four numbers of 64 bits, the lowest first -/
structure U4 where
  a : Nat
  b : Nat
  c : Nat
  d : Nat

namespace U4
def ok (x : U4) : Prop := x.a < 18446744073709551616 ∧ x.b < 18446744073709551616 ∧ x.c < 18446744073709551616 ∧ x.d < 18446744073709551616
/-- the number that they are -/
def nat (x : U4) : Nat := x.a + 18446744073709551616 * x.b + 340282366920938463463374607431768211456 * x.c + 6277101735386680763835789423207666416102355444464034512896 * x.d
def zero : U4 := ⟨0, 0, 0, 0⟩
end U4
/-- the first number that doesn't fit -/
def top : Nat := 115792089237316195423570985008687907853269984665640564039457584007913129639936
def ofN (n : Nat) : U4 := ⟨n % 18446744073709551616, n / 18446744073709551616 % 18446744073709551616, n / 340282366920938463463374607431768211456 % 18446744073709551616, n / 6277101735386680763835789423207666416102355444464034512896 % 18446744073709551616⟩

/-- adding: what is there and what is carried behind k steps -/
def addSt (x y : U4) : Nat → U4 × Nat
  | 0 => (⟨0, 0, 0, 0⟩, 0)
  | 1 => (⟨(x.a + y.a + 0) % 18446744073709551616, 0, 0, 0⟩, (x.a + y.a + 0) / 18446744073709551616)
  | 2 => (⟨(addSt x y 1).1.a, (x.b + y.b + (addSt x y 1).2) % 18446744073709551616, 0, 0⟩, (x.b + y.b + (addSt x y 1).2) / 18446744073709551616)
  | 3 => (⟨(addSt x y 2).1.a, (addSt x y 2).1.b, (x.c + y.c + (addSt x y 2).2) % 18446744073709551616, 0⟩, (x.c + y.c + (addSt x y 2).2) / 18446744073709551616)
  | 4 => (⟨(addSt x y 3).1.a, (addSt x y 3).1.b, (addSt x y 3).1.c, (x.d + y.d + (addSt x y 3).2) % 18446744073709551616⟩, (x.d + y.d + (addSt x y 3).2) / 18446744073709551616)
  | _ => (⟨0, 0, 0, 0⟩, 0)
/-- the sum, and whether it fits -/
def addU (x y : U4) : U4 × Bool := if x.nat + y.nat < top then (ofN (x.nat + y.nat), true) else (U4.zero, false)
/-- taking away -/
def subSt (x y : U4) : Nat → U4 × Nat
  | 0 => (⟨0, 0, 0, 0⟩, 0)
  | 1 => (⟨(x.a + 18446744073709551616 - y.a - 0) % 18446744073709551616, 0, 0, 0⟩, if x.a < y.a + 0 then 1 else 0)
  | 2 => (⟨(subSt x y 1).1.a, (x.b + 18446744073709551616 - y.b - (subSt x y 1).2) % 18446744073709551616, 0, 0⟩, if x.b < y.b + (subSt x y 1).2 then 1 else 0)
  | 3 => (⟨(subSt x y 2).1.a, (subSt x y 2).1.b, (x.c + 18446744073709551616 - y.c - (subSt x y 2).2) % 18446744073709551616, 0⟩, if x.c < y.c + (subSt x y 2).2 then 1 else 0)
  | 4 => (⟨(subSt x y 3).1.a, (subSt x y 3).1.b, (subSt x y 3).1.c, (x.d + 18446744073709551616 - y.d - (subSt x y 3).2) % 18446744073709551616⟩, if x.d < y.d + (subSt x y 3).2 then 1 else 0)
  | _ => (⟨0, 0, 0, 0⟩, 0)
def subU (x y : U4) : U4 × Bool := if y.nat ≤ x.nat then (ofN (x.nat - y.nat), true) else (U4.zero, false)
/-- times a number of 64 bits -/
def mulSt (x : U4) (k : Nat) : Nat → U4 × Nat
  | 0 => (⟨0, 0, 0, 0⟩, 0)
  | 1 => (⟨(x.a * k + 0) % 18446744073709551616, 0, 0, 0⟩, (x.a * k + 0) / 18446744073709551616)
  | 2 => (⟨(mulSt x k 1).1.a, (x.b * k + (mulSt x k 1).2) % 18446744073709551616, 0, 0⟩, (x.b * k + (mulSt x k 1).2) / 18446744073709551616)
  | 3 => (⟨(mulSt x k 2).1.a, (mulSt x k 2).1.b, (x.c * k + (mulSt x k 2).2) % 18446744073709551616, 0⟩, (x.c * k + (mulSt x k 2).2) / 18446744073709551616)
  | 4 => (⟨(mulSt x k 3).1.a, (mulSt x k 3).1.b, (mulSt x k 3).1.c, (x.d * k + (mulSt x k 3).2) % 18446744073709551616⟩, (x.d * k + (mulSt x k 3).2) / 18446744073709551616)
  | _ => (⟨0, 0, 0, 0⟩, 0)
def mulU (x : U4) (k : Nat) : U4 × Bool := if x.nat * k < top then (ofN (x.nat * k), true) else (U4.zero, false)
end Go.Proofs.YtmphegeiclgjbaaGreatDoor
namespace Go.Proofs.YtmphegeiclgjbaaGreatDoor
set_option maxRecDepth 100000

def byL (n : Nat) : Nat → List Nat
  | 0 => []
  | k + 1 => byL n k ++ [n / 256 ^ k % 256]
def valL : List Nat → Nat
  | [] => 0
  | d :: r => d + 256 * valL r
theorem byL_length (n k : Nat) : (byL n k).length = k := by induction k <;> simp [byL, *]
theorem byL_lt (n k : Nat) : ∀ d ∈ byL n k, d < 256 := by
  induction k with
  | zero => intro d hd; simp [byL] at hd
  | succ k ih =>
    intro d hd
    rw [byL, List.mem_append] at hd
    rcases hd with hd | hd
    · exact ih d hd
    · simp only [List.mem_cons, List.not_mem_nil, or_false] at hd; subst hd; exact Nat.mod_lt _ (by decide)
theorem valL_snoc (l : List Nat) (d : Nat) : valL (l ++ [d]) = valL l + 256 ^ l.length * d := by
  induction l with
  | nil => simp [valL]
  | cons x r ih =>
    simp only [List.cons_append, valL, ih, List.length_cons, Nat.pow_succ, Nat.mul_add]
    rw [show 256 * (256 ^ r.length * d) = 256 ^ r.length * 256 * d by rw [← Nat.mul_assoc, Nat.mul_comm 256]]
    omega
theorem valL_byL (n k : Nat) : valL (byL n k) = n % 256 ^ k := by
  induction k with
  | zero => simp [byL, valL, Nat.mod_one]
  | succ k ih => rw [byL, valL_snoc, ih, byL_length, Nat.pow_succ, Nat.mod_mul]
theorem valL_lt (l : List Nat) (h : ∀ d ∈ l, d < 256) : valL l < 256 ^ l.length := by
  induction l with
  | nil => simp [valL]
  | cons x r ih =>
    have h1 := ih fun d hd => h d (List.mem_cons_of_mem _ hd)
    have h2 := h x (List.mem_cons_self ..)
    simp only [valL, List.length_cons, Nat.pow_succ]
    omega
theorem valL_inj : ∀ (l m : List Nat), l.length = m.length → (∀ d ∈ l, d < 256) → (∀ d ∈ m, d < 256) → valL l = valL m → l = m
  | [], [], _, _, _, _ => rfl
  | [], y :: s, h, _, _, _ => by simp at h
  | x :: r, [], h, _, _, _ => by simp at h
  | x :: r, y :: s, h, hl, hm, hv => by
    have h1 := hl x (List.mem_cons_self ..)
    have h2 := hm y (List.mem_cons_self ..)
    simp only [valL] at hv
    have hxy : x = y := by omega
    subst hxy
    rw [valL_inj r s (by simpa using h) (fun d hd => hl d (List.mem_cons_of_mem _ hd)) (fun d hd => hm d (List.mem_cons_of_mem _ hd)) (by omega)]
theorem byL_valL (l : List Nat) (h : ∀ d ∈ l, d < 256) : byL (valL l) l.length = l :=
  valL_inj _ _ (byL_length _ _) (byL_lt _ _) h (by rw [valL_byL, Nat.mod_eq_of_lt (valL_lt l h)])
def U4.at' (x : U4) : Nat → Nat
  | 0 => x.a
  | 1 => x.b
  | 2 => x.c
  | _ => x.d
end Go.Proofs.YtmphegeiclgjbaaGreatDoor
namespace Go.Proofs.YtmphegeiclgjbaaGreatDoor
set_option maxRecDepth 100000

theorem be_byL (n : Nat) : ∀ k, be n k = ((byL n k).map UInt8.ofNat).reverse
  | 0 => rfl
  | k + 1 => by
    have e : UInt8.ofNat (n / 2 ^ (8 * k)) = UInt8.ofNat (n / 256 ^ k % 256) := by
      rw [show 2 ^ (8 * k) = 256 ^ k by rw [Nat.pow_mul]]
      apply UInt8.toNat_inj.1
      simp
    rw [be, byL, List.map_append, List.reverse_append, be_byL n k, e]
    rfl
/-- the number that bytes are, the highest first -/
def valB (b : List UInt8) : Nat := valL (b.reverse.map UInt8.toNat)
theorem be_valB (b : List UInt8) : be (valB b) b.length = b := by
  have h := byL_valL (b.reverse.map UInt8.toNat) (fun d hd => by
    simp only [List.mem_map] at hd
    obtain ⟨x, -, rfl⟩ := hd
    exact x.toNat_lt)
  rw [List.length_map, List.length_reverse] at h
  rw [be_byL, valB, h, List.map_map]
  have : (b.reverse).map (UInt8.ofNat ∘ UInt8.toNat) = b.reverse := by
    rw [List.map_congr_left (g := id)]
    · simp
    · intro d _; simp
  rw [this, List.reverse_reverse]
end Go.Proofs.YtmphegeiclgjbaaGreatDoor
namespace Go.Proofs.YtmphegeiclgjbaaGreatDoor
set_option maxRecDepth 100000
open Go Go.RowKit

/-- what 32 bytes are as a number; anything else is refused -/
def fromU (l : List UInt8) : U4 × Int := if l.length = 32 then (ofN (valB l), 0) else (U4.zero, 21)
end Go.Proofs.YtmphegeiclgjbaaGreatDoor
