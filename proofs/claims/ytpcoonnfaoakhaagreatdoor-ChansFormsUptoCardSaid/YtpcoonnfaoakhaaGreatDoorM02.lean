/- Texts joined: LimbS0, LimbA0, LimbN1. -/
import Derived.Test.YtpcoonnfaoakhaaGreatDoorM01
import Derived.Deep.RegionHeldLaw
import Derived.Shelf.Spec.BitsCarry
import Derived.Stop.BytesEq
import Derived.Deep.Onto
import Derived.Laws.Bits64b
namespace Go.Proofs.YtpcoonnfaoakhaaGreatDoor
set_option maxRecDepth 100000

/-- four numbers of 64 bits, the lowest first -/
structure U4 where
  a : Nat
  b : Nat
  c : Nat
  d : Nat

namespace U4
def ok (x : U4) : Prop := x.a < 18446744073709551616 ∧ x.b < 18446744073709551616 ∧ x.c < 18446744073709551616 ∧ x.d < 18446744073709551616
/-- the number that they are -/
def nat (x : U4) : Nat := x.a + 18446744073709551616 * x.b + 340282366920938463463374607431768211456 * x.c + 6277101735386680763835789423207666416102355444464034512896 * x.d
def zero : U4 := ⟨0, 0, 0, 0⟩
end U4
/-- the first number that doesn't fit -/
def top : Nat := 115792089237316195423570985008687907853269984665640564039457584007913129639936
def ofN (n : Nat) : U4 := ⟨n % 18446744073709551616, n / 18446744073709551616 % 18446744073709551616, n / 340282366920938463463374607431768211456 % 18446744073709551616, n / 6277101735386680763835789423207666416102355444464034512896 % 18446744073709551616⟩

theorem ofN_ok (n : Nat) : (ofN n).ok := ⟨Nat.mod_lt _ (by decide), Nat.mod_lt _ (by decide), Nat.mod_lt _ (by decide), Nat.mod_lt _ (by decide)⟩
theorem nat_lt {x : U4} (h : x.ok) : x.nat < top := by
  obtain ⟨h1, h2, h3, h4⟩ := h
  unfold U4.nat top
  omega
theorem nat_ofN {n : Nat} (h : n < top) : (ofN n).nat = n := by
  unfold top at h
  unfold U4.nat ofN
  simp only
  omega
theorem nat_inj {x y : U4} (hx : x.ok) (hy : y.ok) (h : x.nat = y.nat) : x = y := by
  obtain ⟨h1, h2, h3, h4⟩ := hx
  obtain ⟨k1, k2, k3, k4⟩ := hy
  obtain ⟨a, b, c, d⟩ := x
  obtain ⟨a', b', c', d'⟩ := y
  simp only [U4.nat] at *
  simp only [U4.mk.injEq]
  omega
theorem ofN_nat {x : U4} (h : x.ok) : ofN x.nat = x := nat_inj (ofN_ok _) h (nat_ofN (nat_lt h))
theorem zero_ok : U4.zero.ok := by unfold U4.ok U4.zero; decide
theorem nat_zero {x : U4} : x.nat = 0 ↔ x = U4.zero := by
  obtain ⟨a, b, c, d⟩ := x
  simp only [U4.nat, U4.zero, U4.mk.injEq]
  omega

/-- adding: what is there and what is carried behind k steps -/
def addSt (x y : U4) : Nat → U4 × Nat
  | 0 => (⟨0, 0, 0, 0⟩, 0)
  | 1 => (⟨(x.a + y.a + 0) % 18446744073709551616, 0, 0, 0⟩, (x.a + y.a + 0) / 18446744073709551616)
  | 2 => (⟨(addSt x y 1).1.a, (x.b + y.b + (addSt x y 1).2) % 18446744073709551616, 0, 0⟩, (x.b + y.b + (addSt x y 1).2) / 18446744073709551616)
  | 3 => (⟨(addSt x y 2).1.a, (addSt x y 2).1.b, (x.c + y.c + (addSt x y 2).2) % 18446744073709551616, 0⟩, (x.c + y.c + (addSt x y 2).2) / 18446744073709551616)
  | 4 => (⟨(addSt x y 3).1.a, (addSt x y 3).1.b, (addSt x y 3).1.c, (x.d + y.d + (addSt x y 3).2) % 18446744073709551616⟩, (x.d + y.d + (addSt x y 3).2) / 18446744073709551616)
  | _ => (⟨0, 0, 0, 0⟩, 0)
/-- the sum, and whether it fits -/
def addU (x y : U4) : U4 × Bool := if x.nat + y.nat < top then (ofN (x.nat + y.nat), true) else (U4.zero, false)
theorem add_end {x y : U4} (hx : x.ok) (hy : y.ok) : (addSt x y 4).1.nat + top * (addSt x y 4).2 = x.nat + y.nat ∧ (addSt x y 4).1.ok ∧ (addSt x y 4).2 ≤ 1 := by
  obtain ⟨h1, h2, h3, h4⟩ := hx
  obtain ⟨k1, k2, k3, k4⟩ := hy
  obtain ⟨a, b, c, d⟩ := x
  obtain ⟨a', b', c', d'⟩ := y
  simp only [addSt, U4.nat, U4.ok, top] at *
  omega
theorem add_fits {x y : U4} (hx : x.ok) (hy : y.ok) (h : (addSt x y 4).2 = 0) : addU x y = ((addSt x y 4).1, true) := by
  obtain ⟨h1, h2, _⟩ := add_end hx hy
  have h3 := nat_lt h2
  rw [h, Nat.mul_zero, Nat.add_zero] at h1
  unfold addU
  rw [← h1, if_pos h3, ofN_nat h2]
theorem add_over {x y : U4} (hx : x.ok) (hy : y.ok) (h : (addSt x y 4).2 ≠ 0) : addU x y = (U4.zero, false) := by
  obtain ⟨h1, h2, h4⟩ := add_end hx hy
  have h5 : (addSt x y 4).2 = 1 := by omega
  rw [h5, Nat.mul_one] at h1
  unfold addU
  rw [if_neg (by omega)]

/-- taking away -/
def subSt (x y : U4) : Nat → U4 × Nat
  | 0 => (⟨0, 0, 0, 0⟩, 0)
  | 1 => (⟨(x.a + 18446744073709551616 - y.a - 0) % 18446744073709551616, 0, 0, 0⟩, if x.a < y.a + 0 then 1 else 0)
  | 2 => (⟨(subSt x y 1).1.a, (x.b + 18446744073709551616 - y.b - (subSt x y 1).2) % 18446744073709551616, 0, 0⟩, if x.b < y.b + (subSt x y 1).2 then 1 else 0)
  | 3 => (⟨(subSt x y 2).1.a, (subSt x y 2).1.b, (x.c + 18446744073709551616 - y.c - (subSt x y 2).2) % 18446744073709551616, 0⟩, if x.c < y.c + (subSt x y 2).2 then 1 else 0)
  | 4 => (⟨(subSt x y 3).1.a, (subSt x y 3).1.b, (subSt x y 3).1.c, (x.d + 18446744073709551616 - y.d - (subSt x y 3).2) % 18446744073709551616⟩, if x.d < y.d + (subSt x y 3).2 then 1 else 0)
  | _ => (⟨0, 0, 0, 0⟩, 0)
def subU (x y : U4) : U4 × Bool := if y.nat ≤ x.nat then (ofN (x.nat - y.nat), true) else (U4.zero, false)
theorem sub_end {x y : U4} (hx : x.ok) (hy : y.ok) : (subSt x y 4).1.nat + y.nat = x.nat + top * (subSt x y 4).2 ∧ (subSt x y 4).1.ok ∧ (subSt x y 4).2 ≤ 1 := by
  obtain ⟨h1, h2, h3, h4⟩ := hx
  obtain ⟨k1, k2, k3, k4⟩ := hy
  obtain ⟨a, b, c, d⟩ := x
  obtain ⟨a', b', c', d'⟩ := y
  simp only [subSt, U4.nat, U4.ok, top] at *
  split <;> split <;> split <;> split <;> omega
theorem sub_fits {x y : U4} (hx : x.ok) (hy : y.ok) (h : (subSt x y 4).2 = 0) : subU x y = ((subSt x y 4).1, true) := by
  obtain ⟨h1, h2, _⟩ := sub_end hx hy
  rw [h, Nat.mul_zero, Nat.add_zero] at h1
  unfold subU
  rw [if_pos (by omega), show x.nat - y.nat = (subSt x y 4).1.nat by omega, ofN_nat h2]
theorem sub_over {x y : U4} (hx : x.ok) (hy : y.ok) (h : (subSt x y 4).2 ≠ 0) : subU x y = (U4.zero, false) := by
  obtain ⟨h1, h2, h4⟩ := sub_end hx hy
  have h5 : (subSt x y 4).2 = 1 := by omega
  have h6 := nat_lt h2
  rw [h5, Nat.mul_one] at h1
  unfold subU
  rw [if_neg (by omega)]

/-- times a number of 64 bits -/
def mulSt (x : U4) (k : Nat) : Nat → U4 × Nat
  | 0 => (⟨0, 0, 0, 0⟩, 0)
  | 1 => (⟨(x.a * k + 0) % 18446744073709551616, 0, 0, 0⟩, (x.a * k + 0) / 18446744073709551616)
  | 2 => (⟨(mulSt x k 1).1.a, (x.b * k + (mulSt x k 1).2) % 18446744073709551616, 0, 0⟩, (x.b * k + (mulSt x k 1).2) / 18446744073709551616)
  | 3 => (⟨(mulSt x k 2).1.a, (mulSt x k 2).1.b, (x.c * k + (mulSt x k 2).2) % 18446744073709551616, 0⟩, (x.c * k + (mulSt x k 2).2) / 18446744073709551616)
  | 4 => (⟨(mulSt x k 3).1.a, (mulSt x k 3).1.b, (mulSt x k 3).1.c, (x.d * k + (mulSt x k 3).2) % 18446744073709551616⟩, (x.d * k + (mulSt x k 3).2) / 18446744073709551616)
  | _ => (⟨0, 0, 0, 0⟩, 0)
def mulU (x : U4) (k : Nat) : U4 × Bool := if x.nat * k < top then (ofN (x.nat * k), true) else (U4.zero, false)
end Go.Proofs.YtpcoonnfaoakhaaGreatDoor
namespace Go.Proofs.YtpcoonnfaoakhaaGreatDoor
set_option maxRecDepth 100000

def byL (n : Nat) : Nat → List Nat
  | 0 => []
  | k + 1 => byL n k ++ [n / 256 ^ k % 256]
def valL : List Nat → Nat
  | [] => 0
  | d :: r => d + 256 * valL r
theorem byL_length (n k : Nat) : (byL n k).length = k := by induction k <;> simp [byL, *]
theorem byL_lt (n k : Nat) : ∀ d ∈ byL n k, d < 256 := by
  induction k with
  | zero => intro d hd; simp [byL] at hd
  | succ k ih =>
    intro d hd
    rw [byL, List.mem_append] at hd
    rcases hd with hd | hd
    · exact ih d hd
    · simp only [List.mem_cons, List.not_mem_nil, or_false] at hd; subst hd; exact Nat.mod_lt _ (by decide)
theorem valL_snoc (l : List Nat) (d : Nat) : valL (l ++ [d]) = valL l + 256 ^ l.length * d := by
  induction l with
  | nil => simp [valL]
  | cons x r ih =>
    simp only [List.cons_append, valL, ih, List.length_cons, Nat.pow_succ, Nat.mul_add]
    rw [show 256 * (256 ^ r.length * d) = 256 ^ r.length * 256 * d by rw [← Nat.mul_assoc, Nat.mul_comm 256]]
    omega
theorem valL_byL (n k : Nat) : valL (byL n k) = n % 256 ^ k := by
  induction k with
  | zero => simp [byL, valL, Nat.mod_one]
  | succ k ih => rw [byL, valL_snoc, ih, byL_length, Nat.pow_succ, Nat.mod_mul]
theorem valL_lt (l : List Nat) (h : ∀ d ∈ l, d < 256) : valL l < 256 ^ l.length := by
  induction l with
  | nil => simp [valL]
  | cons x r ih =>
    have h1 := ih fun d hd => h d (List.mem_cons_of_mem _ hd)
    have h2 := h x (List.mem_cons_self ..)
    simp only [valL, List.length_cons, Nat.pow_succ]
    omega
theorem valL_inj : ∀ (l m : List Nat), l.length = m.length → (∀ d ∈ l, d < 256) → (∀ d ∈ m, d < 256) → valL l = valL m → l = m
  | [], [], _, _, _, _ => rfl
  | [], y :: s, h, _, _, _ => by simp at h
  | x :: r, [], h, _, _, _ => by simp at h
  | x :: r, y :: s, h, hl, hm, hv => by
    have h1 := hl x (List.mem_cons_self ..)
    have h2 := hm y (List.mem_cons_self ..)
    simp only [valL] at hv
    have hxy : x = y := by omega
    subst hxy
    rw [valL_inj r s (by simpa using h) (fun d hd => hl d (List.mem_cons_of_mem _ hd)) (fun d hd => hm d (List.mem_cons_of_mem _ hd)) (by omega)]
theorem byL_valL (l : List Nat) (h : ∀ d ∈ l, d < 256) : byL (valL l) l.length = l :=
  valL_inj _ _ (byL_length _ _) (byL_lt _ _) h (by rw [valL_byL, Nat.mod_eq_of_lt (valL_lt l h)])
/-- a byte of a number of 64 bits is one of the whole -/
theorem part8 (N i k : Nat) (hk : k < 8) : N / 256 ^ (8 * i) % 18446744073709551616 / 256 ^ k % 256 = N / 256 ^ (8 * i + k) % 256 := by
  rw [Nat.pow_add, ← Nat.div_div_eq_div_mul]
  generalize N / 256 ^ (8 * i) = M
  have hk' : k = 0 ∨ k = 1 ∨ k = 2 ∨ k = 3 ∨ k = 4 ∨ k = 5 ∨ k = 6 ∨ k = 7 := by omega
  rcases hk' with rfl | rfl | rfl | rfl | rfl | rfl | rfl | rfl <;> simp only [Nat.reducePow] <;> omega
theorem pow8 : 256 ^ (8 * 0) = 1 ∧ 256 ^ (8 * 1) = 18446744073709551616 ∧ 256 ^ (8 * 2) = 340282366920938463463374607431768211456 ∧ 256 ^ (8 * 3) = 6277101735386680763835789423207666416102355444464034512896 := by decide +kernel
def U4.at' (x : U4) : Nat → Nat
  | 0 => x.a
  | 1 => x.b
  | 2 => x.c
  | _ => x.d
theorem at_part {x : U4} (h : x.ok) (i : Nat) (hi : i < 4) : x.at' i = x.nat / 256 ^ (8 * i) % 18446744073709551616 := by
  obtain ⟨h1, h2, h3, h4⟩ := h
  obtain ⟨p0, p1, p2, p3⟩ := pow8
  have hi' : i = 0 ∨ i = 1 ∨ i = 2 ∨ i = 3 := by omega
  obtain ⟨a, b, c, d⟩ := x
  simp only at h1 h2 h3 h4
  rcases hi' with rfl | rfl | rfl | rfl
  · rw [p0]; simp only [U4.at', U4.nat]; omega
  · rw [p1]; simp only [U4.at', U4.nat]; omega
  · rw [p2]; simp only [U4.at', U4.nat]; omega
  · rw [p3]; simp only [U4.at', U4.nat]; omega
theorem at_byte {x : U4} (h : x.ok) (i k : Nat) (hi : i < 4) (hk : k < 8) : x.at' i / 256 ^ k % 256 = x.nat / 256 ^ (8 * i + k) % 256 := by
  rw [at_part h i hi, part8 _ _ _ hk]
end Go.Proofs.YtpcoonnfaoakhaaGreatDoor
namespace Go.Proofs.YtpcoonnfaoakhaaGreatDoor
set_option maxRecDepth 100000

theorem be_byL (n : Nat) : ∀ k, be n k = ((byL n k).map UInt8.ofNat).reverse
  | 0 => rfl
  | k + 1 => by
    have e : UInt8.ofNat (n / 2 ^ (8 * k)) = UInt8.ofNat (n / 256 ^ k % 256) := by
      rw [show 2 ^ (8 * k) = 256 ^ k by rw [Nat.pow_mul]]
      apply UInt8.toNat_inj.1
      simp
    rw [be, byL, List.map_append, List.reverse_append, be_byL n k, e]
    rfl
/-- the number that bytes are, the highest first -/
def valB (b : List UInt8) : Nat := valL (b.reverse.map UInt8.toNat)
theorem be_valB (b : List UInt8) : be (valB b) b.length = b := by
  have h := byL_valL (b.reverse.map UInt8.toNat) (fun d hd => by
    simp only [List.mem_map] at hd
    obtain ⟨x, -, rfl⟩ := hd
    exact x.toNat_lt)
  rw [List.length_map, List.length_reverse] at h
  rw [be_byL, valB, h, List.map_map]
  have : (b.reverse).map (UInt8.ofNat ∘ UInt8.toNat) = b.reverse := by
    rw [List.map_congr_left (g := id)]
    · simp
    · intro d _; simp
  rw [this, List.reverse_reverse]
end Go.Proofs.YtpcoonnfaoakhaaGreatDoor
namespace Go.Proofs.YtpcoonnfaoakhaaGreatDoor
set_option maxRecDepth 100000
open Go Go.RowKit

/-- what 32 bytes are as a number; anything else is refused -/
def fromU (l : List UInt8) : U4 × Int := if l.length = 32 then (ofN (valB l), 0) else (U4.zero, 21)
theorem fromU_ok (l : List UInt8) : (fromU l).1.ok := by
  unfold fromU
  split
  · exact ofN_ok _
  · exact zero_ok
end Go.Proofs.YtpcoonnfaoakhaaGreatDoor
namespace Go.Proofs.YtpcoonnfaoakhaaGreatDoor
set_option maxRecDepth 100000
open Go.RowKit

def U4.cells (x : U4) : Array Value := #[.int .u64 (x.a : Int), .int .u64 (x.b : Int), .int .u64 (x.c : Int), .int .u64 (x.d : Int)]
def U4.val (x : U4) : Value := .agg x.cells

theorem add64 (a b c : Nat) (hc : c ≤ 1) (W : World) : (callFunc 176 #[.int .u64 (a : Int), .int .u64 (b : Int), .int .u64 (c : Int)]).run Tryz.prog W =
    .ok (.value (.tuple #[.int .u64 (((a + b + c) % 18446744073709551616 : Nat) : Int), .int .u64 (((a + b + c) / 18446744073709551616 : Nat) : Int)])) W := by
  rw [run_callFunc_extern Tryz.func176 (by kernel_rfl) (by kernel_rfl) (by kernel_rfl) (e := add64Entry) (by kernel_rfl), run_add64 a b c (by omega) (by omega) (by omega) (by omega)]
  simp only [Result.andThen]
  congr 5 <;> omega

def LBlk (w : World) (g : Nat) (cs : Array Value) : Prop := w.heap[g]? = some (.cells cs 25 (0, 0))

/-- the number at a place -/
def U4.at (x : U4) : Nat → Nat
  | 0 => x.a
  | 1 => x.b
  | 2 => x.c
  | _ => x.d
theorem LBlk.cell {w : World} {g : Nat} {cs : Array Value} (h : LBlk w g cs) (i : Nat) : w.cell? ⟨g, i, none⟩ = cs[i]? := blk_cell h i
theorem LBlk.free {w : World} {g : Nat} {cs : Array Value} (h : LBlk w g cs) (i : Nat) : w.frozen? ⟨g, i, none⟩ = false := blk_free h i
theorem LBlk.new (w : World) (cs : Array Value) : LBlk (w.alloc (.cells cs 25)) w.heap.size cs := heap_alloc_new w _
theorem LBlk.lt {w : World} {g : Nat} {cs : Array Value} (h : LBlk w g cs) : g < w.heap.size := blk_lt h
theorem LBlk.alloc {w : World} {g : Nat} {cs : Array Value} (h : LBlk w g cs) (o : Obj) : LBlk (w.alloc o) g cs := (Below.heap_alloc w o g h.lt).trans h
theorem LBlk.drew {w : World} {g : Nat} {cs : Array Value} (h : LBlk w g cs) : LBlk w.drew g cs := h
theorem LBlk.set_ {w : World} {g : Nat} {cs : Array Value} (h : LBlk w g cs) (i : Nat) (u : Value) : LBlk (w.setCell ⟨g, i, none⟩ u) g (cs.setIfInBounds i u) := blk_set h i u
theorem LBlk.far {w : World} {g g' : Nat} {cs : Array Value} (h : LBlk w g cs) (hne : g ≠ g') (i : Nat) (u : Value) : LBlk (w.setCell ⟨g', i, none⟩ u) g cs := (Below.heap_setCell w ⟨g', i, none⟩ u g hne).trans h
theorem LBlk.below {w w' : World} {g B : Nat} {cs : Array Value} (h : LBlk w g cs) (hb : Below B w w') (hg : g < B) : LBlk w' g cs := (hb.block g hg).trans h
theorem U4.cell_at (x : U4) {k : Nat} (h : k < 4) : x.cells[k]? = some (.int .u64 (x.at k : Int)) := by
  have : k = 0 ∨ k = 1 ∨ k = 2 ∨ k = 3 := by omega
  rcases this with rfl | rfl | rfl | rfl <;> rfl
theorem addSt_succ (x y : U4) {k : Nat} (h : k < 4) : (addSt x y (k + 1)).1.cells = (addSt x y k).1.cells.setIfInBounds k (.int .u64 (((x.at k + y.at k + (addSt x y k).2) % 18446744073709551616 : Nat) : Int)) ∧
    (addSt x y (k + 1)).2 = (x.at k + y.at k + (addSt x y k).2) / 18446744073709551616 := by
  have : k = 0 ∨ k = 1 ∨ k = 2 ∨ k = 3 := by omega
  rcases this with rfl | rfl | rfl | rfl <;> constructor <;> simp [addSt, U4.cells, U4.at]
theorem addSt_le {x y : U4} (hx : x.ok) (hy : y.ok) {k : Nat} (h : k ≤ 4) : (addSt x y k).2 ≤ 1 := by
  obtain ⟨h1, h2, h3, h4⟩ := hx
  obtain ⟨k1, k2, k3, k4⟩ := hy
  have : k = 0 ∨ k = 1 ∨ k = 2 ∨ k = 3 ∨ k = 4 := by omega
  obtain ⟨a, b, c, d⟩ := x
  obtain ⟨a', b', c', d'⟩ := y
  rcases this with rfl | rfl | rfl | rfl | rfl <;> simp only [addSt] at * <;> omega

theorem four (w : World) (X Y Z S : Array Value) : LBlk ((((w.alloc (.cells X 25)).alloc (.cells Y 25)).alloc (.cells Z 25)).alloc (.cells S 25)) w.heap.size X ∧
    LBlk ((((w.alloc (.cells X 25)).alloc (.cells Y 25)).alloc (.cells Z 25)).alloc (.cells S 25)) (w.heap.size + 1) Y ∧
    LBlk ((((w.alloc (.cells X 25)).alloc (.cells Y 25)).alloc (.cells Z 25)).alloc (.cells S 25)) (w.heap.size + 1 + 1) Z ∧
    LBlk ((((w.alloc (.cells X 25)).alloc (.cells Y 25)).alloc (.cells Z 25)).alloc (.cells S 25)) (w.heap.size + 1 + 1 + 1) S ∧
    Below w.heap.size w ((((w.alloc (.cells X 25)).alloc (.cells Y 25)).alloc (.cells Z 25)).alloc (.cells S 25)) := by
  refine ⟨(((LBlk.new w X).alloc _).alloc _).alloc _, ?_, ?_, ?_, ((((Below.refl _ _).alloc (Nat.le_refl _) _).alloc (by simp) _).alloc (by simp; omega) _).alloc (by simp; omega) _⟩
  · have := ((LBlk.new (w.alloc (.cells X 25)) Y).alloc (.cells Z 25)).alloc (.cells S 25)
    simpa using this
  · have := (LBlk.new ((w.alloc (.cells X 25)).alloc (.cells Y 25)) Z).alloc (.cells S 25)
    simpa using this
  · have := LBlk.new (((w.alloc (.cells X 25)).alloc (.cells Y 25)).alloc (.cells Z 25)) S
    simpa using this
theorem LBlk.set4 {w : World} {g : Nat} {s : U4} (h : LBlk w g s.cells) (q : U4) : LBlk ((((w.setCell ⟨g, 0, none⟩ (.int .u64 (q.a : Int))).setCell ⟨g, 1, none⟩ (.int .u64 (q.b : Int))).setCell ⟨g, 2, none⟩ (.int .u64 (q.c : Int))).setCell ⟨g, 3, none⟩ (.int .u64 (q.d : Int))) g q.cells :=
  (((h.set_ 0 _).set_ 1 _).set_ 2 _).set_ 3 _
/-- all four cells of a block -/
theorem LBlk.all {w : World} {g : Nat} {s : U4} (h : LBlk w g s.cells) : w.cell? ⟨g, 0, none⟩ = some (.int .u64 (s.a : Int)) ∧ w.cell? ⟨g, 1, none⟩ = some (.int .u64 (s.b : Int)) ∧ w.cell? ⟨g, 2, none⟩ = some (.int .u64 (s.c : Int)) ∧ w.cell? ⟨g, 3, none⟩ = some (.int .u64 (s.d : Int)) :=
  ⟨h.cell 0, h.cell 1, h.cell 2, h.cell 3⟩

set_option maxHeartbeats 1000000 in
theorem add_any (x y : U4) (w : World) (hx : x.ok) (hy : y.ok) : Calls Tryz.prog 121 #[x.val, y.val] w fun e w' => e = .returned (.tuple #[(addU x y).1.val, .bool (addU x y).2]) ∧ Below w.heap.size w w' := by
  have HX := Lib.hid hx
  have HY := Lib.hid hy
  clear hx hy
  obtain ⟨X, hX⟩ : ∃ X, X = x.cells := ⟨_, rfl⟩
  obtain ⟨Y, hY⟩ : ∃ Y, Y = y.cells := ⟨_, rfl⟩
  unfold U4.val
  rw [← hX, ← hY]
  have hXc := fun (k : Nat) (h : k < 4) => hX ▸ x.cell_at h
  have hYc := fun (k : Nat) (h : k < 4) => hY ▸ y.cell_at h
  have CX := Lib.hid hXc
  have CY := Lib.hid hYc
  clear hX hY hXc hYc
  go_enter Tryz.func121, Tryz.ntmps121
  go_wp2_with fail
  go_loopw [7, 9] (fun c i wr => ∃ k : Nat, k ≤ 4 ∧ i = .int .i64 k ∧ c = .int .u64 ((addSt x y k).2 : Int) ∧ LBlk wr w.heap.size X ∧ LBlk wr (w.heap.size + 1) Y ∧ LBlk wr (w.heap.size + 1 + 1) U4.zero.cells ∧ LBlk wr (w.heap.size + 1 + 1 + 1) (addSt x y k).1.cells ∧ Below w.heap.size w wr) (fun _ i _ => 4 - (intOf i).toNat)
  case atStart =>
    obtain ⟨h1, h2, h3, h4, h5⟩ := four w X Y U4.zero.cells U4.zero.cells
    exact ⟨0, by omega, rfl, by simp [addSt], h1, h2, h3, by simp only [addSt]; exact h4, h5⟩
  case round =>
    obtain ⟨k, hk, rfl, rfl, hb0, hb1, hb2, hb3, hb⟩ := hrel
    by_cases hlt : k < 4
    · have i1 : (0 : Int) ≤ (k : Int) := by omega
      have i2 : (k : Int) < 4 := by omega
      obtain ⟨n1, n2⟩ := addSt_succ x y hlt
      have hc1 := addSt_le HX.out HY.out hk
      have e1 := (blk_cell hb0 k).trans (CX.out k hlt)
      have e2 := (blk_cell hb1 k).trans (CY.out k hlt)
      have e3 := (blk_cell hb3 k).trans (U4.cell_at _ hlt)
      have e4 := blk_free hb3 k
      have ha := add64 (x.at k) (y.at k) (addSt x y k).2 hc1
      have N1 := Lib.hid n1
      have N2 := Lib.hid n2
      have B0 := Lib.hid hb0
      have B1 := Lib.hid hb1
      have B2 := Lib.hid hb2
      have B3 := Lib.hid hb3
      have BB := Lib.hid hb
      clear hb0 hb1 hb2 hb3 hb n1 n2 hc1
      go_wp2
      go_region_held_law (fun W => W.cell? ⟨w.heap.size, k, none⟩ = some (.int .u64 (x.at k : Int)) ∧ W.cell? ⟨w.heap.size + 1, k, none⟩ = some (.int .u64 (y.at k : Int))) (first | exact ⟨e1, e2⟩ | (refine ⟨?_, ?_⟩ <;> go_simp)) ((simp only [ha]))
      go_wp2
      go_roundw
      case rel =>
        refine ⟨k + 1, by omega, by go_num, by rw [N2.out]; go_num, (B0.out.far (by omega) _ _).drew, (B1.out.far (by omega) _ _).drew, (B2.out.far (by omega) _ _).drew, ?_, ?_⟩
        · rw [N1.out]
          exact (B3.out.set_ k _).drew
        · exact below_drewN' (BB.out.setCell (by simp; omega) _) 1
      case measure => simp [intOf]; omega
    · have hk4 : k = 4 := by omega
      subst hk4
      have hsz := hb.size
      have hl := hb3.lt
      obtain ⟨s, hs⟩ : ∃ s, s = (addSt x y 4).1 := ⟨_, rfl⟩
      have hends := add_end HX.out HY.out
      by_cases hc0 : (addSt x y 4).2 = 0
      · have hau := add_fits HX.out HY.out hc0
        rw [← hs] at hau hb3
        obtain ⟨c0, c1, c2, c3⟩ := hb3.all
        obtain ⟨d0, d1, d2, d3⟩ := hb2.all
        have f0 := hb2.free 0
        have f1 := hb2.free 1
        have f2 := hb2.free 2
        have f3 := hb2.free 3
        rw [hc0]
        have HA := Lib.hid hau
        have HS := Lib.hid hs
        have BB := Lib.hid hb
        clear hau hs hc0 hends hb0 hb1 hb2 hb3 hb
        go_wp2
        refine bodyPost_ret (v := .tuple #[.agg s.cells, .bool true]) ?_ rfl ⟨?_, ?_⟩
        · simp [results, Tryz.results121, go_sem, U4.cells, d0, d1, d2, d3]
        · rw [HA.out]
        · have hg : w.heap.size ≤ w.heap.size + 1 + 1 := by omega
          exact (((BB.out.setCell hg _).setCell hg _).setCell hg _).setCell hg _
      · have hau := add_over HX.out HY.out hc0
        obtain ⟨d0, d1, d2, d3⟩ := hb2.all
        have f0 := hb2.free 0
        have f1 := hb2.free 1
        have f2 := hb2.free 2
        have f3 := hb2.free 3
        have hc1 : (addSt x y 4).2 = 1 := by omega
        rw [hc1]
        have HA := Lib.hid hau
        have BB := Lib.hid hb
        clear hau hs hc0 hc1 hends hb0 hb1 hb2 hb3 hb
        go_wp2
        refine bodyPost_ret (v := .tuple #[.agg U4.zero.cells, .bool false]) ?_ rfl ⟨?_, ?_⟩
        · simp [results, Tryz.results121, go_sem, U4.cells, U4.zero, d0, d1, d2, d3]
        · rw [HA.out]
        · have hg : w.heap.size ≤ w.heap.size + 1 + 1 := by omega
          exact (((BB.out.setCell hg _).setCell hg _).setCell hg _).setCell hg _
end Go.Proofs.YtpcoonnfaoakhaaGreatDoor
namespace Go.Proofs.YtpcoonnfaoakhaaGreatDoor
set_option maxRecDepth 100000
open Go.RowKit

theorem sub64 (a b c : Nat) (hc : c ≤ 1) (W : World) : (callFunc 175 #[.int .u64 (a : Int), .int .u64 (b : Int), .int .u64 (c : Int)]).run Tryz.prog W =
    .ok (.value (.tuple #[.int .u64 (((a + 18446744073709551616 - b - c) % 18446744073709551616 : Nat) : Int), .int .u64 ((if a < b + c then 1 else 0 : Nat) : Int)])) W := by
  rw [run_callFunc_extern Tryz.func175 (by kernel_rfl) (by kernel_rfl) (by kernel_rfl) (e := sub64Entry) (by kernel_rfl), run_sub64 a b c hc]
  rfl
theorem subSt_succ (x y : U4) {k : Nat} (h : k < 4) : (subSt x y (k + 1)).1.cells = (subSt x y k).1.cells.setIfInBounds k (.int .u64 (((x.at k + 18446744073709551616 - y.at k - (subSt x y k).2) % 18446744073709551616 : Nat) : Int)) ∧
    (subSt x y (k + 1)).2 = (if x.at k < y.at k + (subSt x y k).2 then 1 else 0 : Nat) := by
  have : k = 0 ∨ k = 1 ∨ k = 2 ∨ k = 3 := by omega
  rcases this with rfl | rfl | rfl | rfl <;> constructor <;> simp [subSt, U4.cells, U4.at]
theorem ite_le (p : Prop) [Decidable p] : (if p then 1 else 0 : Nat) ≤ 1 := by split <;> omega
theorem subSt_le (x y : U4) {k : Nat} (h : k ≤ 4) : (subSt x y k).2 ≤ 1 := by
  have : k = 0 ∨ k = 1 ∨ k = 2 ∨ k = 3 ∨ k = 4 := by omega
  rcases this with rfl | rfl | rfl | rfl | rfl <;> simp only [subSt] <;> first | omega | exact ite_le _

set_option maxHeartbeats 1000000 in
theorem sub_any (x y : U4) (w : World) (hx : x.ok) (hy : y.ok) : Calls Tryz.prog 120 #[x.val, y.val] w fun e w' => e = .returned (.tuple #[(subU x y).1.val, .bool (subU x y).2]) ∧ Below w.heap.size w w' := by
  have HX := Lib.hid hx
  have HY := Lib.hid hy
  clear hx hy
  obtain ⟨X, hX⟩ : ∃ X, X = x.cells := ⟨_, rfl⟩
  obtain ⟨Y, hY⟩ : ∃ Y, Y = y.cells := ⟨_, rfl⟩
  unfold U4.val
  rw [← hX, ← hY]
  have hXc := fun (k : Nat) (h : k < 4) => hX ▸ x.cell_at h
  have hYc := fun (k : Nat) (h : k < 4) => hY ▸ y.cell_at h
  have CX := Lib.hid hXc
  have CY := Lib.hid hYc
  clear hX hY hXc hYc
  go_enter Tryz.func120, Tryz.ntmps120
  go_wp2_with fail
  go_loopw [7, 9] (fun c i wr => ∃ k : Nat, k ≤ 4 ∧ i = .int .i64 k ∧ c = .int .u64 ((subSt x y k).2 : Int) ∧ LBlk wr w.heap.size X ∧ LBlk wr (w.heap.size + 1) Y ∧ LBlk wr (w.heap.size + 1 + 1) U4.zero.cells ∧ LBlk wr (w.heap.size + 1 + 1 + 1) (subSt x y k).1.cells ∧ Below w.heap.size w wr) (fun _ i _ => 4 - (intOf i).toNat)
  case atStart =>
    obtain ⟨h1, h2, h3, h4, h5⟩ := four w X Y U4.zero.cells U4.zero.cells
    exact ⟨0, by omega, rfl, by simp [subSt], h1, h2, h3, by simp only [subSt]; exact h4, h5⟩
  case round =>
    obtain ⟨k, hk, rfl, rfl, hb0, hb1, hb2, hb3, hb⟩ := hrel
    by_cases hlt : k < 4
    · have i1 : (0 : Int) ≤ (k : Int) := by omega
      have i2 : (k : Int) < 4 := by omega
      obtain ⟨n1, n2⟩ := subSt_succ x y hlt
      have hc1 := subSt_le x y hk
      have e1 := (blk_cell hb0 k).trans (CX.out k hlt)
      have e2 := (blk_cell hb1 k).trans (CY.out k hlt)
      have e3 := (blk_cell hb3 k).trans (U4.cell_at _ hlt)
      have e4 := blk_free hb3 k
      have ha := sub64 (x.at k) (y.at k) (subSt x y k).2 hc1
      generalize (x.at k + 18446744073709551616 - y.at k - (subSt x y k).2) % 18446744073709551616 = r at ha n1
      generalize (if x.at k < y.at k + (subSt x y k).2 then 1 else 0 : Nat) = c' at ha n2
      have N1 := Lib.hid n1
      have N2 := Lib.hid n2
      have B0 := Lib.hid hb0
      have B1 := Lib.hid hb1
      have B2 := Lib.hid hb2
      have B3 := Lib.hid hb3
      have BB := Lib.hid hb
      clear hb0 hb1 hb2 hb3 hb n1 n2 hc1
      go_wp2
      go_region_held_law (fun W => W.cell? ⟨w.heap.size, k, none⟩ = some (.int .u64 (x.at k : Int)) ∧ W.cell? ⟨w.heap.size + 1, k, none⟩ = some (.int .u64 (y.at k : Int))) (first | exact ⟨e1, e2⟩ | (refine ⟨?_, ?_⟩ <;> go_simp)) ((simp only [ha]))
      go_wp2
      go_roundw
      case rel =>
        refine ⟨k + 1, by omega, by go_num, by rw [N2.out], (B0.out.far (by omega) _ _).drew, (B1.out.far (by omega) _ _).drew, (B2.out.far (by omega) _ _).drew, ?_, ?_⟩
        · rw [N1.out]
          exact (B3.out.set_ k _).drew
        · exact below_drewN' (BB.out.setCell (by simp; omega) _) 1
      case measure => simp [intOf]; omega
    · have hk4 : k = 4 := by omega
      subst hk4
      have hsz := hb.size
      have hl := hb3.lt
      obtain ⟨s, hs⟩ : ∃ s, s = (subSt x y 4).1 := ⟨_, rfl⟩
      have hends := sub_end HX.out HY.out
      by_cases hc0 : (subSt x y 4).2 = 0
      · have hau := sub_fits HX.out HY.out hc0
        rw [← hs] at hau hb3
        obtain ⟨c0, c1, c2, c3⟩ := hb3.all
        obtain ⟨d0, d1, d2, d3⟩ := hb2.all
        have f0 := hb2.free 0
        have f1 := hb2.free 1
        have f2 := hb2.free 2
        have f3 := hb2.free 3
        rw [hc0]
        have HA := Lib.hid hau
        have HS := Lib.hid hs
        have BB := Lib.hid hb
        clear hau hs hc0 hends hb0 hb1 hb2 hb3 hb
        go_wp2
        refine bodyPost_ret (v := .tuple #[.agg s.cells, .bool true]) ?_ rfl ⟨?_, ?_⟩
        · simp [results, Tryz.results120, go_sem, U4.cells, d0, d1, d2, d3]
        · rw [HA.out]
        · have hg : w.heap.size ≤ w.heap.size + 1 + 1 := by omega
          exact (((BB.out.setCell hg _).setCell hg _).setCell hg _).setCell hg _
      · have hau := sub_over HX.out HY.out hc0
        obtain ⟨d0, d1, d2, d3⟩ := hb2.all
        have f0 := hb2.free 0
        have f1 := hb2.free 1
        have f2 := hb2.free 2
        have f3 := hb2.free 3
        have hc1 : (subSt x y 4).2 = 1 := by omega
        rw [hc1]
        have HA := Lib.hid hau
        have BB := Lib.hid hb
        clear hau hs hc0 hc1 hends hb0 hb1 hb2 hb3 hb
        go_wp2
        refine bodyPost_ret (v := .tuple #[.agg U4.zero.cells, .bool false]) ?_ rfl ⟨?_, ?_⟩
        · simp [results, Tryz.results120, go_sem, U4.cells, U4.zero, d0, d1, d2, d3]
        · rw [HA.out]
        · have hg : w.heap.size ≤ w.heap.size + 1 + 1 := by omega
          exact (((BB.out.setCell hg _).setCell hg _).setCell hg _).setCell hg _
end Go.Proofs.YtpcoonnfaoakhaaGreatDoor
namespace Go.Proofs.YtpcoonnfaoakhaaGreatDoor
set_option maxRecDepth 100000
open Go Go.RowKit

/-- are they the same? -/
def eqB (x y : U4) : Bool := decide (x.a = y.a) && (decide (x.b = y.b) && (decide (x.c = y.c) && decide (x.d = y.d)))
theorem eqB_iff {x y : U4} : eqB x y = true ↔ x = y := by
  obtain ⟨a, b, c, d⟩ := x
  obtain ⟨a', b', c', d'⟩ := y
  simp [eqB]
theorem size_u64 (w : World) : (sizeOf 23).run Tryz.prog w = .ok 1 w := by rfl
theorem part_at (x : U4) (w : World) {k : Nat} (h : k < 4) : (part 23 x.cells (k * 1)).run Tryz.prog w = .ok (.int .u64 (x.at k : Int)) w := by
  have : k = 0 ∨ k = 1 ∨ k = 2 ∨ k = 3 := by omega
  rcases this with rfl | rfl | rfl | rfl <;> rfl
theorem part1 (x : U4) (w : World) : (part 23 x.cells 1).run Tryz.prog w = .ok (.int .u64 (x.b : Int)) w := by rfl
theorem part2 (x : U4) (w : World) : (part 23 x.cells 2).run Tryz.prog w = .ok (.int .u64 (x.c : Int)) w := by rfl
theorem part3 (x : U4) (w : World) : (part 23 x.cells 3).run Tryz.prog w = .ok (.int .u64 (x.d : Int)) w := by rfl
theorem eqInt (a b : Nat) (w : World) : (Op.equalIn 9999 23 (.int .u64 (a : Int)) (.int .u64 (b : Int))).run Tryz.prog w = .ok (decide (a = b)) w := by
  rw [run_equalIn_int w 9998 _ _ _ _ _ Tryz.underlying23]
  congr 1
  rw [Bool.eq_iff_iff]; simp; omega
theorem beq_nat (a b : Nat) : ((a : Int) == (b : Int)) = decide (a = b) := by
  rw [Bool.eq_iff_iff]; simp; omega
theorem run_equal4 (x y : U4) (w : World) : (Op.equalIn 10000 25 (.agg x.cells) (.agg y.cells)).run Tryz.prog w = .ok (eqB x y) w := by
  rw [Op.equalIn]
  simp only [Sem.run_bind, run_underlying Tryz.underlying25, Result.andThen_ok, size_u64, Std.Legacy.Range.forIn_eq_forIn_range', Std.Legacy.Range.size, Nat.sub_zero, Nat.add_sub_cancel, Nat.div_one]
  rw [show List.range' 0 4 1 = [0, 1, 2, 3] from rfl]
  simp only [List.forIn_cons, List.forIn_nil, Sem.run_bind, part_at x _ (show 0 < 4 by omega), part_at x _ (show 1 < 4 by omega), part_at x _ (show 2 < 4 by omega), part_at x _ (show 3 < 4 by omega), part_at y _ (show 0 < 4 by omega), part_at y _ (show 1 < 4 by omega), part_at y _ (show 2 < 4 by omega), part_at y _ (show 3 < 4 by omega), Result.andThen_ok,
    run_equalIn_int _ _ _ _ _ _ _ Tryz.underlying23, beq_nat]
  unfold eqB
  by_cases h1 : x.a = y.a <;> by_cases h2 : x.b = y.b <;> by_cases h3 : x.c = y.c <;> by_cases h4 : x.d = y.d <;> simp [U4.at, h1, h2, h3, h4, part1, part2, part3, eqInt, Result.andThen]
theorem eql4 (x y : U4) (w : World) : (binOp .eql 25 (.agg x.cells) (.agg y.cells)).run Tryz.prog w = .ok (.bool (eqB x y)) w := by
  rw [run_eql_struct, run_equal4]; rfl
end Go.Proofs.YtpcoonnfaoakhaaGreatDoor
namespace Go.Proofs.YtpcoonnfaoakhaaGreatDoor
set_option maxRecDepth 100000
open Go Go.RowKit

set_option maxHeartbeats 1000000 in
theorem zero_any (x : U4) (w : World) : Calls Tryz.prog 51 #[x.val] w fun e w' => e = .returned (.bool (eqB x U4.zero)) ∧ Below w.heap.size w w' := by
  have he : ∀ W, (binOp .eql 25 (.agg #[.int .u64 (x.a : Int), .int .u64 (x.b : Int), .int .u64 (x.c : Int), .int .u64 (x.d : Int)]) (.agg #[.int .u64 0, .int .u64 0, .int .u64 0, .int .u64 0])).run Tryz.prog W = .ok (.bool (eqB x U4.zero)) W := fun W => eql4 x U4.zero W
  unfold U4.val U4.cells
  generalize eqB x U4.zero = b at *
  go_enter Tryz.func51, Tryz.ntmps51
  go_wp2_with fail
  go_ret
  exact ⟨rfl, (Below.refl _ _).alloc (Nat.le_refl _) _⟩

/-- what Cmp answers -/
def cmpN (m n : Nat) : Int := if m = n then 0 else if n < m then 1 else -1

end Go.Proofs.YtpcoonnfaoakhaaGreatDoor
namespace Go.Proofs.YtpcoonnfaoakhaaGreatDoor
set_option maxRecDepth 100000
open Go Go.RowKit

def intV (d : Nat) : Value := .int .i64 (d : Int)
def dcells (p : List Nat) : List Value := p.map intV
section
variable {w w' : World} {B B' b k : Nat} {t : TypeId} {v : Value} {D : List Nat}
/-- a row of numbers, of the call's own from B on -/
def OwnI (w : World) (B : Nat) (v : Value) (D : List Nat) : Prop := w.ownsRow B 3 1 v D.length (dcells D)
theorem OwnI.form (h : OwnI w B v D) : ∃ A c, v = .slice A D.length c := by
  rcases h.2 with ⟨rfl, h0⟩ | ⟨g, cap, cur, rfl, _⟩
  · exact ⟨none, 0, by rw [h0]⟩
  · exact ⟨_, _, rfl⟩
theorem OwnI.nil (w : World) (B : Nat) : OwnI w B (.slice none 0 0) [] := World.ownsRow_nil w B _ 1
theorem OwnI.more (h : OwnI w B v D) (hB : B' ≤ B) : OwnI w B' v D := World.ownsRow.mono h hB
theorem OwnI.up (h : OwnI w B v D) (hb : Below w.heap.size w w') : OwnI w' B v D := by
  refine ⟨h.1, ?_⟩
  rcases h.2 with h0 | ⟨g, cap, cur, hv, hB, hg, rest⟩
  · exact .inl h0
  · exact .inr ⟨g, cap, cur, hv, hB, (hb.block g (Array.getElem?_eq_some_iff.1 hg).1).trans hg, rest⟩
theorem OwnI.at_ {A : Option Addr} {n c : Nat} (h : OwnI w B (.slice A n c) D) (j : Nat) (hj : j < D.length) : ∃ g, A = some ⟨g, 0, none⟩ ∧ n = D.length ∧ g < w.heap.size ∧ w.cell? ⟨g, j, none⟩ = some (.int .i64 (D.getD j 0 : Int)) := by
  rcases h.2 with ⟨_, h0⟩ | ⟨g, cap, cur, hv, hb, hg, hn, hm, hs, ht⟩
  · omega
  · injection hv with h1 h2 h3
    subst h1; subst h2; subst h3
    refine ⟨g, rfl, rfl, (Array.getElem?_eq_some_iff.1 hg).1, ?_⟩
    have hx : (dcells D)[j]? = some (.int .i64 (D.getD j 0 : Int)) := by simp [dcells, intV, hj, List.getD_eq_getElem?_getD]
    rw [cell_of_row w g _ cur _ (0, 0) hg]
    rw [← ht, List.getElem?_take] at hx
    split at hx
    · simpa using hx
    · cases hx
/-- a number of it is written -/
theorem OwnI.put {A : Option Addr} {n c k : Nat} (h : OwnI w B (.slice A n c) D) (hk : k < D.length) :
    ∃ g, A = some ⟨g, 0, none⟩ ∧ B ≤ g ∧ g < w.heap.size ∧ w.cell? ⟨g, k, none⟩ = some (.int .i64 (D.getD k 0 : Int)) ∧ w.frozen? ⟨g, k, none⟩ = false ∧
      ∀ x : Nat, OwnI (w.setCell ⟨g, k, none⟩ (.int .i64 (x : Int))) B (.slice A n c) (D.set k x) := by
  obtain ⟨g, rfl, hn, hlt, hcell⟩ := h.at_ k hk
  have hlt2 := World.ownsRow.lt h g rfl
  subst hn
  refine ⟨g, rfl, hlt2.1, hlt, hcell, World.ownsRow.frozenAt (h : w.ownsRow B _ 1 _ _ _) k, fun x => ?_⟩
  have h2 := World.ownsRow.stored (h : w.ownsRow B _ 1 _ _ _) k (.int .i64 (x : Int))
  unfold OwnI
  rw [List.length_set]
  have e : dcells (D.set k x) = (dcells D).set k (.int .i64 (x : Int)) := by simp [dcells, List.map_set, intV]
  rw [e]
  exact h2.1
theorem OwnI.grown (h : OwnI w B v D) {row : Option Nat} (hg : w.grownBy w' row) (hne : v.ownBlock = none ∨ v.ownBlock ≠ row) : OwnI w' B v D := World.ownsRow.kept h hg hne
theorem OwnI.drew (h : OwnI w B v D) : OwnI w.drew B v D := h
theorem OwnI.drewN (h : OwnI w B v D) (q : Nat) : OwnI (w.drewN q) B v D := h
theorem OwnI.alloc (h : OwnI w B v D) (o : Obj) : OwnI (w.alloc o) B v D := World.ownsRow.alloc h o
theorem OwnI.lt (h : OwnI w B v D) : ∀ k, v.ownBlock = some k → B ≤ k ∧ k < w.heap.size := World.ownsRow.lt h
theorem OwnI.below (h : OwnI w B v D) {w0 : World} (h0 : Below B w0 w) (hB : B ≤ w.heap.size) (hg : w.grownBy w' v.ownBlock) : Below B w0 w' := h0.grown hg hB fun k hk => (h.lt k hk).1

variable {P : Program}
end
end Go.Proofs.YtpcoonnfaoakhaaGreatDoor
namespace Go.Proofs.YtpcoonnfaoakhaaGreatDoor
set_option maxRecDepth 100000
open Go Go.RowKit

theorem at_eq (x : U4) (i : Nat) : x.at i = x.at' i := by
  unfold U4.at U4.at'
  rfl
theorem at_lt' {x : U4} (hx : x.ok) (k : Nat) : x.at k < 18446744073709551616 := by
  unfold U4.at
  split
  · exact hx.1
  · exact hx.2.1
  · exact hx.2.2.1
  · exact hx.2.2.2
theorem OwnI.zero (w : World) (B : Nat) (n : Nat) : OwnI w B (.slice none 0 0) (byL n 0) := OwnI.nil w B

end Go.Proofs.YtpcoonnfaoakhaaGreatDoor
namespace Go.Proofs.YtpcoonnfaoakhaaGreatDoor
set_option maxRecDepth 100000
open Go Go.RowKit

theorem cells4 {a b c d a' b' c' d' : Nat} (h1 : a = a') (h2 : b = b') (h3 : c = c') (h4 : d = d') : (#[.int .u64 (a : Int), .int .u64 (b : Int), .int .u64 (c : Int), .int .u64 (d : Int)] : Array Value) = #[.int .u64 (a' : Int), .int .u64 (b' : Int), .int .u64 (c' : Int), .int .u64 (d' : Int)] := by
  subst h1; subst h2; subst h3; subst h4; rfl
theorem two (w : World) (X Y : Array Value) : LBlk ((w.alloc (.cells X 25)).alloc (.cells Y 25)) w.heap.size X ∧
    LBlk ((w.alloc (.cells X 25)).alloc (.cells Y 25)) (w.heap.size + 1) Y ∧
    Below w.heap.size w ((w.alloc (.cells X 25)).alloc (.cells Y 25)) := by
  refine ⟨(LBlk.new w X).alloc _, ?_, ((Below.refl _ _).alloc (Nat.le_refl _) _).alloc (by simp) _⟩
  have := LBlk.new (w.alloc (.cells X 25)) Y
  simpa using this

end Go.Proofs.YtpcoonnfaoakhaaGreatDoor
namespace Go.Proofs.YtpcoonnfaoakhaaGreatDoor
set_option maxRecDepth 100000
open Go Go.RowKit

theorem be_get (n : Nat) : ∀ k j (h : j < (be n k).length), (be n k)[j] = UInt8.ofNat (n / 2 ^ (8 * (k - 1 - j)))
  | 0, j, h => by simp [be] at h
  | k + 1, 0, h => by simp [be]
  | k + 1, j + 1, h => by
    have ih := be_get n k j (by simpa [be] using h)
    simp only [be, List.getElem_cons_succ, ih]
    rw [show k + 1 - 1 - (j + 1) = k - 1 - j by omega]
theorem be_byte {x : U4} (hx : x.ok) (k : Nat) (hk : k < 32) : (be x.nat 32)[k]'(by rw [be_length]; omega) = UInt8.ofNat (x.at ((31 - k) / 8) / 256 ^ ((31 - k) % 8)) := by
  have h := at_byte hx ((31 - k) / 8) ((31 - k) % 8) (by omega) (Nat.mod_lt _ (by decide))
  rw [Nat.div_add_mod] at h
  rw [be_get, show 32 - 1 - k = 31 - k by omega, show 2 ^ (8 * (31 - k)) = 256 ^ (31 - k) by rw [Nat.pow_mul], at_eq]
  apply UInt8.toNat_inj.1
  simp only [UInt8.toNat_ofNat']
  exact h.symm
/-- the first k bytes are there, the others are 0 -/
def partB (n k : Nat) : List UInt8 := (be n 32).take k ++ List.replicate (32 - k) 0
theorem partB_set (n k : Nat) (hk : k < 32) : (partB n k).set k ((be n 32)[k]'(by rw [be_length]; omega)) = partB n (k + 1) := by
  have hl := be_length n 32
  unfold partB
  obtain ⟨m, hm⟩ : ∃ m, 32 - k = m + 1 := ⟨31 - k, by omega⟩
  have h0 : k - ((be n 32).take k).length = 0 := by rw [List.length_take]; omega
  rw [hm, show 32 - (k + 1) = m by omega, List.set_append_right _ _ (by rw [List.length_take]; omega), h0, List.replicate_succ, List.set_cons_zero, List.take_succ_eq_append_getElem (by omega), List.append_assoc]
  rfl
theorem partB_length (n k : Nat) (hk : k ≤ 32) : (partB n k).length = 32 := by
  unfold partB
  rw [List.length_append, List.length_take, be_length, List.length_replicate]; omega

set_option maxHeartbeats 2000000 in
theorem bytes_any (x : U4) (w : World) (hx : x.ok) : Calls Tryz.prog 178 #[x.val] w fun e w' => ∃ v', e = .returned v' ∧ Own w' w.heap.size v' (be x.nat 32) ∧ Below w.heap.size w w' := by
  have HX := Lib.hid hx
  have HBB := Lib.hid (fun k hk => be_byte hx k hk)
  clear hx
  obtain ⟨X, hX⟩ : ∃ X, X = x.cells := ⟨_, rfl⟩
  unfold U4.val
  rw [← hX]
  have CX := Lib.hid (fun (k : Nat) (h : k < 4) => hX ▸ x.cell_at h)
  clear hX
  have hblk := LBlk.new w X
  have hbw : Below w.heap.size w (w.alloc (.cells X 25)) := (Below.refl _ _).alloc (Nat.le_refl _) _
  obtain ⟨i0, hi, hz, hsz, hby⟩ := info_parts Tryz.infoByte
  have hmk : ∀ W : World, (Instr.makeSlice 27 (.int .i64 32) (.int .i64 32)).run Tryz.prog W = .ok (.slice (some ⟨W.heap.size, 0, none⟩) 32 32) (W.alloc (.cells (bcells (List.replicate 32 0)).toArray 5)) := by
    intro W
    have h := run_make W 27 5 i0 (.int .u8 0) Tryz.underlying27 hi hz .i64 .i64 32 32 (by omega) (by omega) (by rw [hby]; omega) (by omega)
    rw [hsz] at h
    have e : madeCells (Value.int .u8 0).cells (Int.toNat 32 * 1) = (bcells (List.replicate 32 0)).toArray := by
      rw [show Int.toNat 32 * 1 = 32 from rfl]
      apply Array.ext'
      rw [show (Value.int IntKind.u8 0).cells = #[Value.int .u8 0] from rfl, toList_madeCells_one]
      rfl
    rw [e] at h
    exact h
  obtain ⟨N, hN⟩ : ∃ N, N = x.nat := ⟨_, rfl⟩
  have HN := Lib.hid hN
  clear hN
  go_enter Tryz.func178, Tryz.ntmps178
  go_wp2_with fail
  have hO := Own.made (B := (w.alloc (.cells X 25)).heap.size) (w.alloc (.cells X 25)) (List.replicate 32 0) (Nat.le_refl _) (by simp [maxLen])
  have hbw2 : Below (w.alloc (.cells X 25)).heap.size (w.alloc (.cells X 25)) ((w.alloc (.cells X 25)).alloc (.cells (bcells (List.replicate 32 0)).toArray 5)) := (Below.refl _ _).alloc (Nat.le_refl _) _
  have hze : (w.alloc (.cells X 25)).heap.size = w.heap.size + 1 := by simp
  rw [hze] at hO hbw2
  have hp0 : partB N 0 = List.replicate 32 0 := rfl
  generalize w.alloc (.cells X 25) = w0 at *
  have HZ := Lib.hid hze
  clear hze hmk
  go_loopw [9] (fun i wr => ∃ k : Nat, k ≤ 32 ∧ i = .int .i64 (k : Int) ∧ Own wr (w.heap.size + 1) (.slice (some ⟨w.heap.size + 1, 0, none⟩) 32 32) (partB N k) ∧ Below (w.heap.size + 1) w0 wr)
    (fun i _ => 32 - (intOf i).toNat)
  case atStart => exact ⟨0, Nat.zero_le _, rfl, by rw [hp0]; exact hO, hbw2⟩
  case round =>
    clear hO hbw2
    obtain ⟨k, hk, rfl, ho, hb⟩ := hrel
    have hpl := partB_length N k hk
    by_cases hlt : k < 32
    · have i1 : (k : Int) < 32 := by omega
      have j0 : (0 : Int) ≤ (k : Int) := by omega
      obtain ⟨gA, hgA, _, hgs, hcell, hfz, hput⟩ := ho.at_ hlt (by omega)
      injection hgA with hgA
      injection hgA with hgA _ _
      subst hgA
      have hps := partB_set N k hlt
      have hby2 := HBB.out k hlt
      rw [← HN.out] at hby2
      rw [hby2] at hps
      obtain ⟨low, hlow⟩ : ∃ low, low = 31 - k := ⟨_, rfl⟩
      rw [← hlow] at hps hby2
      have hlt4 : low / 8 < 4 := by omega
      have hc := ((hb.cell (p := ⟨w.heap.size, low / 8, none⟩) (by simp)).trans (blk_cell hblk (low / 8))).trans (CX.out (low / 8) hlt4)
      have ha := at_lt' HX.out (low / 8)
      generalize x.at (low / 8) = a at *
      have HS := Lib.hid (by have h := hput (UInt8.ofNat (a / 256 ^ (low % 8))); rw [hps] at h; exact h)
      have e31 : (31 : Int) - (k : Int) = (low : Int) := by omega
      have l0 : (0 : Int) ≤ (low : Int) := by omega
      have l32 : (low : Int) < 32 := by omega
      have HPL := Lib.hid hpl
      generalize (partB N k)[k]'_ = old at hcell
      clear hput hps hby2 hlow ho hpl
      go_wp2_with fail
      have hv : Value.int .u8 ((a : Int) / 2 ^ (8 * (low % 8)) % 256) = bval (UInt8.ofNat (a / 256 ^ (low % 8))) := by
        have h : (2 : Nat) ^ (8 * (low % 8)) = 256 ^ (low % 8) := by rw [Nat.pow_mul]
        unfold bval
        rw [UInt8.toNat_ofNat', ← h]
        congr 1
      rw [hv]
      refine ⟨⟨k + 1, by omega, rfl, HS.out, hb.setCell (Nat.le_refl _) _⟩, ?_⟩
      simp only [intOf]
      omega
    · have hk32 : k = 32 := by omega
      subst hk32
      have hfull : partB N 32 = be N 32 := by
        unfold partB
        rw [List.take_of_length_le (by rw [be_length]; omega)]
        simp
      rw [hfull, HN.out] at ho
      clear hfull hpl hp0
      go_wp2_with fail
      try go_ret
      refine ⟨_, rfl, Own.more ho (by omega), hbw.trans (hb.mono (by omega))⟩
end Go.Proofs.YtpcoonnfaoakhaaGreatDoor
namespace Go.Proofs.YtpcoonnfaoakhaaGreatDoor
set_option maxRecDepth 100000
open Go Go.RowKit

/-- the first k numbers are there, the others are 0 -/
def partI (L : List Nat) (k : Nat) : List Nat := L.take k ++ List.replicate (32 - k) 0
theorem OwnI.made (w : World) {B : Nat} (D : List Nat) (hb : B ≤ w.heap.size) (hm : D.length ≤ maxLen) : OwnI (w.alloc (.cells (dcells D).toArray 3)) B (.slice (some ⟨w.heap.size, 0, none⟩) D.length D.length) D :=
  ⟨by simp [dcells], .inr ⟨w.heap.size, D.length, _, rfl, hb, heap_alloc_new w _, Nat.le_refl _, hm, by simp [dcells], by simp [dcells, List.take_of_length_le]⟩⟩
end Go.Proofs.YtpcoonnfaoakhaaGreatDoor
namespace Go.Proofs.YtpcoonnfaoakhaaGreatDoor
set_option maxRecDepth 100000
open Go Go.RowKit

theorem pow_v (r : Nat) (h : r < 8) : ∃ v, 1 ≤ v ∧ 18446744073709551616 = 256 ^ r * 256 * v := by
  have : r = 0 ∨ r = 1 ∨ r = 2 ∨ r = 3 ∨ r = 4 ∨ r = 5 ∨ r = 6 ∨ r = 7 := by omega
  rcases this with rfl | rfl | rfl | rfl | rfl | rfl | rfl | rfl
  · exact ⟨2 ^ 56, by decide, by decide⟩
  · exact ⟨2 ^ 48, by decide, by decide⟩
  · exact ⟨2 ^ 40, by decide, by decide⟩
  · exact ⟨2 ^ 32, by decide, by decide⟩
  · exact ⟨2 ^ 24, by decide, by decide⟩
  · exact ⟨2 ^ 16, by decide, by decide⟩
  · exact ⟨2 ^ 8, by decide, by decide⟩
  · exact ⟨1, by decide, by decide⟩
theorem high_step (M k d : Nat) (hk : k < 32) (hd : d < 256) :
    (ofN (M * 256 ^ (k + 1) + 256 ^ k * d)).cells = (ofN (M * 256 ^ (k + 1))).cells.setIfInBounds (k / 8) (.int .u64 (((ofN (M * 256 ^ (k + 1))).at (k / 8) + d * 256 ^ (k % 8) : Nat) : Int)) ∧
      (ofN (M * 256 ^ (k + 1))).at (k / 8) + d * 256 ^ (k % 8) < 18446744073709551616 ∧ ∃ e, (ofN (M * 256 ^ (k + 1))).at (k / 8) = 256 ^ (k % 8) * 256 * e := by
  obtain ⟨p0, p1, p2, p3⟩ := pow8
  have hr : k % 8 < 8 := Nat.mod_lt _ (by decide)
  obtain ⟨v, hv1, hv⟩ := pow_v (k % 8) hr
  have he : 256 ^ k = 256 ^ (8 * (k / 8)) * 256 ^ (k % 8) := by rw [← Nat.pow_add, Nat.div_add_mod]
  have ht : d * 256 ^ (k % 8) ≤ 255 * 256 ^ (k % 8) := Nat.mul_le_mul_right _ (by omega)
  have hp1 : 0 < 256 ^ (k % 8) := Nat.pow_pos (by decide)
  have hm : 256 ^ k * d = 256 ^ (8 * (k / 8)) * (d * 256 ^ (k % 8)) := by rw [he, Nat.mul_assoc, Nat.mul_comm (256 ^ (k % 8)) d]
  have hV : M * 256 ^ (k + 1) = 256 ^ (8 * (k / 8)) * (256 ^ (k % 8) * 256 * M) := by
    rw [Nat.pow_succ, he, Nat.mul_comm M, Nat.mul_assoc, Nat.mul_assoc, Nat.mul_assoc]
  have hq : k / 8 = 0 ∨ k / 8 = 1 ∨ k / 8 = 2 ∨ k / 8 = 3 := by omega
  rw [hm, hV]
  generalize d * 256 ^ (k % 8) = t at *
  generalize 256 ^ (k % 8) = P at *
  generalize k / 8 = q at *
  clear he hm hV hr hk hd
  obtain ⟨m, hm⟩ : ∃ m, m = P * 256 * M := ⟨_, rfl⟩
  rw [← hm]
  have hmm : m % 18446744073709551616 = P * 256 * (M % v) := by rw [hm, hv, Nat.mul_mod_mul_left]
  have hlt : P * 256 * (M % v) + P * 256 ≤ 18446744073709551616 := by
    rw [hv, ← Nat.mul_succ]
    exact Nat.mul_le_mul_left _ (Nat.mod_lt _ hv1)
  have hsum : m % 18446744073709551616 + t < 18446744073709551616 := by omega
  have hex : ∃ e, m % 18446744073709551616 = P * 256 * e := ⟨_, hmm⟩
  clear hmm hlt hm hv hv1 ht hp1
  rcases hq with rfl | rfl | rfl | rfl
  · rw [p0]
    have e0 : (ofN (1 * m)).at 0 = m % 18446744073709551616 := by simp only [ofN, U4.at]; omega
    refine ⟨?_, by rw [e0]; exact hsum, by rw [e0]; exact hex⟩
    rw [e0]
    simp only [ofN, U4.cells, List.setIfInBounds_toArray, List.set_cons_zero]
    exact cells4 (by omega) (by omega) (by omega) (by omega)
  · rw [p1]
    have e0 : (ofN (18446744073709551616 * m)).at 1 = m % 18446744073709551616 := by simp only [ofN, U4.at]; omega
    refine ⟨?_, by rw [e0]; exact hsum, by rw [e0]; exact hex⟩
    rw [e0]
    simp only [ofN, U4.cells, List.setIfInBounds_toArray, List.set_cons_zero, List.set_cons_succ]
    exact cells4 (by omega) (by omega) (by omega) (by omega)
  · rw [p2]
    have e0 : (ofN (340282366920938463463374607431768211456 * m)).at 2 = m % 18446744073709551616 := by simp only [ofN, U4.at]; omega
    refine ⟨?_, by rw [e0]; exact hsum, by rw [e0]; exact hex⟩
    rw [e0]
    simp only [ofN, U4.cells, List.setIfInBounds_toArray, List.set_cons_zero, List.set_cons_succ]
    exact cells4 (by omega) (by omega) (by omega) (by omega)
  · rw [p3]
    have e0 : (ofN (6277101735386680763835789423207666416102355444464034512896 * m)).at 3 = m % 18446744073709551616 := by simp only [ofN, U4.at]; omega
    refine ⟨?_, by rw [e0]; exact hsum, by rw [e0]; exact hex⟩
    rw [e0]
    simp only [ofN, U4.cells, List.setIfInBounds_toArray, List.set_cons_zero, List.set_cons_succ]
    exact cells4 (by omega) (by omega) (by omega) (by omega)
theorem or_high (a d r : Nat) (hr : r < 8) (hd : d < 256) (hs : a + d * 256 ^ r < 18446744073709551616) (ha : ∃ e, a = 256 ^ r * 256 * e) : bits .or .u64 (a : Int) (IntKind.u64.wrap ((d : Int) * 2 ^ min (8 * r) 64)) = ((a + d * 256 ^ r : Nat) : Int) := by
  obtain ⟨e', hae⟩ := ha
  have ht : d * 256 ^ r ≤ 255 * 256 ^ r := Nat.mul_le_mul_right _ (by omega)
  have hp1 : 0 < 256 ^ r := Nat.pow_pos (by decide)
  have e : (d : Int) * 2 ^ min (8 * r) 64 = ((d * 256 ^ r : Nat) : Int) := by
    rw [Nat.min_eq_left (by omega), show 256 ^ r = 2 ^ (8 * r) by rw [Nat.pow_mul]]
    push_cast
    rfl
  have hp : 256 ^ r * 256 = 2 ^ (8 * (r + 1)) := by rw [Nat.pow_mul]; rfl
  have hlt : d * 256 ^ r < 2 ^ (8 * (r + 1)) := by rw [← hp]; omega
  have hor := Nat.two_pow_add_eq_or_of_lt (i := 8 * (r + 1)) hlt e'
  rw [e, IntKind.wrap_u64]
  rw [show ((d * 256 ^ r : Nat) : Int) % 18446744073709551616 = ((d * 256 ^ r : Nat) : Int) by omega, bits_or_u64_nat _ _ (by omega) (by omega)]
  congr 1
  rw [hae, hp, ← hor]
theorem or_high' (a d r : Nat) (hr : r < 8) (hd : d < 256) (hs : a + d * 256 ^ r < 18446744073709551616) (ha : ∃ e, a = 256 ^ r * 256 * e) : bits .or .u64 (a : Int) (IntKind.u64.wrap ((d : Int) * 2 ^ (8 * r))) = ((a + d * 256 ^ r : Nat) : Int) := by
  have h := or_high a d r hr hd hs ha
  rw [Nat.min_eq_left (by omega)] at h
  exact h
theorem valB_snoc (l : List UInt8) (d : UInt8) : valB (l ++ [d]) = d.toNat + 256 * valB l := by
  simp [valB, valL]
/-- the number that the first k of 32 bytes make -/
def highB (l : List UInt8) (k : Nat) : Nat := valB (l.take k) * 256 ^ (32 - k)
theorem highB_step (l : List UInt8) (hl : l.length = 32) (k : Nat) (hk : k < 32) : highB l k = valB (l.take k) * 256 ^ (31 - k + 1) ∧ highB l (k + 1) = valB (l.take k) * 256 ^ (31 - k + 1) + 256 ^ (31 - k) * (l.getD k 0).toNat := by
  unfold highB
  refine ⟨by rw [show 32 - k = 31 - k + 1 by omega], ?_⟩
  rw [List.take_succ_eq_append_getElem (by omega), valB_snoc, show 32 - (k + 1) = 31 - k by omega, List.getD_eq_getElem?_getD, List.getElem?_eq_getElem (by omega), Nat.pow_succ, Nat.add_mul, Nat.add_comm]
  show 256 * valB (l.take k) * 256 ^ (31 - k) + l[k].toNat * 256 ^ (31 - k) = valB (l.take k) * (256 ^ (31 - k) * 256) + 256 ^ (31 - k) * l[k].toNat
  rw [Nat.mul_comm l[k].toNat, Nat.mul_comm 256, Nat.mul_assoc, Nat.mul_comm 256]

set_option maxHeartbeats 2000000 in
theorem from_any (v : Value) (l : List UInt8) (w : World) (hr : Rd w w.heap.size v l) :
    Calls Tryz.prog 130 #[v] w fun e w' => e = .returned (.tuple #[(fromU l).1.val, .int .i64 (fromU l).2]) ∧ Below w.heap.size w w' := by
  have hlm := hr.len
  unfold maxLen at hlm
  obtain ⟨A, c, rfl⟩ := hr.form
  have hbx := LBlk.new w U4.zero.cells
  have hbw : Below w.heap.size w (w.alloc (.cells U4.zero.cells 25)) := (Below.refl _ _).alloc (Nat.le_refl _) _
  by_cases hl : l.length = 32
  · have hU : fromU l = (ofN (valB l), 0) := if_pos hl
    obtain ⟨hn, b, o, rfl, hbB, hcell⟩ := hr.cell (by omega)
    rw [hU]
    have HC : Hid (∀ k, k < 32 → w.cell? ⟨b, o + k, none⟩ = some (.int .u8 ((l.getD k 0).toNat : Int))) := Lib.hid (fun k hk => by
      rw [hcell k (by omega), List.getD_eq_getElem?_getD, List.getElem?_eq_getElem (by omega)]
      rfl)
    have HST := Lib.hid (highB_step l hl)
    have HF : Hid (highB l 32 = valB l) := Lib.hid (by
      unfold highB
      rw [List.take_of_length_le (by omega), Nat.sub_self, Nat.pow_zero, Nat.mul_one])
    have H0 : Hid (highB l 0 = 0) := Lib.hid (by
      unfold highB
      rw [List.take_zero, show valB [] = 0 from rfl, Nat.zero_mul])
    clear hcell hU hr
    rw [hl]
    clear hl hn hlm
    have h3 := two w U4.zero.cells U4.zero.cells
    clear hbx hbw
    go_enter Tryz.func130, Tryz.ntmps130
    go_wp2_with fail
    generalize hw0 : (w.alloc (.cells #[.int .u64 0, .int .u64 0, .int .u64 0, .int .u64 0] 25)).alloc (.cells #[.int .u64 0, .int .u64 0, .int .u64 0, .int .u64 0] 25) = w0
    replace h3 : LBlk w0 w.heap.size U4.zero.cells ∧ LBlk w0 (w.heap.size + 1) U4.zero.cells ∧ Below w.heap.size w w0 := by rw [← hw0]; exact h3
    clear hw0
    obtain ⟨h0, h1, h2⟩ := h3
    go_loopw [14] (fun i wr => ∃ k : Nat, k ≤ 32 ∧ i = .int .i64 (k : Int) ∧ LBlk wr w.heap.size U4.zero.cells ∧ LBlk wr (w.heap.size + 1) (ofN (highB l k)).cells ∧ Below w.heap.size w wr)
      (fun i _ => 32 - (intOf i).toNat)
    case atStart => exact ⟨0, Nat.zero_le _, rfl, h0, by rw [H0.out]; exact h1, h2⟩
    case round =>
      clear h0 h1 h2
      obtain ⟨j, hj, rfl, hb0, hb1, hb⟩ := hrel
      by_cases hlt : j < 32
      · have i1 : (j : Int) < 32 := by omega
        have i0 : (0 : Int) ≤ (j : Int) := by omega
        have hc := (hb.cell (p := ⟨b, o + j, none⟩) hbB).trans (HC.out j hlt)
        have hdv : (l.getD j 0).toNat < 256 := (l.getD j 0).toNat_lt
        obtain ⟨t1, t2⟩ := HST.out j hlt
        obtain ⟨k, hk⟩ : ∃ k, k = 31 - j := ⟨_, rfl⟩
        rw [← hk] at t1 t2
        rw [t1] at hb1
        have T2 := Lib.hid t2
        generalize valB (l.take j) = M at *
        obtain ⟨s1, s2, s3⟩ := high_step M k (l.getD j 0).toNat (by omega) hdv
        have e1 := (blk_cell hb1 (k / 8)).trans (U4.cell_at _ (by omega))
        have e2 := blk_free hb1 (k / 8)
        rw [← t2] at s1
        clear t1 t2
        generalize (l.getD j 0).toNat = d at *
        generalize M * 256 ^ (k + 1) = V at *
        generalize (ofN V).at (k / 8) = a at *
        have S1 := Lib.hid s1
        have S2 := Lib.hid s2
        have S3 := Lib.hid s3
        have e31 : (31 : Int) - (j : Int) = (k : Int) := by omega
        have l0 : (0 : Int) ≤ (k : Int) := by omega
        have l32 : (k : Int) < 32 := by omega
        have k8 : (k : Int) / 8 < 4 := by omega
        have k80 : (0 : Int) ≤ (k : Int) / 8 := by omega
        have w1 : IntKind.i64.wrap ((k : Int) / 8) = (k : Int) / 8 := IntWalk.i64_in _ (by omega)
        have w2 : (k : Int).tmod 8 = (k : Int) % 8 := Int.tmod_eq_emod_of_nonneg (by omega)
        have w3 : IntKind.i64.wrap ((k : Int) % 8) = (k : Int) % 8 := IntWalk.i64_in _ (by omega)
        have w4 : IntKind.i64.wrap (8 * ((k : Int) % 8)) = 8 * ((k : Int) % 8) := IntWalk.i64_in _ (by omega)
        have w5 : (k : Int).tdiv 8 = (k : Int) / 8 := Int.tdiv_eq_ediv_of_nonneg (by omega)
        have w6 : ((k : Int) / 8).toNat = k / 8 := by omega
        clear s1 s2 s3 hk T2
        go_wp2_with fail
        go_still_tail 12, (by kernel_rfl)
        change wpList _ _ _ _ _ wr.drew
        go_wp2_with fail
        rw [or_high' a d (k % 8) (Nat.mod_lt _ (by decide)) hdv S2.out S3.out]
        refine ⟨⟨j + 1, by omega, by go_num, (LBlk.far hb0 (by omega) _ _).drew, ?_, below_drewN' (hb.setCell (by simp) _) 1⟩, by simp [intOf]; omega⟩
        rw [S1.out]
        exact (hb1.set_ _ _).drew
      · have i1 : ¬ (j : Int) < 32 := by omega
        obtain rfl : j = 32 := by omega
        rw [HF.out] at hb1
        obtain ⟨c0, c1, c2, c3⟩ := hb1.all
        obtain ⟨d0, d1, d2, d3⟩ := hb0.all
        have f0 := hb0.free 0
        have f1 := hb0.free 1
        have f2 := hb0.free 2
        have f3 := hb0.free 3
        have BB := Lib.hid hb
        obtain ⟨s, hs⟩ : ∃ s, s = ofN (valB l) := ⟨_, rfl⟩
        rw [← hs] at c0 c1 c2 c3
        have HS := Lib.hid hs
        clear hb hb0 hb1 hs
        go_wp2
        refine bodyPost_ret (v := .tuple #[.agg s.cells, .int .i64 0]) ?_ rfl ⟨by first | rfl | (rw [← HS.out]; rfl), ?_⟩
        · simp [results, Tryz.results130, go_sem, U4.cells, d0, d1, d2, d3]
        · have hg : w.heap.size ≤ w.heap.size := by omega
          exact (((BB.out.setCell hg _).setCell hg _).setCell hg _).setCell hg _
  · have hU : fromU l = (U4.zero, 21) := if_neg hl
    rw [hU]
    have hl32 : ¬ (l.length : Int) = 32 := by omega
    obtain ⟨d0, d1, d2, d3⟩ := hbx.all
    clear hU hr hl
    replace hbw : Below w.heap.size w (w.alloc (.cells #[.int .u64 0, .int .u64 0, .int .u64 0, .int .u64 0] 25)) := hbw
    replace d0 : (w.alloc (.cells #[.int .u64 0, .int .u64 0, .int .u64 0, .int .u64 0] 25)).cell? ⟨w.heap.size, 0, none⟩ = some (.int .u64 0) := d0
    replace d1 : (w.alloc (.cells #[.int .u64 0, .int .u64 0, .int .u64 0, .int .u64 0] 25)).cell? ⟨w.heap.size, 1, none⟩ = some (.int .u64 0) := d1
    replace d2 : (w.alloc (.cells #[.int .u64 0, .int .u64 0, .int .u64 0, .int .u64 0] 25)).cell? ⟨w.heap.size, 2, none⟩ = some (.int .u64 0) := d2
    replace d3 : (w.alloc (.cells #[.int .u64 0, .int .u64 0, .int .u64 0, .int .u64 0] 25)).cell? ⟨w.heap.size, 3, none⟩ = some (.int .u64 0) := d3
    clear hbx
    go_enter Tryz.func130, Tryz.ntmps130
    go_wp2
    refine bodyPost_ret (v := .tuple #[U4.zero.val, .int .i64 21]) ?_ rfl ⟨rfl, hbw⟩
    simp [results, Tryz.results130, go_sem, U4.val, U4.cells, U4.zero, d0, d1, d2, d3]
end Go.Proofs.YtpcoonnfaoakhaaGreatDoor
