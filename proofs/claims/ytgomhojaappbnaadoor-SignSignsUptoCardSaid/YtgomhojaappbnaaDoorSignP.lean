/- The plain mathematics of signatures: leaves, the levels of a tree, digits. -/
import Derived.Test.YtgomhojaappbnaaDoorSignA
import Derived.Test.YtgomhojaappbnaaDoorShaLen
namespace Go.Proofs.YtgomhojaappbnaaDoor
open Go Go.RowKit

def leafWord : ByteArray := ⟨#[108, 101, 97, 102]⟩
def nodeWord : ByteArray := ⟨#[110, 111, 100, 101]⟩
def leafOf (k : Nat) (ends : List (List UInt8)) : List UInt8 := shaSum (formB (strBytes leafWord) ++ formBs (be k 8 :: ends))
def nodeL (a b : List UInt8) : List UInt8 := shaSum (formB (strBytes nodeWord) ++ formBs [a, b])
def pairsL : List (List UInt8) → List (List UInt8)
  | a :: b :: r => nodeL a b :: pairsL r
  | _ => []
/-- f 0, f 1 and so on, n of them -/
def rowL (f : Nat → List UInt8) : Nat → List (List UInt8)
  | 0 => []
  | n + 1 => rowL f n ++ [f n]
theorem rowL_length (f : Nat → List UInt8) (n : Nat) : (rowL f n).length = n := by induction n <;> simp [rowL, *]
theorem rowL_congr {f g : Nat → List UInt8} (n : Nat) (h : ∀ i, i < n → f i = g i) : rowL f n = rowL g n := by
  induction n with
  | zero => rfl
  | succ n ih => rw [rowL, rowL, ih fun i hi => h i (by omega), h n (by omega)]
theorem rowL_get (f : Nat → List UInt8) (n j : Nat) (h : j < (rowL f n).length) : (rowL f n)[j] = f j := by
  induction n with
  | zero => simp [rowL] at h
  | succ n ih =>
    have hl := rowL_length f n
    by_cases hj : j < n
    · have : (rowL f (n + 1))[j] = (rowL f n)[j]'(by omega) := List.getElem_append_left (by omega)
      rw [this, ih]
    · have hjn : j = n := by rw [rowL_length] at h; omega
      subst hjn
      have : (rowL f (j + 1))[j] = [f j][j - (rowL f j).length]'(by simp [hl]) := List.getElem_append_right (by omega)
      rw [this]
      simp [hl]
def endL (seed : List UInt8) (k c : Nat) : List UInt8 := walkL c 0 15 (secretL seed k c)
def leafS (seed : List UInt8) (k : Nat) : List UInt8 := leafOf k (rowL (endL seed k) 18)
def levL (seed : List UInt8) : Nat → List (List UInt8)
  | 0 => rowL (leafS seed) 8
  | t + 1 => pairsL (levL seed t)
def rootL (seed : List UInt8) : List UInt8 := (levL seed 3).headD []

theorem pairsL_length (r : List (List UInt8)) : (pairsL r).length = r.length / 2 := by
  induction r using pairsL.induct with
  | case1 a b r ih => simp only [pairsL, List.length_cons, ih]; omega
  | case2 r h =>
    match r, h with
    | [], _ => simp [pairsL]
    | [a], _ => simp [pairsL]
    | a :: b :: r, h => exact absurd rfl (h a b r)
theorem pairsL_step : ∀ (m : Nat) (r : List (List UInt8)) (h : 2 * m + 1 < r.length), pairsL (r.take (2 * m + 2)) = pairsL (r.take (2 * m)) ++ [nodeL (r[2 * m]'(by omega)) r[2 * m + 1]]
  | 0, a :: b :: r, _ => by simp [pairsL]
  | 0, [], h => by simp at h
  | 0, [a], h => by simp at h
  | m + 1, [], h => by simp at h
  | m + 1, [a], h => by simp at h
  | m + 1, a :: b :: r, h => by
    have ih := pairsL_step m r (by simp at h; omega)
    simp only [show 2 * (m + 1) + 2 = (2 * m + 2) + 1 + 1 by omega, show 2 * (m + 1) = 2 * m + 1 + 1 by omega, List.take_succ_cons, pairsL, ih, List.cons_append, List.getElem_cons_succ]
theorem levL_length (seed : List UInt8) : ∀ t, t ≤ 3 → (levL seed t).length = 8 / 2 ^ t
  | 0, _ => rowL_length _ _
  | 1, _ => by rw [levL, pairsL_length, levL_length seed 0 (by omega)]
  | 2, _ => by rw [levL, pairsL_length, levL_length seed 1 (by omega)]
  | 3, _ => by rw [levL, pairsL_length, levL_length seed 2 (by omega)]
  | n + 4, h => by omega
theorem root_get (seed : List UInt8) (h : 0 < (levL seed 3).length) : (levL seed 3)[0] = rootL seed := by
  unfold rootL
  generalize levL seed 3 = l at h ⊢
  cases l with
  | nil => simp at h
  | cons a r => rfl
theorem leafOf_length (k : Nat) (ends : List (List UInt8)) : (leafOf k ends).length = 32 := shaSum_length _
theorem nodeL_length (a b : List UInt8) : (nodeL a b).length = 32 := shaSum_length _
theorem pairsL_all (r : List (List UInt8)) : ∀ x ∈ pairsL r, x.length = 32 := by
  induction r using pairsL.induct with
  | case1 a b r ih => intro x hx; simp only [pairsL, List.mem_cons] at hx; rcases hx with rfl | hx; exact nodeL_length _ _; exact ih x hx
  | case2 r h =>
    match r, h with
    | [], _ => intro x hx; simp [pairsL] at hx
    | [a], _ => intro x hx; simp [pairsL] at hx
    | a :: b :: r, h => exact absurd rfl (h a b r)
theorem rootL_length (seed : List UInt8) : (rootL seed).length = 32 := by
  have h : 0 < (levL seed 3).length := by rw [levL_length seed 3 (by omega)]; decide
  rw [← root_get seed h]
  exact pairsL_all (levL seed 2) _ (List.getElem_mem _)
theorem RowS.parts {w : World} {B0 : Nat} {v : Value} {ls : List (List UInt8)} (h : RowS w B0 v ls) : Parts w w.heap.size v ls := by
  obtain ⟨A, c, rfl, _, _, hp⟩ := h
  refine ⟨A, c, rfl, fun h0 => ?_⟩
  obtain ⟨b, o, rfl, hlt, _, hcell⟩ := hp h0
  exact ⟨b, o, rfl, hlt, fun j hj => by obtain ⟨x, hx, hr⟩ := hcell j hj; exact ⟨x, hx, hr.1⟩⟩
theorem partsOf2 (w : World) (va vb : Value) (a b : List UInt8) (t : TypeId) (ha : Rd w w.heap.size va a) (hb : Rd w w.heap.size vb b) :
    Parts (w.alloc (.cells #[va, vb] t)) (w.alloc (.cells #[va, vb] t)).heap.size (.slice (some ⟨w.heap.size, 0, none⟩) 2 2) [a, b] := by
  have hbw : Below w.heap.size w (w.alloc (.cells #[va, vb] t)) := (Below.refl _ _).alloc (Nat.le_refl _) _
  have hg := heap_alloc_new w (.cells #[va, vb] t)
  refine ⟨_, 2, rfl, fun _ => ⟨w.heap.size, 0, rfl, by simp, fun j hj => ?_⟩⟩
  rw [show (0 + j) = j by omega, blk_cell hg]
  rcases j with _ | _ | j
  · exact ⟨va, rfl, ha.up (Nat.le_refl _) hbw⟩
  · exact ⟨vb, rfl, hb.up (Nat.le_refl _) hbw⟩
  · exact absurd hj (by simp)
end Go.Proofs.YtgomhojaappbnaaDoor
