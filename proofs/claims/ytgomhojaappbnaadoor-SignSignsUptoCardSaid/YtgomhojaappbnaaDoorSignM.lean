/- The mathematics: what is signed is verified. -/
import Derived.Test.YtgomhojaappbnaaDoorSignK
namespace Go.Proofs.YtgomhojaappbnaaDoor
open Go Go.RowKit

theorem walkL_add (c : Nat) : ∀ m i n v, walkL c i (m + n) v = walkL c (i + m) n (walkL c i m v)
  | 0, i, n, v => by rw [Nat.zero_add, Nat.add_zero, walkL]
  | m + 1, i, n, v => by rw [show m + 1 + n = (m + n) + 1 by omega, walkL, walkL, walkL_add c m (i + 1) n, show i + 1 + m = i + (m + 1) by omega]
def catL (f : Nat → List UInt8) : Nat → List UInt8
  | 0 => []
  | n + 1 => catL f n ++ f n
theorem catL_length (f : Nat → List UInt8) : ∀ n, (∀ i, i < n → (f i).length = 32) → (catL f n).length = 32 * n
  | 0, _ => rfl
  | n + 1, h => by rw [catL, List.length_append, catL_length f n (fun i hi => h i (by omega)), h n (by omega)]; omega
theorem catL_piece (f : Nat → List UInt8) : ∀ n c, (∀ i, i < n → (f i).length = 32) → c < n → ((catL f n).drop (32 * c)).take 32 = f c
  | 0, _, _, h => by omega
  | n + 1, c, h, hc => by
    have hl := catL_length f n (fun i hi => h i (by omega))
    rw [catL]
    by_cases hcn : c < n
    · rw [List.drop_append_of_le_length (by omega), List.take_append_of_le_length (by rw [List.length_drop]; omega)]
      exact catL_piece f n c (fun i hi => h i (by omega)) hcn
    · obtain rfl : c = n := by omega
      rw [← hl, List.drop_left]
      exact List.take_of_length_le (by rw [h c (by omega)]; omega)
theorem vals_cat (seed : List UInt8) (key : Nat) (D : List Nat) : ∀ n, valsL seed key D n = catL (fun n => walkL n 0 (D.getD n 0) (secretL seed key n)) n
  | 0 => rfl
  | n + 1 => by rw [valsL, catL, vals_cat seed key D n]
theorem sides_cat (seed : List UInt8) (key : Nat) : ∀ n, sidesL seed key n = catL (fun n => (levL seed n).getD (key / 2 ^ n ^^^ 1) []) n
  | 0 => rfl
  | n + 1 => by rw [sidesL, catL, sides_cat seed key n]
theorem piece_val (seed : List UInt8) (key : Nat) (msg : List UInt8) (c : Nat) (hc : c < 18) : pieceL (signL seed key msg) c = walkL c 0 ((digitsL (rootL seed) key msg).getD c 0) (secretL seed key c) := by
  have hl := valsL_length seed key (digitsL (rootL seed) key msg) 18
  rw [pieceL, signL, List.drop_append_of_le_length (by omega), List.take_append_of_le_length (by rw [List.length_drop]; omega), vals_cat]
  exact catL_piece _ 18 c (fun i _ => walkL_length _ _ _ _ (secretL_length _ _ _)) hc
theorem piece_side (seed : List UInt8) (key : Nat) (msg : List UInt8) (l : Nat) (hk : key < 8) (hl3 : l < 3) : pieceL (signL seed key msg) (18 + l) = (levL seed l).getD (key / 2 ^ l ^^^ 1) [] := by
  have hl := valsL_length seed key (digitsL (rootL seed) key msg) 18
  rw [pieceL, signL, show 32 * (18 + l) = (valsL seed key (digitsL (rootL seed) key msg) 18).length + 32 * l by omega, List.drop_length_add_append, sides_cat]
  exact catL_piece _ 3 l (fun i hi => side_length seed key i hk hi) hl3
theorem ver_leaf (seed : List UInt8) (key : Nat) (msg : List UInt8) : verLeaf (rootL seed) key msg (signL seed key msg) = leafS seed key := by
  have e : rowL (fun c => walkL c ((digitsL (rootL seed) key msg).getD c 0) (15 - (digitsL (rootL seed) key msg).getD c 0) (pieceL (signL seed key msg) c)) 18 = rowL (endL seed key) 18 := by
    refine rowL_congr 18 fun c hc => ?_
    have hd := getD_le (digitsL (rootL seed) key msg) c (digitsL_le _ _ _)
    have hp := piece_val seed key msg c hc
    generalize (digitsL (rootL seed) key msg).getD c 0 = d at *
    show walkL c d (15 - d) (pieceL (signL seed key msg) c) = walkL c 0 15 (secretL seed key c)
    rw [hp]
    have h2 := walkL_add c d 0 (15 - d) (secretL seed key c)
    rw [Nat.zero_add, show d + (15 - d) = 15 by omega] at h2
    exact h2.symm
  rw [verLeaf, leafS, e]
theorem pairsL_get : ∀ (q : Nat) (r : List (List UInt8)) (h : 2 * q + 1 < r.length), (pairsL r).getD q [] = nodeL (r.getD (2 * q) []) (r.getD (2 * q + 1) [])
  | 0, a :: b :: r, _ => by simp [pairsL]
  | 0, [], h => by simp at h
  | 0, [a], h => by simp at h
  | m + 1, [], h => by simp at h
  | m + 1, [a], h => by simp at h
  | m + 1, a :: b :: r, h => by
    have ih := pairsL_get m r (by simp at h; omega)
    simp only [pairsL, show 2 * (m + 1) = (2 * m + 1) + 1 by omega, List.getD_cons_succ, ih]
theorem climb_lev (seed : List UInt8) (key : Nat) (msg : List UInt8) (hk : key < 8) : ∀ l, l ≤ 3 → climbL key (signL seed key msg) (leafS seed key) l = (levL seed l).getD (key / 2 ^ l) []
  | 0, _ => by
    rw [climbL]
    have hl := rowL_length (leafS seed) 8
    rw [show levL seed 0 = rowL (leafS seed) 8 from rfl, Nat.pow_zero, Nat.div_one, List.getD_eq_getElem?_getD, List.getElem?_eq_getElem (by omega), Option.getD_some, rowL_get]
  | l + 1, h => by
    have ih := climb_lev seed key msg hk l (by omega)
    have hp := piece_side seed key msg l hk (by omega)
    have hl := levL_length seed l (by omega)
    have hx := xor1 (key / 2 ^ l) (Nat.lt_of_le_of_lt (Nat.div_le_self _ _) hk)
    have hq : key / 2 ^ (l + 1) = key / 2 ^ l / 2 := by rw [Nat.pow_succ, Nat.div_div_eq_div_mul]
    have hlt := side_lt key l hk (by omega)
    have hlt2 : key / 2 ^ l < 8 / 2 ^ l := by
      rcases l with _ | _ | _ | l <;> omega
    have hev : 8 / 2 ^ l % 2 = 0 := by
      rcases l with _ | _ | _ | l <;> omega
    rw [climbL, ih, hp, hq, show levL seed (l + 1) = pairsL (levL seed l) from rfl]
    generalize key / 2 ^ l = k at *
    rw [pairsL_get (k / 2) (levL seed l) (by omega)]
    by_cases hpar : k % 2 = 0
    · rw [if_pos hpar, hx, if_pos hpar, show 2 * (k / 2) = k by omega]
    · rw [if_neg hpar, hx, if_neg hpar, show 2 * (k / 2) + 1 = k by omega, show 2 * (k / 2) = k - 1 by omega]
theorem verB_holds (seed : List UInt8) (key : Nat) (msg : List UInt8) (hk : key < 8) : verB (rootL seed) (key : Int) msg (signL seed key msg) = true := by
  rw [verB_yes ⟨signL_length seed key msg hk, by omega, by omega, rootL_length seed⟩]
  refine sameB_yes ?_
  rw [Int.toNat_natCast, ver_leaf, climb_lev seed key msg hk 3 (by omega)]
  have h1l : 0 < (levL seed 3).length := by rw [levL_length seed 3 (by omega)]; decide
  rw [← root_get seed h1l, show key / 2 ^ 3 = 0 by omega, List.getD_eq_getElem?_getD, List.getElem?_eq_getElem h1l, Option.getD_some]
end Go.Proofs.YtgomhojaappbnaaDoor
