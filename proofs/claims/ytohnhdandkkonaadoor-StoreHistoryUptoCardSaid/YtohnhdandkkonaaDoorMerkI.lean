
/- The walk of merkle's leafAt. -/
import Derived.Test.YtohnhdandkkonaaDoorMerkE0
import Derived.Test.YtohnhdandkkonaaDoorSlc
import Derived.Test.YtohnhdandkkonaaDoorClone
namespace Go.Proofs.YtohnhdandkkonaaDoor
set_option maxRecDepth 100000
open Go Go.RowKit
set_option linter.unusedVariables false
variable {w w' : World} {B : Nat}

/-- the hashes beside a leaf's way in the first k rows -/
def wayK (L : List (List UInt8)) (i : Nat) : Nat → List (List UInt8)
  | 0 => []
  | k + 1 => wayK L i k ++ (if ((i / 2 ^ k) ^^^ 1) < (upN k L).length then [(upN k L).getD ((i / 2 ^ k) ^^^ 1) []] else [])
theorem half_succ (i k : Nat) : i / 2 ^ (k + 1) = i / 2 ^ k / 2 := by rw [Nat.div_div_eq_div_mul, Nat.pow_succ]
theorem wayK_way (L : List (List UInt8)) (i : Nat) : ∀ k, (∀ j, j < k → 2 ≤ (upN j L).length) → wayT nodeH L i = wayK L i k ++ wayT nodeH (upN k L) (i / 2 ^ k) := by
  intro k
  induction k with
  | zero => intro _; simp [wayK, upN]
  | succ k ih =>
    intro h
    rw [ih (fun j hj => h j (by omega)), wayT_step nodeH (upN k L) (i / 2 ^ k) (h k (by omega)), wayK, half_succ, List.append_assoc]
    rfl
theorem wayK_full (L : List (List UInt8)) (i t : Nat) (h : ∀ j, j < t → 2 ≤ (upN j L).length) (h1 : (upN t L).length ≤ 1) : wayK L i t = wayT nodeH L i := by
  rw [wayK_way L i t h, wayT_one _ _ _ h1, List.append_nil]
theorem wayK_len (L : List (List UInt8)) (i k : Nat) : (wayK L i k).length ≤ k := by
  induction k with
  | zero => simp [wayK]
  | succ k ih => rw [wayK, List.length_append]; split <;> simp <;> omega
theorem Tryd.infoRowss : (Tryd.prog.info? 69).map (fun i => (i.zero, i.size, i.bytes)) = some (some (.slice none 0 0), 1, 24) := by kernel_rfl

theorem tdiv_two (x : Nat) : (x : Int).tdiv 2 = ((x / 2 : Nat) : Int) := by rw [Int.tdiv_eq_ediv_of_nonneg (by omega)]; omega
theorem upN_32 (ps : List Pr) : ∀ k, ∀ x ∈ upN k (leaves ps), x.length = 32 := by
  intro k
  induction k with
  | zero =>
    intro x hx
    unfold upN leaves at hx
    obtain ⟨p, _, rfl⟩ := List.mem_map.1 hx
    exact tagH_length _ _
  | succ k ih => exact pairUp_all nodeH (P := fun x => x.length = 32) (fun a b => tagH_length _ _) _ ih

end Go.Proofs.YtohnhdandkkonaaDoor
