/- The walks of package limb: Of, Zero, Cmp. -/
import Derived.Test.YthiacmpkbioahaaDoorLimbG
namespace Go.Proofs.YthiacmpkbioahaaDoor
open Go Go.RowKit

set_option maxHeartbeats 1000000 in
theorem of_any (n : Nat) (w : World) : Calls Tryd.prog 23 #[.int .u64 (n : Int)] w fun e w' => e = .returned (U4.val ⟨n, 0, 0, 0⟩) ∧ Below w.heap.size w w' := by
  go_enter Tryd.func23, Tryd.ntmps23
  go_wp2_with fail
  refine bodyPost_ret (v := U4.val ⟨n, 0, 0, 0⟩) ?_ rfl ⟨rfl, ?_⟩
  · simp [results, Tryd.results23, go_sem, U4.val, U4.cells]
  · exact (Below.refl _ _).alloc (Nat.le_refl _) _

set_option maxHeartbeats 1000000 in
theorem zero_any (x : U4) (w : World) : Calls Tryd.prog 18 #[x.val] w fun e w' => e = .returned (.bool (eqB x U4.zero)) ∧ Below w.heap.size w w' := by
  have he : ∀ W, (binOp .eql 24 (.agg #[.int .u64 (x.a : Int), .int .u64 (x.b : Int), .int .u64 (x.c : Int), .int .u64 (x.d : Int)]) (.agg #[.int .u64 0, .int .u64 0, .int .u64 0, .int .u64 0])).run Tryd.prog W = .ok (.bool (eqB x U4.zero)) W := fun W => eql4 x U4.zero W
  unfold U4.val U4.cells
  generalize eqB x U4.zero = b at *
  go_enter Tryd.func18, Tryd.ntmps18
  go_wp2_with fail
  go_ret
  exact ⟨rfl, (Below.refl _ _).alloc (Nat.le_refl _) _⟩

/-- what Cmp answers -/
def cmpN (m n : Nat) : Int := if m = n then 0 else if n < m then 1 else -1

set_option maxHeartbeats 1000000 in
theorem cmp_any (x y : U4) (w : World) (hx : x.ok) (hy : y.ok) : Calls Tryd.prog 16 #[x.val, y.val] w fun e w' => e = .returned (.int .i64 (cmpN x.nat y.nat)) ∧ Below w.heap.size w w' := by
  have he : ∀ W, (binOp .eql 24 (.agg #[.int .u64 (x.a : Int), .int .u64 (x.b : Int), .int .u64 (x.c : Int), .int .u64 (x.d : Int)]) (.agg #[.int .u64 (y.a : Int), .int .u64 (y.b : Int), .int .u64 (y.c : Int), .int .u64 (y.d : Int)])).run Tryd.prog W = .ok (.bool (eqB x y)) W := fun W => eql4 x y W
  by_cases h : x = y
  · have hc : cmpN x.nat y.nat = 0 := by rw [h]; simp [cmpN]
    rw [hc]
    rw [eqB_iff.2 h] at he
    clear hc h hx hy
    unfold U4.val U4.cells
    go_enter Tryd.func16, Tryd.ntmps16
    go_wp2_with fail
    go_ret
    exact ⟨rfl, ((Below.refl _ _).alloc (Nat.le_refl _) _).alloc (by simp) _⟩
  · have hn : x.nat ≠ y.nat := fun e => h (nat_inj hx hy e)
    rw [eqB_no h] at he
    have hs : (subU x y).2 = decide (y.nat ≤ x.nat) := by
      unfold subU
      by_cases hle : y.nat ≤ x.nat
      · rw [if_pos hle, decide_eq_true hle]
      · rw [if_neg hle, decide_eq_false hle]
    have hc : cmpN x.nat y.nat = if y.nat ≤ x.nat then 1 else -1 := by
      unfold cmpN
      rw [if_neg hn]
      by_cases hle : y.nat ≤ x.nat
      · rw [if_pos (by omega), if_pos hle]
      · rw [if_neg (by omega), if_neg hle]
    rw [hc]
    have HS := (sub_any x y · hx hy)
    unfold U4.val at HS ⊢
    unfold U4.cells at HS ⊢
    rw [hs] at HS
    obtain ⟨s, hsd⟩ : ∃ s, s = (subU x y).1 := ⟨_, rfl⟩
    rw [← hsd] at HS
    have HSS := Lib.hid HS
    have z1 : 1 = 1 := rfl
    clear hn h hs hc hx hy HS hsd z1
    by_cases hle : y.nat ≤ x.nat
    · rw [decide_eq_true hle] at HSS
      rw [if_pos hle]
      clear hle
      go_enter Tryd.func16, Tryd.ntmps16
      go_wp2_with fail
      refine (HSS.out _).mono ?_
      rintro e w1 ⟨rfl, hb⟩
      go_wp2_with fail
      go_ret
      exact ⟨rfl, ((((Below.refl _ _).alloc (Nat.le_refl _) _).alloc (by simp) _).trans (hb.mono (by simp; omega))).alloc (by have := hb.size; simp at this; omega) _⟩
    · rw [decide_eq_false hle] at HSS
      rw [if_neg hle]
      clear hle
      go_enter Tryd.func16, Tryd.ntmps16
      go_wp2_with fail
      refine (HSS.out _).mono ?_
      rintro e w1 ⟨rfl, hb⟩
      go_wp2_with fail
      go_ret
      exact ⟨rfl, ((((Below.refl _ _).alloc (Nat.le_refl _) _).alloc (by simp) _).trans (hb.mono (by simp; omega))).alloc (by have := hb.size; simp at this; omega) _⟩
end Go.Proofs.YthiacmpkbioahaaDoor
