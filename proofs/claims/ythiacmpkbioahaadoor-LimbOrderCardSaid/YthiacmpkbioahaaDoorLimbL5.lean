/- The walk of the law: the order of numbers. -/
import Derived.Test.YthiacmpkbioahaaDoorLimbJ
import Derived.Test.YthiacmpkbioahaaDoorLimbL1
import Derived.Laws.Strings
namespace Go.Proofs.YthiacmpkbioahaaDoor
open Go Go.RowKit

theorem less_be : ∀ k n m, Op.bytesLess (be n k) (be m k) = decide (n % 256 ^ k < m % 256 ^ k)
  | 0, n, m => by simp [be, Op.bytesLess.eq_1, Nat.mod_one]
  | k + 1, n, m => by
    have hp : 0 < 256 ^ k := Nat.pow_pos (by decide)
    have e1 : ∀ n : Nat, n % 256 ^ (k + 1) = n % 256 ^ k + 256 ^ k * (n / 256 ^ k % 256) := fun n => by rw [Nat.pow_succ, Nat.mod_mul]
    have h1 : ∀ n : Nat, (UInt8.ofNat (n / 2 ^ (8 * k))).toNat = n / 256 ^ k % 256 := fun n => by
      rw [UInt8.toNat_ofNat', show 2 ^ (8 * k) = 256 ^ k by rw [Nat.pow_mul]]
    have l1 := Nat.mod_lt n hp
    have l2 := Nat.mod_lt m hp
    rw [be, be, Op.bytesLess.eq_3, less_be k, e1, e1]
    have d1 : decide (UInt8.ofNat (n / 2 ^ (8 * k)) < UInt8.ofNat (m / 2 ^ (8 * k))) = decide (n / 256 ^ k % 256 < m / 256 ^ k % 256) := by
      rw [decide_eq_decide, UInt8.lt_iff_toNat_lt, h1, h1]
    have d2 : (UInt8.ofNat (n / 2 ^ (8 * k)) == UInt8.ofNat (m / 2 ^ (8 * k))) = decide (n / 256 ^ k % 256 = m / 256 ^ k % 256) := by
      rw [Bool.eq_iff_iff, beq_iff_eq, decide_eq_true_iff, ← UInt8.toNat_inj, h1, h1]
    rw [d1, d2]
    generalize n / 256 ^ k % 256 = x
    generalize m / 256 ^ k % 256 = y
    generalize n % 256 ^ k = p at *
    generalize m % 256 ^ k = q at *
    generalize 256 ^ k = t at *
    rcases Nat.lt_trichotomy x y with h | h | h
    · have : t * (x + 1) ≤ t * y := Nat.mul_le_mul_left _ h
      rw [Nat.mul_add, Nat.mul_one] at this
      rw [decide_eq_true h, Bool.true_or, eq_comm, decide_eq_true_iff]
      omega
    · subst h
      simp
    · have : t * (y + 1) ≤ t * x := Nat.mul_le_mul_left _ h
      rw [Nat.mul_add, Nat.mul_one] at this
      rw [decide_eq_false (by omega), decide_eq_false (by omega), Bool.false_and, Bool.false_or, eq_comm, decide_eq_false_iff_not]
      omega
theorem less_str {n m : Nat} (hn : n < 256 ^ 32) (hm : m < 256 ^ 32) (t : TypeId) : binOp .lss t (.string ⟨(be n 32).toArray⟩) (.string ⟨(be m 32).toArray⟩) = pure (.bool (decide (n < m))) := by
  rw [binOp_string_lss, ByteArray.toList_mk, ByteArray.toList_mk, less_be, Nat.mod_eq_of_lt hn, Nat.mod_eq_of_lt hm]
/-- what the law asks of three comparisons -/
theorem cmp_cases (n m : Nat) : (cmpN n m = 0 ∧ n = m ∧ cmpN m n = 0) ∨ (cmpN n m = 1 ∧ m < n ∧ cmpN m n = -1) ∨ (cmpN n m = -1 ∧ n < m ∧ cmpN m n = 1) := by
  unfold cmpN
  rcases Nat.lt_trichotomy n m with h | h | h
  · right; right; simp [show ¬ n = m by omega, show ¬ m = n by omega, show ¬ m < n by omega, h]
  · left; simp [h]
  · right; left; simp [show ¬ n = m by omega, show ¬ m = n by omega, show ¬ n < m by omega, h]
theorem cmp_trans (a b c : Nat) : cmpN a b ≤ 0 → cmpN b c ≤ 0 → cmpN a c ≤ 0 := by
  unfold cmpN
  intro h1 h2
  split at h1 <;> split at h2 <;> split <;> (try split at h1) <;> (try split at h2) <;> (try split) <;> omega

set_option maxHeartbeats 4000000 in
set_option maxRecDepth 100000 in
theorem order_walk (a b c : U4) (w : World) (ha : a.ok) (hb : b.ok) (hc : c.ok) : Calls Tryd.prog 8 #[a.val, b.val, c.val] w fun e w' => e = .returned (.bool true) ∧ Below w.heap.size w w' := by
  have k1 := (cmp_any a b · ha hb)
  have k2 := (cmp_any b c · hb hc)
  have k3 := (cmp_any a c · ha hc)
  have k4 := (cmp_any b a · hb ha)
  have k5 := (bytes_any a · ha)
  have k6 := (bytes_any b · hb)
  have ln := nat_lt ha
  have lm := nat_lt hb
  rw [top_pow] at ln lm
  have q1 : ∀ W, (binOp .eql 24 (.agg a.cells) (.agg b.cells)).run Tryd.prog W = .ok (.bool (eqB a b)) W := fun W => eql4 a b W
  have q2 : Op.bytesLess (be a.nat 32) (be b.nat 32) = decide (a.nat < b.nat) := by rw [less_be, Nat.mod_eq_of_lt ln, Nat.mod_eq_of_lt lm]
  have hcs := cmp_cases a.nat b.nat
  have htr := cmp_trans a.nat b.nat c.nat
  have heq : eqB a b = decide (a.nat = b.nat) := by
    rw [Bool.eq_iff_iff, eqB_iff, decide_eq_true_iff]
    exact ⟨fun h => by rw [h], fun h => nat_inj ha hb h⟩
  obtain ⟨h0, h1, h2, hbe⟩ := boxes3 w a b c
  generalize cmpN b.nat c.nat = n2 at *
  generalize cmpN a.nat c.nat = n3 at *
  generalize cmpN b.nat a.nat = n4 at *
  generalize cmpN a.nat b.nat = n1 at *
  rw [heq] at q1
  have hdl : ∃ p : Bool, p = decide (a.nat < b.nat) := ⟨_, rfl⟩
  obtain ⟨dl, hdl⟩ := hdl
  obtain ⟨de, hde⟩ : ∃ p : Bool, p = decide (a.nat = b.nat) := ⟨_, rfl⟩
  rw [← hdl] at q2
  rw [← hde] at q1
  have hall : (n1 = 0 ∧ n4 = 0 ∧ dl = false ∧ de = true) ∨ (n1 = 1 ∧ n4 = -1 ∧ dl = false ∧ de = false) ∨ (n1 = -1 ∧ n4 = 1 ∧ dl = true ∧ de = false) := by
    rw [hdl, hde]
    rcases hcs with ⟨h1, h2, h3⟩ | ⟨h1, h2, h3⟩ | ⟨h1, h2, h3⟩
    · exact Or.inl ⟨h1, h3, decide_eq_false (by omega), decide_eq_true h2⟩
    · exact Or.inr (Or.inl ⟨h1, h3, decide_eq_false (by omega), decide_eq_false (by omega)⟩)
    · exact Or.inr (Or.inr ⟨h1, h3, decide_eq_true h2, decide_eq_false (by omega)⟩)
  obtain ⟨LA, hLA⟩ : ∃ l, l = be a.nat 32 := ⟨_, rfl⟩
  obtain ⟨LB, hLB⟩ : ∃ l, l = be b.nat 32 := ⟨_, rfl⟩
  rw [← hLA] at k5 q2
  rw [← hLB] at k6 q2
  unfold U4.val at *
  unfold U4.cells at k1 k2 k3 k4 k5 k6 q1 h0 h1 h2 hbe ⊢
  have K1 := Lib.hid k1
  have K2 := Lib.hid k2
  have K3 := Lib.hid k3
  have K4 := Lib.hid k4
  have K5 := Lib.hid k5
  have K6 := Lib.hid k6
  have Q1 := Lib.hid q1
  have Q2 := Lib.hid q2
  have HALL := Lib.hid hall
  have HTR := Lib.hid htr
  clear k1 k2 k3 k4 k5 k6 q1 q2 hcs htr heq hdl hde hall hLA hLB ln lm ha hb hc
  go_enter Tryd.func8, Tryd.ntmps8
  go_wp2_with fail
  generalize ((w.alloc (.cells #[.int .u64 (a.a : Int), .int .u64 (a.b : Int), .int .u64 (a.c : Int), .int .u64 (a.d : Int)] 24)).alloc (.cells #[.int .u64 (b.a : Int), .int .u64 (b.b : Int), .int .u64 (b.c : Int), .int .u64 (b.d : Int)] 24)).alloc (.cells #[.int .u64 (c.a : Int), .int .u64 (c.b : Int), .int .u64 (c.c : Int), .int .u64 (c.d : Int)] 24) = w0 at *
  have HPS : Hid (∀ W : World, Below w0.heap.size w0 W → (W.cell? ⟨w.heap.size, 0, none⟩ = some (.int .u64 (a.a : Int)) ∧ W.cell? ⟨w.heap.size, 1, none⟩ = some (.int .u64 (a.b : Int)) ∧ W.cell? ⟨w.heap.size, 2, none⟩ = some (.int .u64 (a.c : Int)) ∧ W.cell? ⟨w.heap.size, 3, none⟩ = some (.int .u64 (a.d : Int))) ∧ (W.cell? ⟨w.heap.size + 1, 0, none⟩ = some (.int .u64 (b.a : Int)) ∧ W.cell? ⟨w.heap.size + 1, 1, none⟩ = some (.int .u64 (b.b : Int)) ∧ W.cell? ⟨w.heap.size + 1, 2, none⟩ = some (.int .u64 (b.c : Int)) ∧ W.cell? ⟨w.heap.size + 1, 3, none⟩ = some (.int .u64 (b.d : Int))) ∧ (W.cell? ⟨w.heap.size + 1 + 1, 0, none⟩ = some (.int .u64 (c.a : Int)) ∧ W.cell? ⟨w.heap.size + 1 + 1, 1, none⟩ = some (.int .u64 (c.b : Int)) ∧ W.cell? ⟨w.heap.size + 1 + 1, 2, none⟩ = some (.int .u64 (c.c : Int)) ∧ W.cell? ⟨w.heap.size + 1 + 1, 3, none⟩ = some (.int .u64 (c.d : Int)))) := Lib.hid (fun W hW => ⟨Blk.all (s := a) (Blk.below (cs := a.cells) h0 hW (blk_lt h0)), Blk.all (s := b) (Blk.below (cs := b.cells) h1 hW (blk_lt h1)), Blk.all (s := c) (Blk.below (cs := c.cells) h2 hW (blk_lt h2))⟩)
  have hd0 : Below w0.heap.size w0 w0.drew := (Below.refl _ _).drew
  clear h0 h1 h2
  go_region_held_law (fun W => (W.cell? ⟨w.heap.size, 0, none⟩ = some (.int .u64 (a.a : Int)) ∧ W.cell? ⟨w.heap.size, 1, none⟩ = some (.int .u64 (a.b : Int)) ∧ W.cell? ⟨w.heap.size, 2, none⟩ = some (.int .u64 (a.c : Int)) ∧ W.cell? ⟨w.heap.size, 3, none⟩ = some (.int .u64 (a.d : Int))) ∧ (W.cell? ⟨w.heap.size + 1, 0, none⟩ = some (.int .u64 (b.a : Int)) ∧ W.cell? ⟨w.heap.size + 1, 1, none⟩ = some (.int .u64 (b.b : Int)) ∧ W.cell? ⟨w.heap.size + 1, 2, none⟩ = some (.int .u64 (b.c : Int)) ∧ W.cell? ⟨w.heap.size + 1, 3, none⟩ = some (.int .u64 (b.d : Int))) ∧ (W.cell? ⟨w.heap.size + 1 + 1, 0, none⟩ = some (.int .u64 (c.a : Int)) ∧ W.cell? ⟨w.heap.size + 1 + 1, 1, none⟩ = some (.int .u64 (c.b : Int)) ∧ W.cell? ⟨w.heap.size + 1 + 1, 2, none⟩ = some (.int .u64 (c.c : Int)) ∧ W.cell? ⟨w.heap.size + 1 + 1, 3, none⟩ = some (.int .u64 (c.d : Int))))
    (first | exact HPS.out _ hy3 | exact HPS.out _ hy2 | exact HPS.out _ hy1 | exact HPS.out _ hd0)
    (first
      | (go_at_call 16; have hq := hy2; refine (K3.out _).mono ?_; rintro e w3 ⟨rfl, hb3⟩; have hy3 := below_chain hy2 hy2.size hb3)
      | (go_at_call 16; have hq := hy1; refine (K2.out _).mono ?_; rintro e w2 ⟨rfl, hb2⟩; have hy2 := below_chain hy1 hy1.size hb2)
      | (go_at_call 16; refine (K1.out _).mono ?_; rintro e w1 ⟨rfl, hb1⟩; have hy1 := below_chain hd0 hd0.size hb1))
  all_goals clear hy1 hy2 hd0
  go_wp2_with fail
  have hd3 := hy3.drew
  have HRA : Hid (∀ (W : World) (v : Value) (B : Nat), Rd W B v LA → (convert 41 9 v).run Tryd.prog W = .ok (.string ⟨LA.toArray⟩) W) := Lib.hid fun W v B h => run_str Tryd.underlying41 Tryd.underlying5 Tryd.isString h
  have HRB : Hid (∀ (W : World) (v : Value) (B : Nat), Rd W B v LB → (convert 41 9 v).run Tryd.prog W = .ok (.string ⟨LB.toArray⟩) W) := Lib.hid fun W v B h => run_str Tryd.underlying41 Tryd.underlying5 Tryd.isString h

  go_region_held_law (fun W => (W.cell? ⟨w.heap.size, 0, none⟩ = some (.int .u64 (a.a : Int)) ∧ W.cell? ⟨w.heap.size, 1, none⟩ = some (.int .u64 (a.b : Int)) ∧ W.cell? ⟨w.heap.size, 2, none⟩ = some (.int .u64 (a.c : Int)) ∧ W.cell? ⟨w.heap.size, 3, none⟩ = some (.int .u64 (a.d : Int))) ∧ (W.cell? ⟨w.heap.size + 1, 0, none⟩ = some (.int .u64 (b.a : Int)) ∧ W.cell? ⟨w.heap.size + 1, 1, none⟩ = some (.int .u64 (b.b : Int)) ∧ W.cell? ⟨w.heap.size + 1, 2, none⟩ = some (.int .u64 (b.c : Int)) ∧ W.cell? ⟨w.heap.size + 1, 3, none⟩ = some (.int .u64 (b.d : Int))) ∧ (W.cell? ⟨w.heap.size + 1 + 1, 0, none⟩ = some (.int .u64 (c.a : Int)) ∧ W.cell? ⟨w.heap.size + 1 + 1, 1, none⟩ = some (.int .u64 (c.b : Int)) ∧ W.cell? ⟨w.heap.size + 1 + 1, 2, none⟩ = some (.int .u64 (c.c : Int)) ∧ W.cell? ⟨w.heap.size + 1 + 1, 3, none⟩ = some (.int .u64 (c.d : Int))))
    (first | exact HPS.out _ hy5 | exact HPS.out _ hy4 | exact HPS.out _ hd3)
    (first
      | (go_at_call 28; have hq := hy4; refine (K6.out _).mono ?_; rintro e w5 ⟨v5, rfl, ho5, hb5⟩; have hy5 := below_chain hy4 hy4.size hb5; have r4' := HRA.out _ _ _ (ho4.rd.up (Nat.le_refl _) hb5); have r5 := HRB.out _ _ _ ho5.rd)
      | (go_at_call 28; refine (K5.out _).mono ?_; rintro e w4 ⟨v4, rfl, ho4, hb4⟩; have hy4 := below_chain hd3 hd3.size hb4; have r4 := HRA.out _ _ _ ho4.rd))
  all_goals
    clear ho4 ho5 hd3 hy4
    rcases HALL.out with ⟨rfl, rfl, rfl, rfl⟩ | ⟨rfl, rfl, rfl, rfl⟩ | ⟨rfl, rfl, rfl, rfl⟩
    all_goals
      clear HALL
      have q1 := Q1.out
      have q2 := Q2.out
      go_wp2_with (first
        | (go_at_call 15; refine (fixed_any _).mono ?_; rintro e w6 ⟨rfl, hb6⟩; have hy6 := below_chain hy5 hy5.size hb6; obtain ⟨⟨x0, x1, x2, x3⟩, ⟨x4, x5, x6, x7⟩, _⟩ := HPS.out _ hy6)
        | (go_at_call 16; refine (K4.out _).mono ?_; rintro e w7 ⟨rfl, hb7⟩; have hy7 := below_chain hy6 hy6.size hb7; clear x0 x1 x2 x3 x4 x5 x6 x7; obtain ⟨⟨x0, x1, x2, x3⟩, ⟨x4, x5, x6, x7⟩, _⟩ := HPS.out _ hy7))
      all_goals
        go_ret
        refine ⟨?_, below_chain hbe hbe.size hy7⟩
        first
          | rfl
          | (rw [decide_eq_true (HTR.out (by decide) (by assumption))]; rfl)
end Go.Proofs.YthiacmpkbioahaaDoor
