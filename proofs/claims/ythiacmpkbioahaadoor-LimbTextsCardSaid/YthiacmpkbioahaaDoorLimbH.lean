
/- The walks of package limb: Div. -/
import Derived.Test.YthiacmpkbioahaaDoorLimbE
import Derived.Test.YthiacmpkbioahaaDoorLimbA0
namespace Go.Proofs.YthiacmpkbioahaaDoor
open Go Go.RowKit

/-- dividing: what is there and what is left behind j steps, the highest first -/
def divSt (x : U4) (k : Nat) : Nat → U4 × Nat
  | 0 => (⟨0, 0, 0, 0⟩, 0)
  | 1 => (⟨0, 0, 0, (0 * 18446744073709551616 + x.d) / k⟩, (0 * 18446744073709551616 + x.d) % k)
  | 2 => (⟨0, 0, ((divSt x k 1).2 * 18446744073709551616 + x.c) / k, (divSt x k 1).1.d⟩, ((divSt x k 1).2 * 18446744073709551616 + x.c) % k)
  | 3 => (⟨0, ((divSt x k 2).2 * 18446744073709551616 + x.b) / k, (divSt x k 2).1.c, (divSt x k 2).1.d⟩, ((divSt x k 2).2 * 18446744073709551616 + x.b) % k)
  | 4 => (⟨((divSt x k 3).2 * 18446744073709551616 + x.a) / k, (divSt x k 3).1.b, (divSt x k 3).1.c, (divSt x k 3).1.d⟩, ((divSt x k 3).2 * 18446744073709551616 + x.a) % k)
  | _ => (⟨0, 0, 0, 0⟩, 0)
theorem divSt_succ (x : U4) (k : Nat) {r : Nat} (h : r < 4) : (divSt x k (4 - r)).1.cells = (divSt x k (3 - r)).1.cells.setIfInBounds r (.int .u64 ((((divSt x k (3 - r)).2 * 18446744073709551616 + x.at r) / k : Nat) : Int)) ∧
    (divSt x k (4 - r)).2 = ((divSt x k (3 - r)).2 * 18446744073709551616 + x.at r) % k := by
  have : r = 0 ∨ r = 1 ∨ r = 2 ∨ r = 3 := by omega
  rcases this with rfl | rfl | rfl | rfl <;> constructor <;> simp [divSt, U4.cells, U4.at]
theorem divSt_lt (x : U4) {k : Nat} (hk : 0 < k) {j : Nat} (h : j ≤ 4) : (divSt x k j).2 < k := by
  have : j = 0 ∨ j = 1 ∨ j = 2 ∨ j = 3 ∨ j = 4 := by omega
  rcases this with rfl | rfl | rfl | rfl | rfl <;> simp only [divSt] <;> first | exact hk | exact Nat.mod_lt _ hk
theorem quo_lt_of (M : Nat) {r k a : Nat} (hr : r < k) (ha : a < M) : (r * M + a) / k < M := by
  rw [Nat.div_lt_iff_lt_mul (by omega)]
  have h1 : (r + 1) * M ≤ k * M := Nat.mul_le_mul_right _ hr
  rw [Nat.add_mul, Nat.one_mul] at h1
  rw [Nat.mul_comm M k]
  exact Nat.lt_of_lt_of_le (Nat.add_lt_add_left ha _) h1
theorem quo_lt {r k a : Nat} (hr : r < k) (ha : a < 18446744073709551616) : (r * 18446744073709551616 + a) / k < 18446744073709551616 := quo_lt_of 18446744073709551616 hr ha
/-- the quotient and what is left -/
def divU (x : U4) (k : Nat) : U4 × Nat := if k = 0 then (U4.zero, 0) else (ofN (x.nat / k), x.nat % k)
theorem div_sum (M M2 M3 a b c d p0 p1 p2 p3 r1 r2 r3 r4 : Nat) (hM2 : M2 = M * M) (hM3 : M3 = M2 * M) (k4 : d = p3 + r1) (k3 : M * r1 + c = p2 + r2) (k2 : M * r2 + b = p1 + r3) (k1 : M * r3 + a = p0 + r4) :
    a + M * b + M2 * c + M3 * d = p0 + M * p1 + M2 * p2 + M3 * p3 + r4 := by
  have e3 : M2 * (M * r1) + M2 * c = M2 * p2 + M2 * r2 := by rw [← Nat.mul_add, ← Nat.mul_add, k3]
  have e2 : M * (M * r2) + M * b = M * p1 + M * r3 := by rw [← Nat.mul_add, ← Nat.mul_add, k2]
  have e4 : M3 * d = M3 * p3 + M2 * (M * r1) := by rw [k4, Nat.mul_add, hM3, Nat.mul_assoc, Nat.mul_assoc]
  have e5 : M2 * r2 = M * (M * r2) := by rw [hM2, Nat.mul_assoc]
  omega
theorem div_join (a b c d k q0 q1 q2 q3 r1 r2 r3 r4 : Nat) (h4 : 0 * 18446744073709551616 + d = q3 * k + r1) (h3 : r1 * 18446744073709551616 + c = q2 * k + r2) (h2 : r2 * 18446744073709551616 + b = q1 * k + r3) (h1 : r3 * 18446744073709551616 + a = q0 * k + r4) :
    (U4.mk a b c d).nat = (U4.mk q0 q1 q2 q3).nat * k + r4 := by
  simp only [U4.nat, Nat.add_mul, Nat.mul_assoc]
  exact div_sum 18446744073709551616 340282366920938463463374607431768211456 6277101735386680763835789423207666416102355444464034512896 a b c d _ _ _ _ r1 r2 r3 r4 rfl rfl (by rw [← h4, Nat.zero_mul, Nat.zero_add]) (by rw [← h3, Nat.mul_comm]) (by rw [← h2, Nat.mul_comm]) (by rw [← h1, Nat.mul_comm])
theorem div_end {x : U4} (hx : x.ok) {k : Nat} (hk : 0 < k) : divU x k = divSt x k 4 ∧ (divSt x k 4).1.ok := by
  have e4 : 0 * 18446744073709551616 + x.d = (divSt x k 1).1.d * k + (divSt x k 1).2 := by simp only [divSt]; exact (Nat.div_add_mod' _ _).symm
  have e3 : (divSt x k 1).2 * 18446744073709551616 + x.c = (divSt x k 2).1.c * k + (divSt x k 2).2 := by rw [divSt.eq_3 x k]; exact (Nat.div_add_mod' _ _).symm
  have e2 : (divSt x k 2).2 * 18446744073709551616 + x.b = (divSt x k 3).1.b * k + (divSt x k 3).2 := by rw [divSt.eq_4 x k]; exact (Nat.div_add_mod' _ _).symm
  have e1 : (divSt x k 3).2 * 18446744073709551616 + x.a = (divSt x k 4).1.a * k + (divSt x k 4).2 := by rw [divSt.eq_5 x k]; exact (Nat.div_add_mod' _ _).symm
  have s4 : divSt x k 4 = (⟨(divSt x k 4).1.a, (divSt x k 3).1.b, (divSt x k 2).1.c, (divSt x k 1).1.d⟩, (divSt x k 4).2) := by simp only [divSt]
  have j := div_join _ _ _ _ _ _ _ _ _ _ _ _ _ e4 e3 e2 e1
  have hq : (divSt x k 4).1 = ⟨(divSt x k 4).1.a, (divSt x k 3).1.b, (divSt x k 2).1.c, (divSt x k 1).1.d⟩ := by rw [s4]
  have hr := divSt_lt x hk (show 4 ≤ 4 by omega)
  have hok : (divSt x k 4).1.ok := by
    rw [hq]
    obtain ⟨h1, h2, h3, h4⟩ := hx
    refine ⟨?_, ?_, ?_, ?_⟩
    · have := quo_lt (divSt_lt x hk (show 3 ≤ 4 by omega)) h1; simpa [divSt] using this
    · have := quo_lt (divSt_lt x hk (show 2 ≤ 4 by omega)) h2; simpa [divSt] using this
    · have := quo_lt (divSt_lt x hk (show 1 ≤ 4 by omega)) h3; simpa [divSt] using this
    · have := quo_lt (r := 0) hk h4; simpa [divSt] using this
  rw [← hq] at j
  have hj : x.nat = (divSt x k 4).1.nat * k + (divSt x k 4).2 := j
  refine ⟨?_, hok⟩
  unfold divU
  rw [if_neg (by omega)]
  have d1 : x.nat / k = (divSt x k 4).1.nat := by rw [hj, Nat.mul_comm, Nat.mul_add_div hk, Nat.div_eq_of_lt hr, Nat.add_zero]
  have d2 : x.nat % k = (divSt x k 4).2 := by rw [hj, Nat.mul_comm, Nat.mul_add_mod, Nat.mod_eq_of_lt hr]
  rw [d1, d2, ofN_nat hok]

set_option maxHeartbeats 1000000 in
theorem div_any (x : U4) (k : Nat) (w : World) (hx : x.ok) (hk : k < 18446744073709551616) : Calls Tryd.prog 21 #[x.val, .int .u64 (k : Int)] w fun e w' => e = .returned (.tuple #[(divU x k).1.val, .int .u64 ((divU x k).2 : Int)]) ∧ Below w.heap.size w w' := by
  by_cases h0 : k = 0
  · subst h0
    have hd : divU x 0 = (U4.zero, 0) := rfl
    rw [hd]
    clear hd hk
    unfold U4.val
    obtain ⟨X, hX⟩ : ∃ X, X = x.cells := ⟨_, rfl⟩
    rw [← hX]
    clear hX
    go_enter Tryd.func21, Tryd.ntmps21
    go_wp2_with fail
    refine bodyPost_ret (v := .tuple #[.agg U4.zero.cells, .int .u64 0]) ?_ rfl ⟨rfl, ?_⟩
    · simp [results, Tryd.results21, go_sem, U4.cells, U4.zero]
    · have hg : w.heap.size ≤ w.heap.size + 1 := by omega
      exact (((((Below.refl _ _).alloc (Nat.le_refl _) _).alloc (by simp) _)))
  · obtain ⟨hau, hok⟩ := div_end hx (show 0 < k by omega)
    have b0 : ((k : Int) == 0) = false := by rw [beq_eq_false_iff_ne]; omega
    have HX := Lib.hid hx
    have HQ := Lib.hid hk
    have HK := Lib.hid (show 0 < k by omega)
    have HO := Lib.hid hok
    rw [hau]
    clear hx hk h0 hok hau
    obtain ⟨X, hX⟩ : ∃ X, X = x.cells := ⟨_, rfl⟩
    unfold U4.val
    rw [← hX]
    have hXc := fun (k : Nat) (h : k < 4) => hX ▸ x.cell_at h
    have CX := Lib.hid hXc
    clear hX hXc
    go_enter Tryd.func21, Tryd.ntmps21
    go_wp2_with fail
    go_loopw [7, 8] (fun c i wr => ∃ r : Nat, r ≤ 4 ∧ i = .int .i64 ((r : Int) - 1) ∧ c = .int .u64 ((divSt x k (4 - r)).2 : Int) ∧ LBlk wr w.heap.size X ∧ LBlk wr (w.heap.size + 1) U4.zero.cells ∧ LBlk wr (w.heap.size + 1 + 1) (divSt x k (4 - r)).1.cells ∧ Below w.heap.size w wr) (fun _ i _ => (intOf i + 1).toNat)
    case atStart =>
      obtain ⟨h1, h2, h3, h4⟩ := three w X U4.zero.cells U4.zero.cells
      exact ⟨4, by omega, rfl, by simp [divSt], h1, h2, by simp only [Nat.sub_self, divSt]; exact h3, h4⟩
    case round =>
      obtain ⟨r', hr, rfl, rfl, hb0, hb2, hb3, hb⟩ := hrel
      by_cases hlt : r' = 0
      · subst hlt
        have hsz := hb.size
        have hl := hb3.lt
        rw [Nat.sub_zero] at hb3 ⊢
        obtain ⟨s, hs⟩ : ∃ s, s = (divSt x k 4).1 := ⟨_, rfl⟩
        rw [← hs] at hb3
        obtain ⟨c0, c1, c2, c3⟩ := hb3.all
        obtain ⟨d0, d1, d2, d3⟩ := hb2.all
        have f0 := hb2.free 0
        have f1 := hb2.free 1
        have f2 := hb2.free 2
        have f3 := hb2.free 3
        have HS := Lib.hid hs
        have BB := Lib.hid hb
        clear hs hb0 hb2 hb3 hb
        obtain ⟨rr, hrr⟩ : ∃ rr, rr = (divSt x k 4).2 := ⟨_, rfl⟩
        rw [← hrr]
        have HR := Lib.hid hrr
        clear hrr
        go_wp2
        refine bodyPost_ret (v := .tuple #[.agg s.cells, .int .u64 (rr : Int)]) ?_ rfl ⟨?_, ?_⟩
        · simp [results, Tryd.results21, go_sem, U4.cells, d0, d1, d2, d3]
        · rw [HS.out, HR.out]
        · have hg : w.heap.size ≤ w.heap.size + 1 := by omega
          exact (((BB.out.setCell hg _).setCell hg _).setCell hg _).setCell hg _
      · obtain ⟨r, rfl⟩ : ∃ r, r' = r + 1 := ⟨r' - 1, by omega⟩
        have hlt4 : r < 4 := by omega
        have i1 : (0 : Int) ≤ (r : Int) := by omega
        have i2 : (r : Int) < 4 := by omega
        have e43 : 4 - (r + 1) = 3 - r := by omega
        rw [e43] at hb3 ⊢
        obtain ⟨n1, n2⟩ := divSt_succ x k hlt4
        have hc1 := divSt_lt x HK.out (show 3 - r ≤ 4 by omega)
        have hpl := at_lt HX.out r
        have e1 := (blk_cell hb0 r).trans (CX.out r hlt4)
        have e3 := (blk_cell hb3 r).trans (U4.cell_at _ hlt4)
        have e4 := blk_free hb3 r
        have hm := (div64_any (divSt x k (3 - r)).2 (x.at r) k · hpl hc1 HQ.out)
        have HM := Lib.hid hm
        clear hm hc1 hpl e43
        generalize (divSt x k (3 - r)).2 = c at *
        generalize (c * 18446744073709551616 + x.at r) / k = q at *
        generalize (c * 18446744073709551616 + x.at r) % k = m at *
        have N1 := Lib.hid n1
        have N2 := Lib.hid n2
        have B0 := Lib.hid hb0
        have B2 := Lib.hid hb2
        have B3 := Lib.hid hb3
        have BB := Lib.hid hb
        clear hb0 hb2 hb3 hb n1 n2 hr hlt
        go_wp2_with (go_at_call 38; refine (HM.out _).mono ?_; rintro e w' ⟨rfl, nd, rfl⟩)
        go_roundw
        case rel =>
          refine ⟨r, by omega, rfl, by rw [N2.out], (show LBlk (wr.drewN nd) _ _ from B0.out).far (by omega) _ _, (show LBlk (wr.drewN nd) _ _ from B2.out).far (by omega) _ _, ?_, ?_⟩
          · rw [N1.out]
            exact (show LBlk (wr.drewN nd) _ _ from B3.out).set_ r _
          · exact (below_drewN' BB.out nd).setCell (show w.heap.size ≤ w.heap.size + 1 + 1 by omega) _
        case measure => simp [intOf]
end Go.Proofs.YthiacmpkbioahaaDoor
