
/- The walks of package limb: Mul. -/
import Derived.Test.YthiacmpkbioahaaDoorLimbA0
import Derived.Test.YthiacmpkbioahaaDoorShf
namespace Go.Proofs.YthiacmpkbioahaaDoor
open Go.RowKit

theorem mulSt_succ (x : U4) (q : Nat) {k : Nat} (h : k < 4) : (mulSt x q (k + 1)).1.cells = (mulSt x q k).1.cells.setIfInBounds k (.int .u64 (((x.at k * q + (mulSt x q k).2) % 18446744073709551616 : Nat) : Int)) ∧
    (mulSt x q (k + 1)).2 = (x.at k * q + (mulSt x q k).2) / 18446744073709551616 := by
  have : k = 0 ∨ k = 1 ∨ k = 2 ∨ k = 3 := by omega
  rcases this with rfl | rfl | rfl | rfl <;> constructor <;> simp [mulSt, U4.cells, U4.at]
theorem at_lt {x : U4} (hx : x.ok) (k : Nat) : x.at k < 18446744073709551616 := by
  obtain ⟨h1, h2, h3, h4⟩ := hx
  rcases k with _ | _ | _ | k
  · exact h1
  · exact h2
  · exact h3
  · exact h4
theorem mul_step {p q c : Nat} (hp : p < 18446744073709551616) (hq : q < 18446744073709551616) (hc : c < 18446744073709551616) : (p * q + c) / 18446744073709551616 < 18446744073709551616 := by
  have h : p * q ≤ 18446744073709551615 * 18446744073709551615 := Nat.mul_le_mul (by omega) (by omega)
  omega
theorem mulSt_lt {x : U4} (hx : x.ok) {q : Nat} (hq : q < 18446744073709551616) {k : Nat} (h : k ≤ 4) : (mulSt x q k).2 < 18446744073709551616 := by
  induction k with
  | zero => simp [mulSt]
  | succ k ih => rw [(mulSt_succ x q (by omega)).2]; exact mul_step (at_lt hx k) hq (ih (by omega))
/-- what is carried on: the high half, and what the low half's sum carries -/
theorem mul_carry (P c : Nat) (hc : c < 18446744073709551616) : P / 18446744073709551616 + (P % 18446744073709551616 + c + 0) / 18446744073709551616 = (P + c) / 18446744073709551616 ∧ (P % 18446744073709551616 + c + 0) % 18446744073709551616 = (P + c) % 18446744073709551616 := by omega

theorem three (w : World) (X Z S : Array Value) : LBlk (((w.alloc (.cells X 24)).alloc (.cells Z 24)).alloc (.cells S 24)) w.heap.size X ∧
    LBlk (((w.alloc (.cells X 24)).alloc (.cells Z 24)).alloc (.cells S 24)) (w.heap.size + 1) Z ∧
    LBlk (((w.alloc (.cells X 24)).alloc (.cells Z 24)).alloc (.cells S 24)) (w.heap.size + 1 + 1) S ∧
    Below w.heap.size w (((w.alloc (.cells X 24)).alloc (.cells Z 24)).alloc (.cells S 24)) := by
  refine ⟨((LBlk.new w X).alloc _).alloc _, ?_, ?_, (((Below.refl _ _).alloc (Nat.le_refl _) _).alloc (by simp) _).alloc (by simp; omega) _⟩
  · have := (LBlk.new (w.alloc (.cells X 24)) Z).alloc (.cells S 24)
    simpa using this
  · have := LBlk.new ((w.alloc (.cells X 24)).alloc (.cells Z 24)) S
    simpa using this

set_option maxHeartbeats 1000000 in
theorem mul_any (x : U4) (q : Nat) (w : World) (hx : x.ok) (hq : q < 18446744073709551616) : Calls Tryd.prog 19 #[x.val, .int .u64 (q : Int)] w fun e w' => e = .returned (.tuple #[(mulU x q).1.val, .bool (mulU x q).2]) ∧ Below w.heap.size w w' := by
  have HX := Lib.hid hx
  have HQ := Lib.hid hq
  clear hx hq
  obtain ⟨X, hX⟩ : ∃ X, X = x.cells := ⟨_, rfl⟩
  unfold U4.val
  rw [← hX]
  have hXc := fun (k : Nat) (h : k < 4) => hX ▸ x.cell_at h
  have CX := Lib.hid hXc
  clear hX hXc
  go_enter Tryd.func19, Tryd.ntmps19
  go_wp2_with fail
  go_loopw [7, 13] (fun c i wr => ∃ k : Nat, k ≤ 4 ∧ i = .int .i64 k ∧ c = .int .u64 ((mulSt x q k).2 : Int) ∧ LBlk wr w.heap.size X ∧ LBlk wr (w.heap.size + 1) U4.zero.cells ∧ LBlk wr (w.heap.size + 1 + 1) (mulSt x q k).1.cells ∧ Below w.heap.size w wr) (fun _ i _ => 4 - (intOf i).toNat)
  case atStart =>
    obtain ⟨h1, h2, h3, h4⟩ := three w X U4.zero.cells U4.zero.cells
    exact ⟨0, by omega, rfl, by simp [mulSt], h1, h2, by simp only [mulSt]; exact h3, h4⟩
  case round =>
    obtain ⟨k, hk, rfl, rfl, hb0, hb2, hb3, hb⟩ := hrel
    by_cases hlt : k < 4
    · have i1 : (0 : Int) ≤ (k : Int) := by omega
      have i2 : (k : Int) < 4 := by omega
      obtain ⟨n1, n2⟩ := mulSt_succ x q hlt
      have hc1 := mulSt_lt HX.out HQ.out hk
      have hpl := at_lt HX.out k
      have e1 := (blk_cell hb0 k).trans (CX.out k hlt)
      have e3 := (blk_cell hb3 k).trans (U4.cell_at _ hlt)
      have e4 := blk_free hb3 k
      have hm := (Tryd.bits_Mul64 (x.at k) q hpl HQ.out ·)
      have ha : ∀ W, (callFunc 33 #[.int .u64 ((x.at k * q % 18446744073709551616 : Nat) : Int), .int .u64 ((mulSt x q k).2 : Int), .int .u64 0]).run Tryd.prog W = .ok (.value (.tuple #[.int .u64 (((x.at k * q % 18446744073709551616 + (mulSt x q k).2 + 0) % 18446744073709551616 : Nat) : Int), .int .u64 (((x.at k * q % 18446744073709551616 + (mulSt x q k).2 + 0) / 18446744073709551616 : Nat) : Int)])) W := add64 (x.at k * q % 18446744073709551616) (mulSt x q k).2 0 (by omega)
      obtain ⟨m1, m2⟩ := mul_carry (x.at k * q) (mulSt x q k).2 hc1
      have hst := mul_step hpl HQ.out hc1
      rw [← m1] at n2 hst
      simp only [m2] at ha
      have HM := Lib.hid hm
      clear hm m1 m2
      generalize (mulSt x q k).2 = c at *
      generalize (x.at k * q + c) % 18446744073709551616 = r at *
      generalize x.at k * q / 18446744073709551616 = hi at *
      generalize (x.at k * q % 18446744073709551616 + c + 0) / 18446744073709551616 = cc at *
      generalize x.at k * q % 18446744073709551616 = lo at *
      have N1 := Lib.hid n1
      have N2 := Lib.hid n2
      have B0 := Lib.hid hb0
      have B2 := Lib.hid hb2
      have B3 := Lib.hid hb3
      have BB := Lib.hid hb
      have s1 : (0 : Int) ≤ (hi : Int) + (cc : Int) := by omega
      have s2 : (hi : Int) + (cc : Int) ≤ 18446744073709551615 := by omega
      clear hb0 hb2 hb3 hb n1 n2 hc1 hpl hst
      go_wp2_with (go_at_call 37; refine (HM.out _).mono ?_; rintro e w' ⟨rfl, rfl⟩)
      go_roundw
      case rel =>
        refine ⟨k + 1, by omega, by go_num, by rw [N2.out]; go_num, B0.out.far (by omega) _ _, B2.out.far (by omega) _ _, ?_, ?_⟩
        · rw [N1.out]
          exact B3.out.set_ k _
        · exact BB.out.setCell (by simp; omega) _
      case measure => simp [intOf]; omega
    · have hk4 : k = 4 := by omega
      subst hk4
      have hsz := hb.size
      have hl := hb3.lt
      obtain ⟨s, hs⟩ : ∃ s, s = (mulSt x q 4).1 := ⟨_, rfl⟩
      by_cases hc0 : (mulSt x q 4).2 = 0
      · have hau := mul_fits hc0
        rw [← hs] at hau hb3
        obtain ⟨c0, c1, c2, c3⟩ := hb3.all
        obtain ⟨d0, d1, d2, d3⟩ := hb2.all
        have f0 := hb2.free 0
        have f1 := hb2.free 1
        have f2 := hb2.free 2
        have f3 := hb2.free 3
        rw [hc0]
        have HA := Lib.hid hau
        have HS := Lib.hid hs
        have BB := Lib.hid hb
        clear hau hs hc0 hb0 hb2 hb3 hb
        go_wp2
        refine bodyPost_ret (v := .tuple #[.agg s.cells, .bool true]) ?_ rfl ⟨?_, ?_⟩
        · simp [results, Tryd.results19, go_sem, U4.cells, d0, d1, d2, d3]
        · rw [HA.out]
        · have hg : w.heap.size ≤ w.heap.size + 1 := by omega
          exact (((BB.out.setCell hg _).setCell hg _).setCell hg _).setCell hg _
      · have hau := mul_over hc0
        obtain ⟨d0, d1, d2, d3⟩ := hb2.all
        have f0 := hb2.free 0
        have f1 := hb2.free 1
        have f2 := hb2.free 2
        have f3 := hb2.free 3
        have b1 : (((mulSt x q 4).2 : Int) != 0) = true := by rw [bne_iff_ne]; omega
        have b2 : (((mulSt x q 4).2 : Int) == 0) = false := by rw [beq_eq_false_iff_ne]; omega
        generalize (mulSt x q 4).2 = cc at *
        have HA := Lib.hid hau
        have BB := Lib.hid hb
        clear hau hs hc0 hb0 hb2 hb3 hb
        go_wp2
        refine bodyPost_ret (v := .tuple #[.agg U4.zero.cells, .bool false]) ?_ rfl ⟨?_, ?_⟩
        · simp [results, Tryd.results19, go_sem, U4.cells, U4.zero, d0, d1, d2, d3]
        · rw [HA.out]
        · have hg : w.heap.size ≤ w.heap.size + 1 := by omega
          exact (((BB.out.setCell hg _).setCell hg _).setCell hg _).setCell hg _
end Go.Proofs.YthiacmpkbioahaaDoor
