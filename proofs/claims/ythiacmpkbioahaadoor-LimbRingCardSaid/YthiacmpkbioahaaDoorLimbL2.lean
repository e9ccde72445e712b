/- The walk of the law: a product is the sum of its parts' products. -/
import Derived.Test.YthiacmpkbioahaaDoorLimbL1
namespace Go.Proofs.YthiacmpkbioahaaDoor
open Go Go.RowKit

theorem mulU_yes {x : U4} {k : Nat} (h : x.nat * k < top) : mulU x k = (ofN (x.nat * k), true) := by unfold mulU; rw [if_pos h]
theorem mulU_no {x : U4} {k : Nat} (h : ¬ x.nat * k < top) : mulU x k = (U4.zero, false) := by unfold mulU; rw [if_neg h]
theorem mulU_ok {x : U4} {k : Nat} : (mulU x k).1.ok := by
  unfold mulU
  split
  · exact ofN_ok _
  · exact zero_ok
theorem split_math (a : U4) (k j : Nat) (h : a.nat * (k + j) < top) : mulU a k = (ofN (a.nat * k), true) ∧ mulU a j = (ofN (a.nat * j), true) ∧ addU (ofN (a.nat * k)) (ofN (a.nat * j)) = (ofN (a.nat * (k + j)), true) := by
  rw [Nat.mul_add] at h
  have h1 : a.nat * k < top := by omega
  have h2 : a.nat * j < top := by omega
  refine ⟨mulU_yes h1, mulU_yes h2, ?_⟩
  rw [addU_yes (by rw [nat_ofN h1, nat_ofN h2]; exact h), nat_ofN h1, nat_ofN h2, Nat.mul_add]

set_option maxHeartbeats 2000000 in
theorem split_walk (a : U4) (k j : Nat) (w : World) (ha : a.ok) (hk : k < 18446744073709551616) (hj : j < 18446744073709551616) : Calls Tryd.prog 10 #[a.val, .int .u64 (k : Int), .int .u64 (j : Int)] w fun e w' => e = .returned (.bool true) ∧ Below w.heap.size w w' := by
  have hbx : Below w.heap.size w (w.alloc (.cells a.cells 24)) := (Below.refl _ _).alloc (Nat.le_refl _) _
  have hb0 : Blk (w.alloc (.cells a.cells 24)) w.heap.size a.cells := Blk.new w _
  by_cases hov : k + j < 18446744073709551616
  · have ew : IntKind.u64.wrap ((k : Int) + (j : Int)) = ((k + j : Nat) : Int) := by rw [IntKind.wrap_u64]; omega
    obtain ⟨kj, hkj⟩ : ∃ kj, kj = k + j := ⟨_, rfl⟩
    rw [← hkj] at ew hov
    have e2 : (k : Int) + (j : Int) = (kj : Int) := by omega
    have d1 : decide (kj < k) = false := by rw [decide_eq_false_iff_not]; omega
    have n1 : ¬ kj < k := by omega
    have i1 : (k : Int) + (j : Int) ≤ 18446744073709551615 := by omega
    have k1 := (mul_any a kj · ha hov)
    have k2 := (mul_any a k · ha hk)
    have k3 := (mul_any a j · ha hj)
    have k4 := (add_any (mulU a k).1 (mulU a j).1 · mulU_ok mulU_ok)
    by_cases hft : a.nat * kj < top
    · have hm := split_math a k j (by rw [← hkj]; exact hft)
      rw [← hkj] at hm
      have hfin : (addU (mulU a k).1 (mulU a j).1) = (ofN (a.nat * kj), true) := by rw [hm.1, hm.2.1]; exact hm.2.2
      rw [mulU_yes hft] at k1
      obtain ⟨p, hp⟩ : ∃ p, p = ofN (a.nat * kj) := ⟨_, rfl⟩
      rw [← hp] at k1 hfin
      rw [hfin] at k4
      have hmk : (mulU a k).2 = true := by rw [hm.1]
      have hmj : (mulU a j).2 = true := by rw [hm.2.1]
      rw [hmk] at k2
      rw [hmj] at k3
      obtain ⟨x, hx⟩ : ∃ x, x = (mulU a k).1 := ⟨_, rfl⟩
      obtain ⟨y, hy⟩ : ∃ y, y = (mulU a j).1 := ⟨_, rfl⟩
      rw [← hx] at k2 k4
      rw [← hy] at k3 k4
      have q1 := eql4 p p
      rw [show eqB p p = true from eqB_refl p] at q1
      have h0 := hb0
      have hbe := hbx
      unfold U4.val at *
      unfold U4.cells at k1 k2 k3 k4 q1 h0 hbe ⊢
      have K1 := Lib.hid k1
      have K2 := Lib.hid k2
      have K3 := Lib.hid k3
      have K4 := Lib.hid k4
      have HKJ := Lib.hid hkj
      clear k1 k2 k3 k4 hx hy hp hm hfin hmk hmj hft hb0 hbx ha hk hj hov hkj
      go_enter Tryd.func10, Tryd.ntmps10
      go_wp2_with fail
      generalize w.alloc (.cells #[.int .u64 (a.a : Int), .int .u64 (a.b : Int), .int .u64 (a.c : Int), .int .u64 (a.d : Int)] 24) = w0 at *
      refine (K1.out _).mono ?_
      rintro e w1 ⟨rfl, hb1⟩
      have h0' := step_new (x := a) h0 hb1 p
      have hp' : Blk (w1.alloc (.cells p.cells 24)) w1.heap.size p.cells := Blk.new w1 _
      have hbe' := below_chain hbe hbe.size hb1
      replace hbe' := hbe'.alloc hbe'.size (.cells p.cells 24)
      unfold U4.cells at h0' hp' hbe'
      clear h0 hbe hb1
      have h0 := h0'
      have hp := hp'
      have hbe := hbe'
      clear h0' hp' hbe'
      obtain ⟨ch00, ch01, ch02, ch03⟩ := Blk.all (s := a) h0
      obtain ⟨chp0, chp1, chp2, chp3⟩ := Blk.all (s := p) hp
      go_wp2_with fail
      generalize w1.alloc (.cells #[.int .u64 (p.a : Int), .int .u64 (p.b : Int), .int .u64 (p.c : Int), .int .u64 (p.d : Int)] 24) = v1 at *
      generalize w1.heap.size = gp at *
      clear ch00 ch01 ch02 ch03 chp0 chp1 chp2 chp3
      refine (K2.out _).mono ?_
      rintro e w2 ⟨rfl, hb2⟩
      have h0' := step_new (x := a) h0 hb2 x
      have hp' := step_new (x := p) hp hb2 x
      have hx' : Blk (w2.alloc (.cells x.cells 24)) w2.heap.size x.cells := Blk.new w2 _
      have hbe' := below_chain hbe hbe.size hb2
      replace hbe' := hbe'.alloc hbe'.size (.cells x.cells 24)
      unfold U4.cells at h0' hp' hx' hbe'
      clear h0 hp hbe hb2
      have h0 := h0'
      have hp := hp'
      have hx := hx'
      have hbe := hbe'
      clear h0' hp' hx' hbe'
      obtain ⟨ch00, ch01, ch02, ch03⟩ := Blk.all (s := a) h0
      obtain ⟨chp0, chp1, chp2, chp3⟩ := Blk.all (s := p) hp
      obtain ⟨chx0, chx1, chx2, chx3⟩ := Blk.all (s := x) hx
      go_wp2_with fail
      generalize w2.alloc (.cells #[.int .u64 (x.a : Int), .int .u64 (x.b : Int), .int .u64 (x.c : Int), .int .u64 (x.d : Int)] 24) = v2 at *
      generalize w2.heap.size = gx at *
      clear ch00 ch01 ch02 ch03 chp0 chp1 chp2 chp3 chx0 chx1 chx2 chx3
      refine (K3.out _).mono ?_
      rintro e w3 ⟨rfl, hb3⟩
      have h0' := step_new (x := a) h0 hb3 y
      have hp' := step_new (x := p) hp hb3 y
      have hx' := step_new (x := x) hx hb3 y
      have hy' : Blk (w3.alloc (.cells y.cells 24)) w3.heap.size y.cells := Blk.new w3 _
      have hbe' := below_chain hbe hbe.size hb3
      replace hbe' := hbe'.alloc hbe'.size (.cells y.cells 24)
      unfold U4.cells at h0' hp' hx' hy' hbe'
      clear h0 hp hx hbe hb3
      have h0 := h0'
      have hp := hp'
      have hx := hx'
      have hy := hy'
      have hbe := hbe'
      clear h0' hp' hx' hy' hbe'
      obtain ⟨ch00, ch01, ch02, ch03⟩ := Blk.all (s := a) h0
      obtain ⟨chp0, chp1, chp2, chp3⟩ := Blk.all (s := p) hp
      obtain ⟨chx0, chx1, chx2, chx3⟩ := Blk.all (s := x) hx
      obtain ⟨chy0, chy1, chy2, chy3⟩ := Blk.all (s := y) hy
      go_wp2_with fail
      generalize w3.alloc (.cells #[.int .u64 (y.a : Int), .int .u64 (y.b : Int), .int .u64 (y.c : Int), .int .u64 (y.d : Int)] 24) = v3 at *
      generalize w3.heap.size = gy at *
      clear ch00 ch01 ch02 ch03 chp0 chp1 chp2 chp3 chx0 chx1 chx2 chx3 chy0 chy1 chy2 chy3
      refine (fixed_any _).mono ?_
      rintro e w4 ⟨rfl, hb4⟩
      have h0' := Blk.below (cs := a.cells) h0 hb4 (blk_lt h0)
      have hp' := Blk.below (cs := p.cells) hp hb4 (blk_lt hp)
      have hx' := Blk.below (cs := x.cells) hx hb4 (blk_lt hx)
      have hy' := Blk.below (cs := y.cells) hy hb4 (blk_lt hy)
      have hbe' := below_chain hbe hbe.size hb4
      clear h0 hp hx hy hbe hb4
      have h0 := h0'
      obtain ⟨ch00, ch01, ch02, ch03⟩ := h0'.all
      have hp := hp'
      obtain ⟨chp0, chp1, chp2, chp3⟩ := hp'.all
      have hx := hx'
      obtain ⟨chx0, chx1, chx2, chx3⟩ := hx'.all
      have hy := hy'
      obtain ⟨chy0, chy1, chy2, chy3⟩ := hy'.all
      have hbe := hbe'
      clear hbe' h0' hp' hx' hy'
      go_wp2_with fail
      clear ch00 ch01 ch02 ch03 chp0 chp1 chp2 chp3 chx0 chx1 chx2 chx3 chy0 chy1 chy2 chy3
      refine (K4.out _).mono ?_
      rintro e w5 ⟨rfl, hb5⟩
      have hp5 := (Blk.below (cs := p.cells) hp hb5 (blk_lt hp)).alloc (.cells p.cells 24)
      have hs5 : Blk (w5.alloc (.cells p.cells 24)) w5.heap.size p.cells := Blk.new w5 _
      have hbe5 := below_chain hbe hbe.size hb5
      replace hbe5 := hbe5.alloc hbe5.size (.cells p.cells 24)
      unfold U4.cells at hp5 hs5 hbe5
      obtain ⟨c0, c1, c2, c3⟩ := Blk.all (s := p) hp5
      obtain ⟨d0, d1, d2, d3⟩ := Blk.all (s := p) hs5
      have HBE := Lib.hid hbe5
      clear hbe hb5 h0 hp hx hy hp5 hs5 hbe5
      go_wp2_with fail
      go_ret
      exact ⟨rfl, HBE.out⟩
    · rw [mulU_no hft] at k1
      obtain ⟨x, hx⟩ : ∃ x, x = (mulU a k).1 := ⟨_, rfl⟩
      obtain ⟨y, hy⟩ : ∃ y, y = (mulU a j).1 := ⟨_, rfl⟩
      rw [← hx] at k2
      rw [← hy] at k3
      generalize (mulU a k).2 = bk at *
      generalize (mulU a j).2 = bj at *
      obtain ⟨p, hp⟩ : ∃ p, p = U4.zero := ⟨_, rfl⟩
      rw [← hp] at k1
      have q1 : ∀ W, (binOp .eql 24 (.agg p.cells) (.agg #[.int .u64 0, .int .u64 0, .int .u64 0, .int .u64 0])).run Tryd.prog W = .ok (.bool true) W := fun W => by
        have := eql4 p U4.zero W
        rw [eqB_iff.2 hp] at this
        exact this
      have h0 := hb0
      have hbe := hbx
      unfold U4.val at *
      unfold U4.cells at k1 k2 k3 q1 h0 hbe ⊢
      have K1 := Lib.hid k1
      have K2 := Lib.hid k2
      have K3 := Lib.hid k3
      have HKJ := Lib.hid hkj
      clear k1 k2 k3 k4 hx hy hp hft hb0 hbx ha hk hj hov hkj
      go_enter Tryd.func10, Tryd.ntmps10
      go_wp2_with fail
      generalize w.alloc (.cells #[.int .u64 (a.a : Int), .int .u64 (a.b : Int), .int .u64 (a.c : Int), .int .u64 (a.d : Int)] 24) = w0 at *
      refine (K1.out _).mono ?_
      rintro e w1 ⟨rfl, hb1⟩
      have h0' := step_new (x := a) h0 hb1 p
      have hp' : Blk (w1.alloc (.cells p.cells 24)) w1.heap.size p.cells := Blk.new w1 _
      have hbe' := below_chain hbe hbe.size hb1
      replace hbe' := hbe'.alloc hbe'.size (.cells p.cells 24)
      unfold U4.cells at h0' hp' hbe'
      clear h0 hbe hb1
      have h0 := h0'
      have hp := hp'
      have hbe := hbe'
      clear h0' hp' hbe'
      obtain ⟨ch00, ch01, ch02, ch03⟩ := Blk.all (s := a) h0
      obtain ⟨chp0, chp1, chp2, chp3⟩ := Blk.all (s := p) hp
      go_wp2_with fail
      generalize w1.alloc (.cells #[.int .u64 (p.a : Int), .int .u64 (p.b : Int), .int .u64 (p.c : Int), .int .u64 (p.d : Int)] 24) = v1 at *
      generalize w1.heap.size = gp at *
      clear ch00 ch01 ch02 ch03 chp0 chp1 chp2 chp3
      refine (K2.out _).mono ?_
      rintro e w2 ⟨rfl, hb2⟩
      have h0' := step_new (x := a) h0 hb2 x
      have hp' := step_new (x := p) hp hb2 x
      have hx' : Blk (w2.alloc (.cells x.cells 24)) w2.heap.size x.cells := Blk.new w2 _
      have hbe' := below_chain hbe hbe.size hb2
      replace hbe' := hbe'.alloc hbe'.size (.cells x.cells 24)
      unfold U4.cells at h0' hp' hx' hbe'
      clear h0 hp hbe hb2
      have h0 := h0'
      have hp := hp'
      have hx := hx'
      have hbe := hbe'
      clear h0' hp' hx' hbe'
      obtain ⟨ch00, ch01, ch02, ch03⟩ := Blk.all (s := a) h0
      obtain ⟨chp0, chp1, chp2, chp3⟩ := Blk.all (s := p) hp
      obtain ⟨chx0, chx1, chx2, chx3⟩ := Blk.all (s := x) hx
      go_wp2_with fail
      generalize w2.alloc (.cells #[.int .u64 (x.a : Int), .int .u64 (x.b : Int), .int .u64 (x.c : Int), .int .u64 (x.d : Int)] 24) = v2 at *
      generalize w2.heap.size = gx at *
      clear ch00 ch01 ch02 ch03 chp0 chp1 chp2 chp3 chx0 chx1 chx2 chx3
      refine (K3.out _).mono ?_
      rintro e w3 ⟨rfl, hb3⟩
      have h0' := step_new (x := a) h0 hb3 y
      have hp' := step_new (x := p) hp hb3 y
      have hx' := step_new (x := x) hx hb3 y
      have hy' : Blk (w3.alloc (.cells y.cells 24)) w3.heap.size y.cells := Blk.new w3 _
      have hbe' := below_chain hbe hbe.size hb3
      replace hbe' := hbe'.alloc hbe'.size (.cells y.cells 24)
      unfold U4.cells at h0' hp' hx' hy' hbe'
      clear h0 hp hx hbe hb3
      have h0 := h0'
      have hp := hp'
      have hx := hx'
      have hy := hy'
      have hbe := hbe'
      clear h0' hp' hx' hy' hbe'
      obtain ⟨ch00, ch01, ch02, ch03⟩ := Blk.all (s := a) h0
      obtain ⟨chp0, chp1, chp2, chp3⟩ := Blk.all (s := p) hp
      obtain ⟨chx0, chx1, chx2, chx3⟩ := Blk.all (s := x) hx
      obtain ⟨chy0, chy1, chy2, chy3⟩ := Blk.all (s := y) hy
      go_wp2_with fail
      generalize w3.alloc (.cells #[.int .u64 (y.a : Int), .int .u64 (y.b : Int), .int .u64 (y.c : Int), .int .u64 (y.d : Int)] 24) = v3 at *
      generalize w3.heap.size = gy at *
      clear ch00 ch01 ch02 ch03 chp0 chp1 chp2 chp3 chx0 chx1 chx2 chx3 chy0 chy1 chy2 chy3
      refine (fixed_any _).mono ?_
      rintro e w4 ⟨rfl, hb4⟩
      have hp4 := Blk.below (cs := p.cells) hp hb4 (blk_lt hp)
      have hbe4 := below_chain hbe hbe.size hb4
      clear h0 hp hx hy hbe hb4
      go_wp2_with fail
      refine (fixed_any _).mono ?_
      rintro e w5 ⟨rfl, hb5⟩
      obtain ⟨c0, c1, c2, c3⟩ := (Blk.below (cs := p.cells) hp4 hb5 (blk_lt hp4)).all
      have HBE := Lib.hid (below_chain hbe4 hbe4.size hb5)
      clear hp4 hbe4 hb5
      go_wp2_with fail
      go_ret
      exact ⟨rfl, HBE.out⟩
  · have ew : IntKind.u64.wrap ((k : Int) + (j : Int)) = ((k + j - 18446744073709551616 : Nat) : Int) := by rw [IntKind.wrap_u64]; omega
    obtain ⟨kj, hkj⟩ : ∃ kj, kj = k + j - 18446744073709551616 := ⟨_, rfl⟩
    rw [← hkj] at ew
    have d1 : decide (kj < k) = true := by rw [decide_eq_true_iff]; omega
    have n1 : kj < k := by omega
    clear hb0 ha hk hj hov hkj
    unfold U4.val at *
    unfold U4.cells at hbx ⊢
    have HBX := Lib.hid hbx
    clear hbx
    go_enter Tryd.func10, Tryd.ntmps10
    go_wp2_with fail
    refine (fixed_any _).mono ?_
    rintro e w1 ⟨rfl, hb1⟩
    go_wp2_with fail
    go_ret
    exact ⟨rfl, below_chain HBX.out HBX.out.size hb1⟩
end Go.Proofs.YthiacmpkbioahaaDoor
