
/- The walk of the law: three numbers in any order. -/
import Derived.Test.YthiacmpkbioahaaDoorLimbT
namespace Go.Proofs.YthiacmpkbioahaaDoor
open Go Go.RowKit

theorem addU_ok {x y : U4} : (addU x y).1.ok := by
  unfold addU
  split
  · exact ofN_ok _
  · exact zero_ok
theorem addU_yes {x y : U4} (h : x.nat + y.nat < top) : addU x y = (ofN (x.nat + y.nat), true) := by unfold addU; rw [if_pos h]
theorem addU_no {x y : U4} (h : ¬ x.nat + y.nat < top) : addU x y = (U4.zero, false) := by unfold addU; rw [if_neg h]
theorem three_math (a b c : U4) : ((addU a b).2 && (addU (addU a b).1 c).2) = ((addU b c).2 && (addU a (addU b c).1).2) ∧
    (((addU a b).2 && (addU (addU a b).1 c).2) = true → (addU (addU a b).1 c).1 = (addU a (addU b c).1).1) := by
  by_cases h1 : a.nat + b.nat < top
  · rw [addU_yes h1]
    have e1 := nat_ofN h1
    by_cases h2 : b.nat + c.nat < top
    · rw [addU_yes h2]
      have e2 := nat_ofN h2
      by_cases h3 : a.nat + b.nat + c.nat < top
      · rw [addU_yes (by simp only [e1]; exact h3), addU_yes (x := a) (by simp only [e2]; omega)]
        simp [e1, e2, Nat.add_assoc]
      · rw [addU_no (by simp only [e1]; exact h3), addU_no (x := a) (by simp only [e2]; omega)]
        exact ⟨rfl, fun h => by cases h⟩
    · rw [addU_no h2, addU_no (x := ofN _) (by simp only [e1]; omega)]
      exact ⟨rfl, fun h => by cases h⟩
  · rw [addU_no h1]
    by_cases h2 : b.nat + c.nat < top
    · rw [addU_yes h2]
      have e2 := nat_ofN h2
      rw [addU_no (x := a) (by simp only [e2]; omega)]
      exact ⟨rfl, fun h => by cases h⟩
    · rw [addU_no h2]
      exact ⟨rfl, fun h => by cases h⟩

theorem boxes3 (w : World) (a b c : U4) : LBlk (((w.alloc (.cells a.cells 24)).alloc (.cells b.cells 24)).alloc (.cells c.cells 24)) w.heap.size a.cells ∧
    LBlk (((w.alloc (.cells a.cells 24)).alloc (.cells b.cells 24)).alloc (.cells c.cells 24)) (w.heap.size + 1) b.cells ∧
    LBlk (((w.alloc (.cells a.cells 24)).alloc (.cells b.cells 24)).alloc (.cells c.cells 24)) (w.heap.size + 1 + 1) c.cells ∧
    Below w.heap.size w (((w.alloc (.cells a.cells 24)).alloc (.cells b.cells 24)).alloc (.cells c.cells 24)) := three w a.cells b.cells c.cells

/-- a block more, behind a call -/
theorem step_new {w w' : World} {g : Nat} {x : U4} (h : LBlk w g x.cells) (hb : Below w.heap.size w w') (y : U4) : LBlk (w'.alloc (.cells y.cells 24)) g x.cells := (h.below hb h.lt).alloc _

set_option maxHeartbeats 2000000 in
theorem three_walk (a b c : U4) (w : World) (ha : a.ok) (hb : b.ok) (hc : c.ok) : Calls Tryd.prog 9 #[a.val, b.val, c.val] w fun e w' => e = .returned (.bool true) ∧ Below w.heap.size w w' := by
  obtain ⟨m1, m2⟩ := three_math a b c
  have k1 := (add_any a b · ha hb)
  have k2 := (add_any (addU a b).1 c · addU_ok hc)
  have k3 := (add_any b c · hb hc)
  have k4 := (add_any a (addU b c).1 · ha addU_ok)
  obtain ⟨x, hx⟩ : ∃ x, x = (addU a b).1 := ⟨_, rfl⟩
  obtain ⟨z, hz⟩ : ∃ z, z = (addU b c).1 := ⟨_, rfl⟩
  rw [← hx] at k1 k2 m1 m2
  rw [← hz] at k3 k4 m1 m2
  obtain ⟨y, hy⟩ : ∃ y, y = (addU x c).1 := ⟨_, rfl⟩
  obtain ⟨u, hu⟩ : ∃ u, u = (addU a z).1 := ⟨_, rfl⟩
  rw [← hy] at k2 m2
  rw [← hu] at k4 m2
  generalize (addU a b).2 = p at *
  generalize (addU x c).2 = q at *
  generalize (addU b c).2 = r at *
  generalize (addU a z).2 = s at *
  have q1 := eql4 y u
  obtain ⟨h0, h1, h2, hbe0⟩ := boxes3 w a b c
  unfold U4.val at *
  unfold U4.cells at k1 k2 k3 k4 q1 h0 h1 h2 hbe0 ⊢
  have K1 := Lib.hid k1
  have K2 := Lib.hid k2
  have K3 := Lib.hid k3
  have K4 := Lib.hid k4
  have M := Lib.hid (And.intro m1 m2)
  clear k1 k2 k3 k4 m1 m2 hx hz hy hu ha hb hc
  go_enter Tryd.func9, Tryd.ntmps9
  go_wp2_with fail
  generalize ((w.alloc (.cells #[.int .u64 (a.a : Int), .int .u64 (a.b : Int), .int .u64 (a.c : Int), .int .u64 (a.d : Int)] 24)).alloc (.cells #[.int .u64 (b.a : Int), .int .u64 (b.b : Int), .int .u64 (b.c : Int), .int .u64 (b.d : Int)] 24)).alloc (.cells #[.int .u64 (c.a : Int), .int .u64 (c.b : Int), .int .u64 (c.c : Int), .int .u64 (c.d : Int)] 24) = w0 at *
  refine (K1.out _).mono ?_
  rintro e w1 ⟨rfl, hb1⟩
  have hbe := hbe0
  clear hbe0
  have h0' := step_new (x := a) h0 hb1 x
  have h1' := step_new (x := b) h1 hb1 x
  have h2' := step_new (x := c) h2 hb1 x
  have hx' : LBlk (w1.alloc (.cells x.cells 24)) w1.heap.size x.cells := LBlk.new w1 _
  have hbe' := below_chain hbe hbe.size hb1
  replace hbe' := hbe'.alloc hbe'.size (.cells x.cells 24)
  unfold U4.cells at h0' h1' h2' hx' hbe'
  clear h0 h1 h2 hbe hb1
  have h0 := h0'
  have h1 := h1'
  have h2 := h2'
  have hx := hx'
  have hbe := hbe'
  clear h0' h1' h2' hx' hbe'
  obtain ⟨ch00, ch01, ch02, ch03⟩ := LBlk.all (s := a) h0
  obtain ⟨ch10, ch11, ch12, ch13⟩ := LBlk.all (s := b) h1
  obtain ⟨ch20, ch21, ch22, ch23⟩ := LBlk.all (s := c) h2
  obtain ⟨chx0, chx1, chx2, chx3⟩ := LBlk.all (s := x) hx
  go_wp2_with fail
  generalize w1.alloc (.cells #[.int .u64 (x.a : Int), .int .u64 (x.b : Int), .int .u64 (x.c : Int), .int .u64 (x.d : Int)] 24) = v1 at *
  generalize w1.heap.size = gx at *
  clear ch00 ch01 ch02 ch03 ch10 ch11 ch12 ch13 ch20 ch21 ch22 ch23 chx0 chx1 chx2 chx3
  refine (K2.out _).mono ?_
  rintro e w2 ⟨rfl, hb2⟩
  have h0' := step_new (x := a) h0 hb2 y
  have h1' := step_new (x := b) h1 hb2 y
  have h2' := step_new (x := c) h2 hb2 y
  have hx' := step_new (x := x) hx hb2 y
  have hy' : LBlk (w2.alloc (.cells y.cells 24)) w2.heap.size y.cells := LBlk.new w2 _
  have hbe' := below_chain hbe hbe.size hb2
  replace hbe' := hbe'.alloc hbe'.size (.cells y.cells 24)
  unfold U4.cells at h0' h1' h2' hx' hy' hbe'
  clear h0 h1 h2 hx hbe hb2
  have h0 := h0'
  have h1 := h1'
  have h2 := h2'
  have hx := hx'
  have hy := hy'
  have hbe := hbe'
  clear h0' h1' h2' hx' hy' hbe'
  obtain ⟨ch00, ch01, ch02, ch03⟩ := LBlk.all (s := a) h0
  obtain ⟨ch10, ch11, ch12, ch13⟩ := LBlk.all (s := b) h1
  obtain ⟨ch20, ch21, ch22, ch23⟩ := LBlk.all (s := c) h2
  obtain ⟨chx0, chx1, chx2, chx3⟩ := LBlk.all (s := x) hx
  obtain ⟨chy0, chy1, chy2, chy3⟩ := LBlk.all (s := y) hy
  go_wp2_with fail
  generalize w2.alloc (.cells #[.int .u64 (y.a : Int), .int .u64 (y.b : Int), .int .u64 (y.c : Int), .int .u64 (y.d : Int)] 24) = v2 at *
  generalize w2.heap.size = gy at *
  clear ch00 ch01 ch02 ch03 ch10 ch11 ch12 ch13 ch20 ch21 ch22 ch23 chx0 chx1 chx2 chx3 chy0 chy1 chy2 chy3
  refine (K3.out _).mono ?_
  rintro e w3 ⟨rfl, hb3⟩
  have h0' := step_new (x := a) h0 hb3 z
  have h1' := step_new (x := b) h1 hb3 z
  have h2' := step_new (x := c) h2 hb3 z
  have hx' := step_new (x := x) hx hb3 z
  have hy' := step_new (x := y) hy hb3 z
  have hz' : LBlk (w3.alloc (.cells z.cells 24)) w3.heap.size z.cells := LBlk.new w3 _
  have hbe' := below_chain hbe hbe.size hb3
  replace hbe' := hbe'.alloc hbe'.size (.cells z.cells 24)
  unfold U4.cells at h0' h1' h2' hx' hy' hz' hbe'
  clear h0 h1 h2 hx hy hbe hb3
  have h0 := h0'
  have h1 := h1'
  have h2 := h2'
  have hx := hx'
  have hy := hy'
  have hz := hz'
  have hbe := hbe'
  clear h0' h1' h2' hx' hy' hz' hbe'
  obtain ⟨ch00, ch01, ch02, ch03⟩ := LBlk.all (s := a) h0
  obtain ⟨ch10, ch11, ch12, ch13⟩ := LBlk.all (s := b) h1
  obtain ⟨ch20, ch21, ch22, ch23⟩ := LBlk.all (s := c) h2
  obtain ⟨chx0, chx1, chx2, chx3⟩ := LBlk.all (s := x) hx
  obtain ⟨chy0, chy1, chy2, chy3⟩ := LBlk.all (s := y) hy
  obtain ⟨chz0, chz1, chz2, chz3⟩ := LBlk.all (s := z) hz
  go_wp2_with fail
  generalize w3.alloc (.cells #[.int .u64 (z.a : Int), .int .u64 (z.b : Int), .int .u64 (z.c : Int), .int .u64 (z.d : Int)] 24) = v3 at *
  generalize w3.heap.size = gz at *
  clear ch00 ch01 ch02 ch03 ch10 ch11 ch12 ch13 ch20 ch21 ch22 ch23 chx0 chx1 chx2 chx3 chy0 chy1 chy2 chy3 chz0 chz1 chz2 chz3
  refine (K4.out _).mono ?_
  rintro e w4 ⟨rfl, hb4⟩
  have h0' := step_new (x := a) h0 hb4 u
  have h1' := step_new (x := b) h1 hb4 u
  have h2' := step_new (x := c) h2 hb4 u
  have hx' := step_new (x := x) hx hb4 u
  have hy' := step_new (x := y) hy hb4 u
  have hz' := step_new (x := z) hz hb4 u
  have hu' : LBlk (w4.alloc (.cells u.cells 24)) w4.heap.size u.cells := LBlk.new w4 _
  have hbe' := below_chain hbe hbe.size hb4
  replace hbe' := hbe'.alloc hbe'.size (.cells u.cells 24)
  unfold U4.cells at h0' h1' h2' hx' hy' hz' hu' hbe'
  clear h0 h1 h2 hx hy hz hbe hb4
  have h0 := h0'
  have h1 := h1'
  have h2 := h2'
  have hx := hx'
  have hy := hy'
  have hz := hz'
  have hu := hu'
  have hbe := hbe'
  clear h0' h1' h2' hx' hy' hz' hu' hbe'
  obtain ⟨ch00, ch01, ch02, ch03⟩ := LBlk.all (s := a) h0
  obtain ⟨ch10, ch11, ch12, ch13⟩ := LBlk.all (s := b) h1
  obtain ⟨ch20, ch21, ch22, ch23⟩ := LBlk.all (s := c) h2
  obtain ⟨chx0, chx1, chx2, chx3⟩ := LBlk.all (s := x) hx
  obtain ⟨chy0, chy1, chy2, chy3⟩ := LBlk.all (s := y) hy
  obtain ⟨chz0, chz1, chz2, chz3⟩ := LBlk.all (s := z) hz
  obtain ⟨chu0, chu1, chu2, chu3⟩ := LBlk.all (s := u) hu
  go_wp2_with fail
  generalize w4.alloc (.cells #[.int .u64 (u.a : Int), .int .u64 (u.b : Int), .int .u64 (u.c : Int), .int .u64 (u.d : Int)] 24) = v4 at *
  generalize w4.heap.size = gu at *
  clear ch00 ch01 ch02 ch03 ch10 ch11 ch12 ch13 ch20 ch21 ch22 ch23 chx0 chx1 chx2 chx3 chy0 chy1 chy2 chy3 chz0 chz1 chz2 chz3 chu0 chu1 chu2 chu3
  refine (fixed_any _).mono ?_
  rintro e w5 ⟨rfl, hb5⟩
  have gy := LBlk.below (cs := y.cells) hy hb5 (blk_lt hy)
  have gu := LBlk.below (cs := u.cells) hu hb5 (blk_lt hu)
  obtain ⟨cy0, cy1, cy2, cy3⟩ := gy.all
  obtain ⟨cu0, cu1, cu2, cu3⟩ := gu.all
  have HBE := Lib.hid (below_chain hbe hbe.size hb5)
  clear gy gu hbe hb5 h0 h1 h2 hx hy hz hu
  have hm1 := M.out.1
  have hm2 : (p && q) = true → eqB y u = true := fun h => eqB_iff.2 (M.out.2 h)
  generalize eqB y u = bb at *
  have HM2 := Lib.hid hm2
  clear hm2
  cases p <;> cases q <;> cases r <;> cases s <;> first | (exfalso; revert hm1; decide) | skip
  all_goals
    clear hm1
    first
      | (have hbt := HM2.out rfl; subst hbt)
      | skip
    go_wp2_with fail
    go_ret
    exact ⟨rfl, HBE.out⟩
end Go.Proofs.YthiacmpkbioahaaDoor
