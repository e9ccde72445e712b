/- The walk of the law: what is added can be taken away; a quotient times the divisor, and the remainder, is the number. -/
import Derived.Test.YthiacmpkbioahaaDoorLimbL2
import Derived.Test.YthiacmpkbioahaaDoorLimbL1
import Derived.Test.YthiacmpkbioahaaDoorLimbH
import Derived.Deep.RegionHeldLaw
namespace Go.Proofs.YthiacmpkbioahaaDoor
open Go Go.RowKit

theorem boxes2 (w : World) (a b : U4) : Blk ((w.alloc (.cells a.cells 24)).alloc (.cells b.cells 24)) w.heap.size a.cells ∧
    Blk ((w.alloc (.cells a.cells 24)).alloc (.cells b.cells 24)) (w.heap.size + 1) b.cells ∧
    Below w.heap.size w ((w.alloc (.cells a.cells 24)).alloc (.cells b.cells 24)) := by
  refine ⟨(Blk.new w a.cells).alloc _, ?_, ((Below.refl _ _).alloc (Nat.le_refl _) _).alloc (by simp) _⟩
  have := Blk.new (w.alloc (.cells a.cells 24)) b.cells
  simpa using this
theorem Blk.allz {w : World} {g : Nat} (h : Blk w g U4.zero.cells) : w.cell? ⟨g, 0, none⟩ = some (.int .u64 0) ∧ w.cell? ⟨g, 1, none⟩ = some (.int .u64 0) ∧ w.cell? ⟨g, 2, none⟩ = some (.int .u64 0) ∧ w.cell? ⟨g, 3, none⟩ = some (.int .u64 0) := h.all
theorem Blk.far4 {w : World} {g g' : Nat} {cs : Array Value} (h : Blk w g cs) (hne : g ≠ g') (x0 x1 x2 x3 : Value) : Blk ((((w.setCell ⟨g', 0, none⟩ x0).setCell ⟨g', 1, none⟩ x1).setCell ⟨g', 2, none⟩ x2).setCell ⟨g', 3, none⟩ x3) g cs :=
  (((h.far hne 0 x0).far hne 1 x1).far hne 2 x2).far hne 3 x3
theorem Below.set4 {B : Nat} {w w' : World} {g : Nat} (h : Below B w w') (hg : B ≤ g) (x0 x1 x2 x3 : Value) : Below B w ((((w'.setCell ⟨g, 0, none⟩ x0).setCell ⟨g, 1, none⟩ x1).setCell ⟨g, 2, none⟩ x2).setCell ⟨g, 3, none⟩ x3) :=
  (((h.setCell (p := ⟨g, 0, none⟩) hg x0).setCell (p := ⟨g, 1, none⟩) hg x1).setCell (p := ⟨g, 2, none⟩) hg x2).setCell (p := ⟨g, 3, none⟩) hg x3
theorem add_comm4 (a b : U4) : addU a b = addU b a := by unfold addU; rw [Nat.add_comm]
theorem sub_back {a b : U4} (ha : a.ok) (h : a.nat + b.nat < top) : subU (ofN (a.nat + b.nat)) b = (a, true) := by
  unfold subU
  rw [nat_ofN h, if_pos (by omega), show a.nat + b.nat - b.nat = a.nat by omega, ofN_nat ha]
theorem cmp_back (a b : U4) (h : a.nat + b.nat < top) : cmpN (ofN (a.nat + b.nat)).nat a.nat = 0 ∨ cmpN (ofN (a.nat + b.nat)).nat a.nat = 1 := by
  rw [nat_ofN h]
  unfold cmpN
  by_cases e : a.nat + b.nat = a.nat
  · rw [if_pos e]; exact .inl rfl
  · rw [if_neg e, if_pos (by omega)]; exact .inr rfl
theorem ring_math {a : U4} (ha : a.ok) {k : Nat} (hk : 0 < k) : divU a k = (ofN (a.nat / k), a.nat % k) ∧ mulU (ofN (a.nat / k)) k = (ofN (a.nat / k * k), true) ∧ addU (ofN (a.nat / k * k)) ⟨a.nat % k, 0, 0, 0⟩ = (a, true) := by
  have h1 := nat_lt ha
  have h2 : a.nat / k < top := Nat.lt_of_le_of_lt (Nat.div_le_self _ _) h1
  have h3 : a.nat / k * k ≤ a.nat := Nat.div_mul_le_self _ _
  have h4 : a.nat / k * k < top := Nat.lt_of_le_of_lt h3 h1
  have h5 : a.nat / k * k + a.nat % k = a.nat := Nat.div_add_mod' _ _
  refine ⟨by unfold divU; rw [if_neg (by omega)], ?_, ?_⟩
  · rw [mulU_yes (by rw [nat_ofN h2]; exact h4), nat_ofN h2]
  · have e : (ofN (a.nat / k * k)).nat + (U4.mk (a.nat % k) 0 0 0).nat = a.nat := by rw [nat_ofN h4, nat_small, h5]
    rw [addU_yes (by rw [e]; exact h1), e, ofN_nat ha]

theorem Blk.fresh {X w' : World} {cs : Array Value} (hb : Below (X.alloc (.cells cs 24)).heap.size (X.alloc (.cells cs 24)) w') : Blk w' X.heap.size cs := (Blk.new X cs).below hb (by simp)
theorem Blk.put4 {w : World} {g : Nat} (h : Blk w g U4.zero.cells) (u : U4) : Blk ((((w.setCell ⟨g, 0, none⟩ (.int .u64 (u.a : Int))).setCell ⟨g, 1, none⟩ (.int .u64 (u.b : Int))).setCell ⟨g, 2, none⟩ (.int .u64 (u.c : Int))).setCell ⟨g, 3, none⟩ (.int .u64 (u.d : Int))) g u.cells :=
  (((h.set_ 0 (.int .u64 (u.a : Int))).set_ 1 (.int .u64 (u.b : Int))).set_ 2 (.int .u64 (u.c : Int))).set_ 3 (.int .u64 (u.d : Int))

set_option maxHeartbeats 8000000 in
set_option maxRecDepth 100000 in
theorem ring_false (a b s q p u : U4) (k r : Nat) (cm : Int) (yes no ez eu : Bool) (w : World)
    (k1 : ∀ W, Calls Tryd.prog 11 #[a.val, b.val] W fun e w' => e = .returned (.tuple #[s.val, .bool false]) ∧ Below W.heap.size W w')
    (k2 : ∀ W, Calls Tryd.prog 11 #[b.val, a.val] W fun e w' => e = .returned (.tuple #[s.val, .bool false]) ∧ Below W.heap.size W w')
    (k3 : ∀ W, Calls Tryd.prog 13 #[s.val, b.val] W fun e w' => e = .returned (.tuple #[a.val, .bool true]) ∧ Below W.heap.size W w')
    (k4 : ∀ W, Calls Tryd.prog 16 #[s.val, a.val] W fun e w' => e = .returned (.int .i64 cm) ∧ Below W.heap.size W w')
    (z2 : ¬ cm < 0)
    (k5 : ∀ W, Calls Tryd.prog 21 #[a.val, .int .u64 (k : Int)] W fun e w' => e = .returned (.tuple #[q.val, .int .u64 (r : Int)]) ∧ Below W.heap.size W w')
    (k6 : ∀ W, Calls Tryd.prog 19 #[q.val, .int .u64 (k : Int)] W fun e w' => e = .returned (.tuple #[p.val, .bool yes]) ∧ Below W.heap.size W w')
    (k7 : ∀ W, Calls Tryd.prog 23 #[.int .u64 (r : Int)] W fun e w' => e = .returned (.agg #[.int .u64 (r : Int), .int .u64 0, .int .u64 0, .int .u64 0]) ∧ Below W.heap.size W w')
    (k8 : ∀ W, Calls Tryd.prog 11 #[p.val, .agg #[.int .u64 (r : Int), .int .u64 0, .int .u64 0, .int .u64 0]] W fun e w' => e = .returned (.tuple #[u.val, .bool no]) ∧ Below W.heap.size W w')
    (q1 : ∀ W, (binOp .neq 24 (.agg s.cells) (.agg s.cells)).run Tryd.prog W = .ok (.bool false) W)
    (q2 : ∀ W, (binOp .neq 24 (.agg a.cells) (.agg a.cells)).run Tryd.prog W = .ok (.bool false) W)
    (q3 : ∀ W, (binOp .eql 24 (.agg q.cells) (.agg #[.int .u64 0, .int .u64 0, .int .u64 0, .int .u64 0])).run Tryd.prog W = .ok (.bool ez) W)
    (q4 : ∀ W, (binOp .eql 24 (.agg u.cells) (.agg a.cells)).run Tryd.prog W = .ok (.bool eu) W)
    (hK : (((k : Int) == 0) = true ∧ ((r : Int) == 0) = true ∧ ez = true) ∨ (((k : Int) == 0) = false ∧ ((k : Int) != 0) = true ∧ r < k ∧ yes = true ∧ no = true ∧ eu = true)) :
    Calls Tryd.prog 7 #[a.val, b.val, .int .u64 (k : Int)] w fun e w' => e = .returned (.bool true) ∧ Below w.heap.size w w' := by
  obtain ⟨h0, h1, hbe⟩ := boxes2 w a b
  unfold U4.val at *
  unfold U4.cells at k1 k2 k3 k4 k5 k6 k8 q1 q2 q3 q4 h0 h1 hbe ⊢
  have K1 := Lib.hid k1
  have K2 := Lib.hid k2
  have K3 := Lib.hid k3
  have K4 := Lib.hid k4
  have K5 := Lib.hid k5
  have K6 := Lib.hid k6
  have K7 := Lib.hid k7
  have K8 := Lib.hid k8
  have Q1 := Lib.hid q1
  have Q2 := Lib.hid q2
  have Q3 := Lib.hid q3
  have Q4 := Lib.hid q4
  have HK := Lib.hid hK
  clear k1 k2 k3 k4 k5 k6 k7 k8 q1 q2 q3 q4 hK
  go_enter Tryd.func7, Tryd.ntmps7
  go_wp2_with fail
  generalize (w.alloc (.cells #[.int .u64 (a.a : Int), .int .u64 (a.b : Int), .int .u64 (a.c : Int), .int .u64 (a.d : Int)] 24)).alloc (.cells #[.int .u64 (b.a : Int), .int .u64 (b.b : Int), .int .u64 (b.c : Int), .int .u64 (b.d : Int)] 24) = w0 at *
  refine (K1.out _).mono ?_
  rintro e w1 ⟨rfl, hb1⟩
  have h0' := step_new (x := a) h0 hb1 s
  have h1' := step_new (x := b) h1 hb1 s
  have hs' : Blk (w1.alloc (.cells s.cells 24)) w1.heap.size s.cells := Blk.new w1 _
  have hbe' := below_chain hbe hbe.size hb1
  replace hbe' := hbe'.alloc hbe'.size (.cells s.cells 24)
  unfold U4.cells at h0' h1' hs' hbe'
  clear h0 h1 hbe hb1
  have h0 := h0'
  have h1 := h1'
  have hs := hs'
  have hbe := hbe'
  clear h0' h1' hs' hbe'
  obtain ⟨ch00, ch01, ch02, ch03⟩ := Blk.all (s := a) h0
  obtain ⟨ch10, ch11, ch12, ch13⟩ := Blk.all (s := b) h1
  obtain ⟨chs0, chs1, chs2, chs3⟩ := Blk.all (s := s) hs
  go_wp2_with fail
  generalize w1.alloc (.cells #[.int .u64 (s.a : Int), .int .u64 (s.b : Int), .int .u64 (s.c : Int), .int .u64 (s.d : Int)] 24) = v1 at *
  generalize w1.heap.size = gs at *
  clear ch00 ch01 ch02 ch03 ch10 ch11 ch12 ch13 chs0 chs1 chs2 chs3
  refine (K2.out _).mono ?_
  rintro e w2 ⟨rfl, hb2⟩
  have h0' := step_new (x := a) h0 hb2 s
  have h1' := step_new (x := b) h1 hb2 s
  have hs' := step_new (x := s) hs hb2 s
  have ht' : Blk (w2.alloc (.cells s.cells 24)) w2.heap.size s.cells := Blk.new w2 _
  have hbe' := below_chain hbe hbe.size hb2
  replace hbe' := hbe'.alloc hbe'.size (.cells s.cells 24)
  unfold U4.cells at h0' h1' hs' ht' hbe'
  clear h0 h1 hs hbe hb2
  have h0 := h0'
  have h1 := h1'
  have hs := hs'
  have ht := ht'
  have hbe := hbe'
  clear h0' h1' hs' ht' hbe'
  obtain ⟨ch00, ch01, ch02, ch03⟩ := Blk.all (s := a) h0
  obtain ⟨ch10, ch11, ch12, ch13⟩ := Blk.all (s := b) h1
  obtain ⟨chs0, chs1, chs2, chs3⟩ := Blk.all (s := s) hs
  obtain ⟨cht0, cht1, cht2, cht3⟩ := Blk.all (s := s) ht
  go_wp2_with fail
  generalize w2.alloc (.cells #[.int .u64 (s.a : Int), .int .u64 (s.b : Int), .int .u64 (s.c : Int), .int .u64 (s.d : Int)] 24) = v2 at *
  generalize w2.heap.size = gt at *
  clear ch00 ch01 ch02 ch03 ch10 ch11 ch12 ch13 chs0 chs1 chs2 chs3 cht0 cht1 cht2 cht3
  have HPS : Hid (∀ W : World, Below v2.heap.size v2 W → (W.cell? ⟨w.heap.size, 0, none⟩ = some (.int .u64 (a.a : Int)) ∧ W.cell? ⟨w.heap.size, 1, none⟩ = some (.int .u64 (a.b : Int)) ∧ W.cell? ⟨w.heap.size, 2, none⟩ = some (.int .u64 (a.c : Int)) ∧ W.cell? ⟨w.heap.size, 3, none⟩ = some (.int .u64 (a.d : Int))) ∧ (W.cell? ⟨w.heap.size + 1, 0, none⟩ = some (.int .u64 (b.a : Int)) ∧ W.cell? ⟨w.heap.size + 1, 1, none⟩ = some (.int .u64 (b.b : Int)) ∧ W.cell? ⟨w.heap.size + 1, 2, none⟩ = some (.int .u64 (b.c : Int)) ∧ W.cell? ⟨w.heap.size + 1, 3, none⟩ = some (.int .u64 (b.d : Int))) ∧ (W.cell? ⟨gs, 0, none⟩ = some (.int .u64 (s.a : Int)) ∧ W.cell? ⟨gs, 1, none⟩ = some (.int .u64 (s.b : Int)) ∧ W.cell? ⟨gs, 2, none⟩ = some (.int .u64 (s.c : Int)) ∧ W.cell? ⟨gs, 3, none⟩ = some (.int .u64 (s.d : Int))) ∧ (W.cell? ⟨gt, 0, none⟩ = some (.int .u64 (s.a : Int)) ∧ W.cell? ⟨gt, 1, none⟩ = some (.int .u64 (s.b : Int)) ∧ W.cell? ⟨gt, 2, none⟩ = some (.int .u64 (s.c : Int)) ∧ W.cell? ⟨gt, 3, none⟩ = some (.int .u64 (s.d : Int)))) := Lib.hid (fun W hW => ⟨Blk.all (s := a) (Blk.below (cs := a.cells) h0 hW (blk_lt h0)), Blk.all (s := b) (Blk.below (cs := b.cells) h1 hW (blk_lt h1)), Blk.all (s := s) (Blk.below (cs := s.cells) hs hW (blk_lt hs)), Blk.all (s := s) (Blk.below (cs := s.cells) ht hW (blk_lt ht))⟩)
  have HBE := Lib.hid hbe
  clear h0 h1 hs ht hbe
  have q1 := Q1.out
  refine (fixed_any _).mono ?_
  rintro e w3 ⟨rfl, hb3⟩
  obtain ⟨⟨c00, c01, c02, c03⟩, ⟨c10, c11, c12, c13⟩, ⟨c20, c21, c22, c23⟩, ⟨c30, c31, c32, c33⟩⟩ := HPS.out _ hb3
  go_wp2_with fail
  have hbp := hb3
  refine (K5.out _).mono ?_
  rintro e w6 ⟨rfl, hb6⟩
  have hy6 := below_chain hbp hbp.size hb6
  have hz6 := hy6.alloc hy6.size (.cells q.cells 24)
  have hq : Blk (w6.alloc (.cells q.cells 24)) w6.heap.size q.cells := Blk.new w6 _
  unfold U4.cells at hz6 hq
  clear c00 c01 c02 c03 c10 c11 c12 c13 c20 c21 c22 c23 c30 c31 c32 c33
  obtain ⟨e0, e1, e2, e3⟩ := Blk.all (s := q) hq
  go_wp2_with fail
  generalize w6.alloc (.cells #[.int .u64 (q.a : Int), .int .u64 (q.b : Int), .int .u64 (q.c : Int), .int .u64 (q.d : Int)] 24) = v6 at *
  generalize w6.heap.size = gq at *
  clear e0 e1 e2 e3 hy6
  refine (K6.out _).mono ?_
  rintro e w7 ⟨rfl, hb7⟩
  have hy7 := below_chain hz6 hz6.size hb7
  have hz7 := hy7.alloc hy7.size (.cells p.cells 24)
  have hq' := step_new (x := q) hq hb7 p
  have hp : Blk (w7.alloc (.cells p.cells 24)) w7.heap.size p.cells := Blk.new w7 _
  unfold U4.cells at hz7 hq' hp
  clear hq
  go_wp2_with fail
  generalize w7.alloc (.cells #[.int .u64 (p.a : Int), .int .u64 (p.b : Int), .int .u64 (p.c : Int), .int .u64 (p.d : Int)] 24) = v7 at *
  generalize w7.heap.size = gp at *
  have HP : Hid (∀ W, Below v7.heap.size v7 W → W.cell? ⟨gp, 0, none⟩ = some (.int .u64 (p.a : Int)) ∧ W.cell? ⟨gp, 1, none⟩ = some (.int .u64 (p.b : Int)) ∧ W.cell? ⟨gp, 2, none⟩ = some (.int .u64 (p.c : Int)) ∧ W.cell? ⟨gp, 3, none⟩ = some (.int .u64 (p.d : Int))) := Lib.hid (fun W hW => Blk.all (s := p) (Blk.below (cs := p.cells) hp hW (blk_lt hp)))
  have HQ : Hid (∀ W, Below v7.heap.size v7 W → W.cell? ⟨gq, 0, none⟩ = some (.int .u64 (q.a : Int)) ∧ W.cell? ⟨gq, 1, none⟩ = some (.int .u64 (q.b : Int)) ∧ W.cell? ⟨gq, 2, none⟩ = some (.int .u64 (q.c : Int)) ∧ W.cell? ⟨gq, 3, none⟩ = some (.int .u64 (q.d : Int))) := Lib.hid (fun W hW => Blk.all (s := q) (Blk.below (cs := q.cells) hq' hW (blk_lt hq')))
  have HZ7 := Lib.hid hz7
  have hd0 : Below v7.heap.size v7 v7.drew := (Below.refl _ _).drew
  have hda : Below v7.heap.size v7 (v7.alloc (.cells #[.int .u64 0, .int .u64 0, .int .u64 0, .int .u64 0] 24)).drew := ((Below.refl _ _).alloc (Nat.le_refl _) _).drew
  have HZA : Hid (Blk (v7.alloc (.cells #[.int .u64 0, .int .u64 0, .int .u64 0, .int .u64 0] 24)).drew v7.heap.size U4.zero.cells) := Lib.hid (Blk.new v7 U4.zero.cells).drew
  clear hp hq' hz7 hz6 hy7 hbp
  go_region_held_law (fun W => W.cell? ⟨gp, 0, none⟩ = some (.int .u64 (p.a : Int)) ∧ W.cell? ⟨gp, 1, none⟩ = some (.int .u64 (p.b : Int)) ∧ W.cell? ⟨gp, 2, none⟩ = some (.int .u64 (p.c : Int)) ∧ W.cell? ⟨gp, 3, none⟩ = some (.int .u64 (p.d : Int)))
    (first | exact HP.out _ (Below.set4 (hy9.alloc hy9.size _) hy9.size _ _ _ _) | exact HP.out _ (Below.set4 hy9 (by first | exact hy8.size | exact hd0.size) _ _ _ _) | exact HP.out _ (hy9.alloc hy9.size _) | exact HP.out _ hy9 | exact HP.out _ (hy8.alloc hy8.size _) | exact HP.out _ hy8 | exact HP.out _ hda | exact HP.out _ hd0)
    (first
      | (go_at_call 23; refine (K7.out _).mono ?_; rintro e w8 ⟨rfl, hb8⟩; first
          | (have hy8 : Below v7.heap.size v7 w8 := below_chain hd0 hd0.size hb8)
          | (have hy8 : Below v7.heap.size v7 w8 := below_chain hda hda.size hb8
             have hfr := Blk.below (cs := U4.zero.cells) HZA.out hb8 (blk_lt HZA.out)
             obtain ⟨z0, z1, z2, z3⟩ := Blk.allz hfr
             have f0 := hfr.free 0
             have f1 := hfr.free 1
             have f2 := hfr.free 2
             have f3 := hfr.free 3))
      | (go_at_call 11; have hq := hy8; refine (K8.out _).mono ?_; rintro e w9 ⟨rfl, hb9⟩; first
          | (have hx := hfr; have hy9 : Below v7.heap.size v7 w9 := below_chain hy8 hy8.size hb9
             have hfr2 := Blk.below (cs := U4.zero.cells) hx hb9 (blk_lt hx)
             obtain ⟨z0, z1, z2, z3⟩ := Blk.allz hfr2
             have f0 := hfr2.free 0
             have f1 := hfr2.free 1
             have f2 := hfr2.free 2
             have f3 := hfr2.free 3)
          | (have hy9 : Below v7.heap.size v7 w9 := below_chain hy8 hy8.size hb9)
          | (have hya := hy8.alloc hy8.size (.cells #[.int .u64 0, .int .u64 0, .int .u64 0, .int .u64 0] 24)
             have hy9 : Below v7.heap.size v7 w9 := below_chain hya hya.size hb9
             have hfr2 := Blk.fresh hb9
             obtain ⟨z0, z1, z2, z3⟩ := Blk.allz hfr2
             have f0 := hfr2.free 0
             have f1 := hfr2.free 1
             have f2 := hfr2.free 2
             have f3 := hfr2.free 3)))
  all_goals
    first
      | (have hx := hfr
         have hW := Below.set4 (g := v7.heap.size) hy9 (Nat.le_refl _) (.int .u64 (u.a : Int)) (.int .u64 (u.b : Int)) (.int .u64 (u.c : Int)) (.int .u64 (u.d : Int))
         have hU := Blk.put4 hfr2 u
         generalize (((w9.setCell ⟨v7.heap.size, 0, none⟩ (.int .u64 (u.a : Int))).setCell ⟨v7.heap.size, 1, none⟩ (.int .u64 (u.b : Int))).setCell ⟨v7.heap.size, 2, none⟩ (.int .u64 (u.c : Int))).setCell ⟨v7.heap.size, 3, none⟩ (.int .u64 (u.d : Int)) = W at *)
      | (have hx := hfr2
         have hW := Below.set4 (g := w8.heap.size) hy9 hy8.size (.int .u64 (u.a : Int)) (.int .u64 (u.b : Int)) (.int .u64 (u.c : Int)) (.int .u64 (u.d : Int))
         have hU := Blk.put4 hfr2 u
         generalize (((w9.setCell ⟨w8.heap.size, 0, none⟩ (.int .u64 (u.a : Int))).setCell ⟨w8.heap.size, 1, none⟩ (.int .u64 (u.b : Int))).setCell ⟨w8.heap.size, 2, none⟩ (.int .u64 (u.c : Int))).setCell ⟨w8.heap.size, 3, none⟩ (.int .u64 (u.d : Int)) = W at *)
      | (have hW := hy9.alloc hy9.size (.cells #[.int .u64 (u.a : Int), .int .u64 (u.b : Int), .int .u64 (u.c : Int), .int .u64 (u.d : Int)] 24)
         have hU : Blk (w9.alloc (.cells #[.int .u64 (u.a : Int), .int .u64 (u.b : Int), .int .u64 (u.c : Int), .int .u64 (u.d : Int)] 24)) w9.heap.size u.cells := Blk.new w9 u.cells
         generalize w9.alloc (.cells #[.int .u64 (u.a : Int), .int .u64 (u.b : Int), .int .u64 (u.c : Int), .int .u64 (u.d : Int)] 24) = W at *)
    have hWz := below_chain HZ7.out HZ7.out.size hW
    obtain ⟨a0, a1, a2, a3⟩ := (HPS.out _ hWz).1
    obtain ⟨b0, b1, b2, b3⟩ := HQ.out _ hW
    obtain ⟨d0, d1, d2, d3⟩ := Blk.all (s := u) hU
    have hfin := below_chain HBE.out HBE.out.size hWz
    have q3 := Q3.out
    have q4 := Q4.out
    clear hW hWz hU
    rcases HK.out with ⟨y1, y2, rfl⟩ | ⟨y1, y2, hrk, rfl, rfl, rfl⟩
    · go_wp2_with fail
      go_ret
      exact ⟨by rfl, hfin⟩
    · have y3 : decide (r < k) = true := decide_eq_true hrk
      go_wp2_with fail
      go_ret
      exact ⟨by rfl, hfin⟩
end Go.Proofs.YthiacmpkbioahaaDoor
