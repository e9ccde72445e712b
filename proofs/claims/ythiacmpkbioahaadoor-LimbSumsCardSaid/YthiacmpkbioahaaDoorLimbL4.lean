/- The walk of the law: sums, differences and comparisons. -/
import Derived.Test.YthiacmpkbioahaaDoorLimbK
import Derived.Test.YthiacmpkbioahaaDoorLimbL1
namespace Go.Proofs.YthiacmpkbioahaaDoor
open Go Go.RowKit

set_option maxHeartbeats 8000000 in
set_option maxRecDepth 100000 in
theorem sums_walk (a b : U4) (w : World) (ha : a.ok) (hb : b.ok) : Calls Tryd.prog 3 #[a.val, b.val] w fun e w' => e = .returned (.bool true) ∧ Below w.heap.size w w' := by
  have k1 := (add_any a b · ha hb)
  have k2 := (radd_any a b · ha hb)
  have k3 := (sub_any a b · ha hb)
  have k4 := (rsub_any a b · ha hb)
  have k5 := (cmp_any a b · ha hb)
  have k6 := (rcmp_any a b · ha hb)
  have k7 := (zero_any a ·)
  have q0 : ∀ W, (binOp .eql 24 (.agg a.cells) (.agg #[.int .u64 0, .int .u64 0, .int .u64 0, .int .u64 0])).run Tryd.prog W = .ok (.bool (eqB a U4.zero)) W := fun W => eql4 a U4.zero W
  obtain ⟨s, hs⟩ : ∃ s, s = (addU a b).1 := ⟨_, rfl⟩
  obtain ⟨d, hd⟩ : ∃ d, d = (subU a b).1 := ⟨_, rfl⟩
  rw [← hs] at k1 k2
  rw [← hd] at k3 k4
  generalize (addU a b).2 = p at *
  generalize (subU a b).2 = q at *
  generalize cmpN a.nat b.nat = n at *
  generalize eqB a U4.zero = z at *
  have q1 : ∀ W, (binOp .eql 24 (.agg s.cells) (.agg s.cells)).run Tryd.prog W = .ok (.bool true) W := fun W => by have := eql4 s s W; rw [eqB_refl] at this; exact this
  have q2 : ∀ W, (binOp .eql 24 (.agg d.cells) (.agg d.cells)).run Tryd.prog W = .ok (.bool true) W := fun W => by have := eql4 d d W; rw [eqB_refl] at this; exact this
  obtain ⟨h0, h1, hbe⟩ := two w a.cells b.cells
  unfold U4.val at *
  unfold U4.cells at k1 k2 k3 k4 k5 k6 k7 q0 q1 q2 h0 h1 hbe ⊢
  have K1 := Lib.hid k1
  have K2 := Lib.hid k2
  have K3 := Lib.hid k3
  have K4 := Lib.hid k4
  have K5 := Lib.hid k5
  have K6 := Lib.hid k6
  have K7 := Lib.hid k7
  have Q0 := Lib.hid q0
  have Q1 := Lib.hid q1
  have Q2 := Lib.hid q2
  clear k1 k2 k3 k4 k5 k6 k7 q0 q1 q2 hs hd ha hb
  go_enter Tryd.func3, Tryd.ntmps3
  go_wp2_with fail
  generalize (w.alloc (.cells #[.int .u64 (a.a : Int), .int .u64 (a.b : Int), .int .u64 (a.c : Int), .int .u64 (a.d : Int)] 24)).alloc (.cells #[.int .u64 (b.a : Int), .int .u64 (b.b : Int), .int .u64 (b.c : Int), .int .u64 (b.d : Int)] 24) = w0 at *
  refine (K1.out _).mono ?_
  rintro e w1 ⟨rfl, hb1⟩
  have h0' := step_new (x := a) h0 hb1 s
  have h1' := step_new (x := b) h1 hb1 s
  have hx' : Blk (w1.alloc (.cells s.cells 24)) w1.heap.size s.cells := Blk.new w1 _
  have hbe' := below_chain hbe hbe.size hb1
  replace hbe' := hbe'.alloc hbe'.size (.cells s.cells 24)
  unfold U4.cells at h0' h1' hx' hbe'
  clear h0 h1 hbe hb1
  have h0 := h0'
  have h1 := h1'
  have hx := hx'
  have hbe := hbe'
  clear h0' h1' hx' hbe'
  obtain ⟨ch00, ch01, ch02, ch03⟩ := Blk.all (s := a) h0
  obtain ⟨ch10, ch11, ch12, ch13⟩ := Blk.all (s := b) h1
  obtain ⟨chx0, chx1, chx2, chx3⟩ := Blk.all (s := s) hx
  go_wp2_with fail
  generalize w1.alloc (.cells #[.int .u64 (s.a : Int), .int .u64 (s.b : Int), .int .u64 (s.c : Int), .int .u64 (s.d : Int)] 24) = v1 at *
  generalize w1.heap.size = gx at *
  clear ch00 ch01 ch02 ch03 ch10 ch11 ch12 ch13 chx0 chx1 chx2 chx3
  refine (K2.out _).mono ?_
  rintro e w2 ⟨rfl, hb2⟩
  have h0' := step_new (x := a) h0 hb2 s
  have h1' := step_new (x := b) h1 hb2 s
  have hx' := step_new (x := s) hx hb2 s
  have hy' : Blk (w2.alloc (.cells s.cells 24)) w2.heap.size s.cells := Blk.new w2 _
  have hbe' := below_chain hbe hbe.size hb2
  replace hbe' := hbe'.alloc hbe'.size (.cells s.cells 24)
  unfold U4.cells at h0' h1' hx' hy' hbe'
  clear h0 h1 hx hbe hb2
  have h0 := h0'
  have h1 := h1'
  have hx := hx'
  have hy := hy'
  have hbe := hbe'
  clear h0' h1' hx' hy' hbe'
  obtain ⟨ch00, ch01, ch02, ch03⟩ := Blk.all (s := a) h0
  obtain ⟨ch10, ch11, ch12, ch13⟩ := Blk.all (s := b) h1
  obtain ⟨chx0, chx1, chx2, chx3⟩ := Blk.all (s := s) hx
  obtain ⟨chy0, chy1, chy2, chy3⟩ := Blk.all (s := s) hy
  go_wp2_with fail
  generalize w2.alloc (.cells #[.int .u64 (s.a : Int), .int .u64 (s.b : Int), .int .u64 (s.c : Int), .int .u64 (s.d : Int)] 24) = v2 at *
  generalize w2.heap.size = gy at *
  clear ch00 ch01 ch02 ch03 ch10 ch11 ch12 ch13 chx0 chx1 chx2 chx3 chy0 chy1 chy2 chy3
  refine (K3.out _).mono ?_
  rintro e w3 ⟨rfl, hb3⟩
  have h0' := step_new (x := a) h0 hb3 d
  have h1' := step_new (x := b) h1 hb3 d
  have hx' := step_new (x := s) hx hb3 d
  have hy' := step_new (x := s) hy hb3 d
  have hu' : Blk (w3.alloc (.cells d.cells 24)) w3.heap.size d.cells := Blk.new w3 _
  have hbe' := below_chain hbe hbe.size hb3
  replace hbe' := hbe'.alloc hbe'.size (.cells d.cells 24)
  unfold U4.cells at h0' h1' hx' hy' hu' hbe'
  clear h0 h1 hx hy hbe hb3
  have h0 := h0'
  have h1 := h1'
  have hx := hx'
  have hy := hy'
  have hu := hu'
  have hbe := hbe'
  clear h0' h1' hx' hy' hu' hbe'
  obtain ⟨ch00, ch01, ch02, ch03⟩ := Blk.all (s := a) h0
  obtain ⟨ch10, ch11, ch12, ch13⟩ := Blk.all (s := b) h1
  obtain ⟨chx0, chx1, chx2, chx3⟩ := Blk.all (s := s) hx
  obtain ⟨chy0, chy1, chy2, chy3⟩ := Blk.all (s := s) hy
  obtain ⟨chu0, chu1, chu2, chu3⟩ := Blk.all (s := d) hu
  go_wp2_with fail
  generalize w3.alloc (.cells #[.int .u64 (d.a : Int), .int .u64 (d.b : Int), .int .u64 (d.c : Int), .int .u64 (d.d : Int)] 24) = v3 at *
  generalize w3.heap.size = gu at *
  clear ch00 ch01 ch02 ch03 ch10 ch11 ch12 ch13 chx0 chx1 chx2 chx3 chy0 chy1 chy2 chy3 chu0 chu1 chu2 chu3
  refine (K4.out _).mono ?_
  rintro e w4 ⟨rfl, hb4⟩
  have h0' := step_new (x := a) h0 hb4 d
  have h1' := step_new (x := b) h1 hb4 d
  have hx' := step_new (x := s) hx hb4 d
  have hy' := step_new (x := s) hy hb4 d
  have hu' := step_new (x := d) hu hb4 d
  have hv' : Blk (w4.alloc (.cells d.cells 24)) w4.heap.size d.cells := Blk.new w4 _
  have hbe' := below_chain hbe hbe.size hb4
  replace hbe' := hbe'.alloc hbe'.size (.cells d.cells 24)
  unfold U4.cells at h0' h1' hx' hy' hu' hv' hbe'
  clear h0 h1 hx hy hu hbe hb4
  have h0 := h0'
  have h1 := h1'
  have hx := hx'
  have hy := hy'
  have hu := hu'
  have hv := hv'
  have hbe := hbe'
  clear h0' h1' hx' hy' hu' hv' hbe'
  obtain ⟨ch00, ch01, ch02, ch03⟩ := Blk.all (s := a) h0
  obtain ⟨ch10, ch11, ch12, ch13⟩ := Blk.all (s := b) h1
  obtain ⟨chx0, chx1, chx2, chx3⟩ := Blk.all (s := s) hx
  obtain ⟨chy0, chy1, chy2, chy3⟩ := Blk.all (s := s) hy
  obtain ⟨chu0, chu1, chu2, chu3⟩ := Blk.all (s := d) hu
  obtain ⟨chv0, chv1, chv2, chv3⟩ := Blk.all (s := d) hv
  go_wp2_with fail
  generalize w4.alloc (.cells #[.int .u64 (d.a : Int), .int .u64 (d.b : Int), .int .u64 (d.c : Int), .int .u64 (d.d : Int)] 24) = v4 at *
  generalize w4.heap.size = gv at *
  clear ch00 ch01 ch02 ch03 ch10 ch11 ch12 ch13 chx0 chx1 chx2 chx3 chy0 chy1 chy2 chy3 chu0 chu1 chu2 chu3 chv0 chv1 chv2 chv3
  have HPS : Hid (∀ W : World, Below v4.heap.size v4 W → (W.cell? ⟨w.heap.size, 0, none⟩ = some (.int .u64 (a.a : Int)) ∧ W.cell? ⟨w.heap.size, 1, none⟩ = some (.int .u64 (a.b : Int)) ∧ W.cell? ⟨w.heap.size, 2, none⟩ = some (.int .u64 (a.c : Int)) ∧ W.cell? ⟨w.heap.size, 3, none⟩ = some (.int .u64 (a.d : Int))) ∧ (W.cell? ⟨w.heap.size + 1, 0, none⟩ = some (.int .u64 (b.a : Int)) ∧ W.cell? ⟨w.heap.size + 1, 1, none⟩ = some (.int .u64 (b.b : Int)) ∧ W.cell? ⟨w.heap.size + 1, 2, none⟩ = some (.int .u64 (b.c : Int)) ∧ W.cell? ⟨w.heap.size + 1, 3, none⟩ = some (.int .u64 (b.d : Int))) ∧ (W.cell? ⟨gx, 0, none⟩ = some (.int .u64 (s.a : Int)) ∧ W.cell? ⟨gx, 1, none⟩ = some (.int .u64 (s.b : Int)) ∧ W.cell? ⟨gx, 2, none⟩ = some (.int .u64 (s.c : Int)) ∧ W.cell? ⟨gx, 3, none⟩ = some (.int .u64 (s.d : Int))) ∧ (W.cell? ⟨gy, 0, none⟩ = some (.int .u64 (s.a : Int)) ∧ W.cell? ⟨gy, 1, none⟩ = some (.int .u64 (s.b : Int)) ∧ W.cell? ⟨gy, 2, none⟩ = some (.int .u64 (s.c : Int)) ∧ W.cell? ⟨gy, 3, none⟩ = some (.int .u64 (s.d : Int))) ∧ (W.cell? ⟨gu, 0, none⟩ = some (.int .u64 (d.a : Int)) ∧ W.cell? ⟨gu, 1, none⟩ = some (.int .u64 (d.b : Int)) ∧ W.cell? ⟨gu, 2, none⟩ = some (.int .u64 (d.c : Int)) ∧ W.cell? ⟨gu, 3, none⟩ = some (.int .u64 (d.d : Int))) ∧ (W.cell? ⟨gv, 0, none⟩ = some (.int .u64 (d.a : Int)) ∧ W.cell? ⟨gv, 1, none⟩ = some (.int .u64 (d.b : Int)) ∧ W.cell? ⟨gv, 2, none⟩ = some (.int .u64 (d.c : Int)) ∧ W.cell? ⟨gv, 3, none⟩ = some (.int .u64 (d.d : Int)))) := Lib.hid (fun W hW => ⟨Blk.all (s := a) (Blk.below (cs := a.cells) h0 hW (blk_lt h0)), Blk.all (s := b) (Blk.below (cs := b.cells) h1 hW (blk_lt h1)), Blk.all (s := s) (Blk.below (cs := s.cells) hx hW (blk_lt hx)), Blk.all (s := s) (Blk.below (cs := s.cells) hy hW (blk_lt hy)), Blk.all (s := d) (Blk.below (cs := d.cells) hu hW (blk_lt hu)), Blk.all (s := d) (Blk.below (cs := d.cells) hv hW (blk_lt hv))⟩)
  have q0 := Q0.out
  have q1 := Q1.out
  have q2 := Q2.out
  have hd0 : Below v4.heap.size v4 v4.drew := (Below.refl _ _).drew
  clear h0 h1 hx hy hu hv
  go_region_held_law (fun W => (W.cell? ⟨w.heap.size, 0, none⟩ = some (.int .u64 (a.a : Int)) ∧ W.cell? ⟨w.heap.size, 1, none⟩ = some (.int .u64 (a.b : Int)) ∧ W.cell? ⟨w.heap.size, 2, none⟩ = some (.int .u64 (a.c : Int)) ∧ W.cell? ⟨w.heap.size, 3, none⟩ = some (.int .u64 (a.d : Int))) ∧ (W.cell? ⟨w.heap.size + 1, 0, none⟩ = some (.int .u64 (b.a : Int)) ∧ W.cell? ⟨w.heap.size + 1, 1, none⟩ = some (.int .u64 (b.b : Int)) ∧ W.cell? ⟨w.heap.size + 1, 2, none⟩ = some (.int .u64 (b.c : Int)) ∧ W.cell? ⟨w.heap.size + 1, 3, none⟩ = some (.int .u64 (b.d : Int))) ∧ (W.cell? ⟨gx, 0, none⟩ = some (.int .u64 (s.a : Int)) ∧ W.cell? ⟨gx, 1, none⟩ = some (.int .u64 (s.b : Int)) ∧ W.cell? ⟨gx, 2, none⟩ = some (.int .u64 (s.c : Int)) ∧ W.cell? ⟨gx, 3, none⟩ = some (.int .u64 (s.d : Int))) ∧ (W.cell? ⟨gy, 0, none⟩ = some (.int .u64 (s.a : Int)) ∧ W.cell? ⟨gy, 1, none⟩ = some (.int .u64 (s.b : Int)) ∧ W.cell? ⟨gy, 2, none⟩ = some (.int .u64 (s.c : Int)) ∧ W.cell? ⟨gy, 3, none⟩ = some (.int .u64 (s.d : Int))) ∧ (W.cell? ⟨gu, 0, none⟩ = some (.int .u64 (d.a : Int)) ∧ W.cell? ⟨gu, 1, none⟩ = some (.int .u64 (d.b : Int)) ∧ W.cell? ⟨gu, 2, none⟩ = some (.int .u64 (d.c : Int)) ∧ W.cell? ⟨gu, 3, none⟩ = some (.int .u64 (d.d : Int))) ∧ (W.cell? ⟨gv, 0, none⟩ = some (.int .u64 (d.a : Int)) ∧ W.cell? ⟨gv, 1, none⟩ = some (.int .u64 (d.b : Int)) ∧ W.cell? ⟨gv, 2, none⟩ = some (.int .u64 (d.c : Int)) ∧ W.cell? ⟨gv, 3, none⟩ = some (.int .u64 (d.d : Int))))
    (first | exact HPS.out _ hy4 | exact HPS.out _ hy3 | exact HPS.out _ hy2 | exact HPS.out _ hy1 | exact HPS.out _ hd0)
    (first
      | (go_at_call 15; refine (fixed_any _).mono ?_; rintro e w5 ⟨rfl, hb5⟩; have hy1 := below_chain hd0 hd0.size hb5)
      | (go_at_call 16; have hq := hy1; refine (K5.out _).mono ?_; rintro e w6 ⟨rfl, hb6⟩; have hy2 := below_chain hy1 hy1.size hb6)
      | (go_at_call 17; have hq := hy2; refine (K6.out _).mono ?_; rintro e w7 ⟨rfl, hb7⟩; have hy3 := below_chain hy2 hy2.size hb7)
      | (go_at_call 18; have hq := hy3; refine (K7.out _).mono ?_; rintro e w8 ⟨rfl, hb8⟩; have hy4 := below_chain hy3 hy3.size hb8))
  all_goals
    have hfin := below_chain hbe hbe.size hy4
    go_wp2_with fail
    go_ret
    exact ⟨rfl, hfin⟩
end Go.Proofs.YthiacmpkbioahaaDoor
