
/- The walk of the law: products and quotients. -/
import Derived.Test.YthiacmpkbioahaaDoorLimbPb
import Derived.Test.YthiacmpkbioahaaDoorRDiv
import Derived.Test.YthiacmpkbioahaaDoorLimbC
import Derived.Test.YthiacmpkbioahaaDoorLimbH
import Derived.Test.YthiacmpkbioahaaDoorLimbL1
namespace Go.Proofs.YthiacmpkbioahaaDoor
open Go Go.RowKit
set_option linter.unusedVariables false

set_option maxHeartbeats 8000000 in
set_option maxRecDepth 100000 in
theorem products_walk (a : U4) (k : Nat) (w : World) (ha : a.ok) (hk : k < 18446744073709551616) : Calls Tryd.prog 4 #[a.val, .int .u64 (k : Int)] w fun e w' => e = .returned (.bool true) ∧ Below w.heap.size w w' := by
  have k1 := (mul_any a k · ha hk)
  have k2 := (rmul_any a k · ha hk)
  have k3 := (div_any a k · ha hk)
  have k4 := (rdiv_any a k · ha hk)
  have k5 := (of_any k ·)
  have k6 := (fixed_any ·)
  have ed : (if k = 0 then U4.zero else ofN (a.nat / k)) = (divU a k).1 := by unfold divU; split <;> rfl
  have er : (if k = 0 then 0 else a.nat % k) = (divU a k).2 := by unfold divU; split <;> rfl
  rw [ed, er] at k4
  clear ed er
  obtain ⟨s, hs⟩ : ∃ s, s = (mulU a k).1 := ⟨_, rfl⟩
  obtain ⟨d, hd⟩ : ∃ d, d = (divU a k).1 := ⟨_, rfl⟩
  rw [← hs] at k1 k2
  rw [← hd] at k3 k4
  generalize (mulU a k).2 = p at *
  generalize (divU a k).2 = r at *
  have q1 : ∀ W, (binOp .eql 24 (.agg s.cells) (.agg s.cells)).run Tryd.prog W = .ok (.bool true) W := fun W => by have := eql4 s s W; rw [eqB_refl] at this; exact this
  have q2 : ∀ W, (binOp .eql 24 (.agg d.cells) (.agg d.cells)).run Tryd.prog W = .ok (.bool true) W := fun W => by have := eql4 d d W; rw [eqB_refl] at this; exact this
  have q3 : ∀ W, (binOp .eql 24 (.agg #[.int .u64 (k : Int), .int .u64 0, .int .u64 0, .int .u64 0]) (.agg #[.int .u64 (k : Int), .int .u64 0, .int .u64 0, .int .u64 0])).run Tryd.prog W = .ok (.bool true) W := fun W => by have := eql4 ⟨k, 0, 0, 0⟩ ⟨k, 0, 0, 0⟩ W; rw [eqB_refl] at this; exact this
  have h0 := LBlk.new w a.cells
  have hbe : Below w.heap.size w (w.alloc (.cells a.cells 24)) := (Below.refl _ _).alloc (Nat.le_refl _) _
  unfold U4.val at *
  unfold U4.cells at k1 k2 k3 k4 k5 q1 q2 h0 hbe ⊢
  dsimp only at k5
  have K1 := Lib.hid k1
  have K2 := Lib.hid k2
  have K3 := Lib.hid k3
  have K4 := Lib.hid k4
  have K5 := Lib.hid k5
  have K6 := Lib.hid k6
  have Q1 := Lib.hid q1
  have Q2 := Lib.hid q2
  have Q3 := Lib.hid q3
  clear k1 k2 k3 k4 k5 k6 q1 q2 q3 hs hd ha hk
  go_enter Tryd.func4, Tryd.ntmps4
  obtain ⟨ch00, ch01, ch02, ch03⟩ := LBlk.all (s := a) h0
  go_wp2_with fail
  generalize w.alloc (.cells #[.int .u64 (a.a : Int), .int .u64 (a.b : Int), .int .u64 (a.c : Int), .int .u64 (a.d : Int)] 24) = w0 at *
  clear ch00 ch01 ch02 ch03
  refine (K1.out _).mono ?_
  rintro e w1 ⟨rfl, hb1⟩
  have h0' := step_new (x := a) h0 hb1 s
  have hx' : LBlk (w1.alloc (.cells s.cells 24)) w1.heap.size s.cells := LBlk.new w1 _
  have hbe' := below_chain hbe hbe.size hb1
  replace hbe' := hbe'.alloc hbe'.size (.cells s.cells 24)
  unfold U4.cells at h0' hx' hbe'
  clear h0 hbe hb1
  have h0 := h0'
  have hx := hx'
  have hbe := hbe'
  clear h0' hx' hbe'
  obtain ⟨ch00, ch01, ch02, ch03⟩ := LBlk.all (s := a) h0
  obtain ⟨chx0, chx1, chx2, chx3⟩ := LBlk.all (s := s) hx
  go_wp2_with fail
  generalize w1.alloc (.cells #[.int .u64 (s.a : Int), .int .u64 (s.b : Int), .int .u64 (s.c : Int), .int .u64 (s.d : Int)] 24) = v1 at *
  generalize w1.heap.size = gx at *
  clear ch00 ch01 ch02 ch03 chx0 chx1 chx2 chx3
  refine (K2.out _).mono ?_
  rintro e w2 ⟨rfl, hb2⟩
  have h0' := step_new (x := a) h0 hb2 s
  have hx' := step_new (x := s) hx hb2 s
  have hy' : LBlk (w2.alloc (.cells s.cells 24)) w2.heap.size s.cells := LBlk.new w2 _
  have hbe' := below_chain hbe hbe.size hb2
  replace hbe' := hbe'.alloc hbe'.size (.cells s.cells 24)
  unfold U4.cells at h0' hx' hy' hbe'
  clear h0 hx hbe hb2
  have h0 := h0'
  have hx := hx'
  have hy := hy'
  have hbe := hbe'
  clear h0' hx' hy' hbe'
  obtain ⟨ch00, ch01, ch02, ch03⟩ := LBlk.all (s := a) h0
  obtain ⟨chx0, chx1, chx2, chx3⟩ := LBlk.all (s := s) hx
  obtain ⟨chy0, chy1, chy2, chy3⟩ := LBlk.all (s := s) hy
  go_wp2_with fail
  generalize w2.alloc (.cells #[.int .u64 (s.a : Int), .int .u64 (s.b : Int), .int .u64 (s.c : Int), .int .u64 (s.d : Int)] 24) = v2 at *
  generalize w2.heap.size = gy at *
  clear ch00 ch01 ch02 ch03 chx0 chx1 chx2 chx3 chy0 chy1 chy2 chy3
  refine (K3.out _).mono ?_
  rintro e w3 ⟨rfl, hb3⟩
  have h0' := step_new (x := a) h0 hb3 d
  have hx' := step_new (x := s) hx hb3 d
  have hy' := step_new (x := s) hy hb3 d
  have hu' : LBlk (w3.alloc (.cells d.cells 24)) w3.heap.size d.cells := LBlk.new w3 _
  have hbe' := below_chain hbe hbe.size hb3
  replace hbe' := hbe'.alloc hbe'.size (.cells d.cells 24)
  unfold U4.cells at h0' hx' hy' hu' hbe'
  clear h0 hx hy hbe hb3
  have h0 := h0'
  have hx := hx'
  have hy := hy'
  have hu := hu'
  have hbe := hbe'
  clear h0' hx' hy' hu' hbe'
  obtain ⟨ch00, ch01, ch02, ch03⟩ := LBlk.all (s := a) h0
  obtain ⟨chx0, chx1, chx2, chx3⟩ := LBlk.all (s := s) hx
  obtain ⟨chy0, chy1, chy2, chy3⟩ := LBlk.all (s := s) hy
  obtain ⟨chu0, chu1, chu2, chu3⟩ := LBlk.all (s := d) hu
  go_wp2_with fail
  generalize w3.alloc (.cells #[.int .u64 (d.a : Int), .int .u64 (d.b : Int), .int .u64 (d.c : Int), .int .u64 (d.d : Int)] 24) = v3 at *
  generalize w3.heap.size = gu at *
  clear ch00 ch01 ch02 ch03 chx0 chx1 chx2 chx3 chy0 chy1 chy2 chy3 chu0 chu1 chu2 chu3
  refine (K4.out _).mono ?_
  rintro e w4 ⟨rfl, hb4⟩
  have h0' := step_new (x := a) h0 hb4 d
  have hx' := step_new (x := s) hx hb4 d
  have hy' := step_new (x := s) hy hb4 d
  have hu' := step_new (x := d) hu hb4 d
  have hv' : LBlk (w4.alloc (.cells d.cells 24)) w4.heap.size d.cells := LBlk.new w4 _
  have hbe' := below_chain hbe hbe.size hb4
  replace hbe' := hbe'.alloc hbe'.size (.cells d.cells 24)
  unfold U4.cells at h0' hx' hy' hu' hv' hbe'
  clear h0 hx hy hu hbe hb4
  have h0 := h0'
  have hx := hx'
  have hy := hy'
  have hu := hu'
  have hv := hv'
  have hbe := hbe'
  clear h0' hx' hy' hu' hv' hbe'
  obtain ⟨ch00, ch01, ch02, ch03⟩ := LBlk.all (s := a) h0
  obtain ⟨chx0, chx1, chx2, chx3⟩ := LBlk.all (s := s) hx
  obtain ⟨chy0, chy1, chy2, chy3⟩ := LBlk.all (s := s) hy
  obtain ⟨chu0, chu1, chu2, chu3⟩ := LBlk.all (s := d) hu
  obtain ⟨chv0, chv1, chv2, chv3⟩ := LBlk.all (s := d) hv
  go_wp2_with fail
  generalize w4.alloc (.cells #[.int .u64 (d.a : Int), .int .u64 (d.b : Int), .int .u64 (d.c : Int), .int .u64 (d.d : Int)] 24) = v4 at *
  generalize w4.heap.size = gv at *
  clear ch00 ch01 ch02 ch03 chx0 chx1 chx2 chx3 chy0 chy1 chy2 chy3 chu0 chu1 chu2 chu3 chv0 chv1 chv2 chv3
  refine (K6.out _).mono ?_
  rintro e w6 ⟨rfl, hb6⟩
  have hbe6 := below_chain hbe hbe.size hb6
  obtain ⟨chx0, chx1, chx2, chx3⟩ := LBlk.all (s := s) (hx.below hb6 hx.lt)
  obtain ⟨chy0, chy1, chy2, chy3⟩ := LBlk.all (s := s) (hy.below hb6 hy.lt)
  obtain ⟨chu0, chu1, chu2, chu3⟩ := LBlk.all (s := d) (hu.below hb6 hu.lt)
  obtain ⟨chv0, chv1, chv2, chv3⟩ := LBlk.all (s := d) (hv.below hb6 hv.lt)
  clear h0 hx hy hu hv hbe hb6
  have q1 := Q1.out
  have q2 := Q2.out
  have q3 := Q3.out
  go_wp2_with fail
  refine (K5.out _).mono ?_
  rintro e w7 ⟨rfl, hb7⟩
  have hbe7 := below_chain hbe6 hbe6.size hb7
  go_wp2_with fail
  go_ret
  exact ⟨rfl, hbe7⟩
end Go.Proofs.YthiacmpkbioahaaDoor
