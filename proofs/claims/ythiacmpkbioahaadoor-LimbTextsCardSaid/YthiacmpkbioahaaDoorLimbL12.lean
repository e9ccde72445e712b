
/- The walk of the law: each number has one text of digits, which is read back. -/
import Derived.Test.YthiacmpkbioahaaDoorLimbWc
import Derived.Test.YthiacmpkbioahaaDoorLimbL1
namespace Go.Proofs.YthiacmpkbioahaaDoor
open Go Go.RowKit
set_option linter.unusedVariables false

theorem neql4 (x : U4) (w : World) : (binOp .neq 24 (.agg x.cells) (.agg x.cells)).run Tryd.prog w = .ok (.bool false) w := by
  have := neq4 x x w
  rw [eqB_refl] at this
  exact this
theorem printL_len {n : Nat} (h : n < top) : (printL n).length ≤ 78 := by rw [printL_dec h]; exact dec_le h
set_option maxHeartbeats 8000000 in
set_option maxRecDepth 100000 in
theorem texts_walk (a : U4) (s : ByteArray) (w : World) (ha : a.ok) (hs : s.size ≤ maxLen) : Calls Tryd.prog 5 #[a.val, .string s] w fun e w' => e = .returned (.bool true) ∧ Below w.heap.size w w' := by
  have k1 := (parseB_any s · hs)
  have k2 := (rparse_any s · hs)
  have k3 := (fixed_any ·)
  have hat := nat_lt ha
  obtain ⟨t, ht⟩ : ∃ t : ByteArray, t = ⟨(printL a.nat).toArray⟩ := ⟨_, rfl⟩
  have htl : t.data.toList = printL a.nat := by rw [ht]
  have hts : t.size ≤ maxLen := by
    have h1 := printL_len hat
    have h2 := Lib.size_eq t
    rw [htl] at h2
    unfold maxLen
    omega
  have k4 := (print_any a · ha)
  have k5 := (parseB_any t · hts)
  have k6 := (rprint_any a · ha)
  rw [htl, parseM_print hat, ofN_nat ha] at k5
  rw [← ht] at k4
  rw [← printL_dec hat, ← ht] at k6
  have hok := fun h => parseM_ok (l := s.data.toList) h
  obtain ⟨n, hn⟩ : ∃ n, n = (parseM s.data.toList).1 := ⟨_, rfl⟩
  obtain ⟨e0, he0⟩ : ∃ e, e = (parseM s.data.toList).2 := ⟨_, rfl⟩
  rw [← hn, ← he0] at k1 k2 hok
  have k7 : e0 = 0 → ∀ W, Calls Tryd.prog 26 #[n.val] W fun e w' => e = .returned (.string s) ∧ Below W.heap.size W w' := fun h W => by
    obtain ⟨h1, h2, h3⟩ := hok h
    have := print_any n W h2
    rw [h3] at this
    exact this
  have q1 : ∀ W, (binOp .neq 24 (.agg n.cells) (.agg n.cells)).run Tryd.prog W = .ok (.bool false) W := fun W => neql4 n W
  have q2 : ∀ W, (binOp .eql 24 (.agg a.cells) (.agg a.cells)).run Tryd.prog W = .ok (.bool true) W := fun W => by have := eql4 a a W; rw [eqB_refl] at this; exact this
  have h0 := LBlk.new w a.cells
  have hbe : Below w.heap.size w (w.alloc (.cells a.cells 24)) := (Below.refl _ _).alloc (Nat.le_refl _) _
  unfold U4.val at *
  unfold U4.cells at k1 k2 k4 k5 k6 k7 q1 q2 h0 hbe ⊢
  have K1 := Lib.hid k1
  have K2 := Lib.hid k2
  have K3 := Lib.hid k3
  have K4 := Lib.hid k4
  have K5 := Lib.hid k5
  have K6 := Lib.hid k6
  have K7 := Lib.hid k7
  have Q1 := Lib.hid q1
  have Q2 := Lib.hid q2
  clear k1 k2 k3 k4 k5 k6 k7 q1 q2 hn he0 hok ha hs hts htl hat ht
  go_enter Tryd.func5, Tryd.ntmps5
  go_wp2_with fail
  generalize w.alloc (.cells #[.int .u64 (a.a : Int), .int .u64 (a.b : Int), .int .u64 (a.c : Int), .int .u64 (a.d : Int)] 24) = w0 at *
  refine (K1.out _).mono ?_
  rintro e w1 ⟨rfl, hb1⟩
  have h0' := step_new (x := a) h0 hb1 n
  have hx' : LBlk (w1.alloc (.cells n.cells 24)) w1.heap.size n.cells := LBlk.new w1 _
  have hbe' := below_chain hbe hbe.size hb1
  replace hbe' := hbe'.alloc hbe'.size (.cells n.cells 24)
  unfold U4.cells at h0' hx' hbe'
  clear h0 hbe hb1
  have h0 := h0'
  have hx := hx'
  have hbe := hbe'
  clear h0' hx' hbe'
  obtain ⟨ch00, ch01, ch02, ch03⟩ := LBlk.all (s := a) h0
  obtain ⟨chx0, chx1, chx2, chx3⟩ := LBlk.all (s := n) hx
  go_wp2_with fail
  generalize w1.alloc (.cells #[.int .u64 (n.a : Int), .int .u64 (n.b : Int), .int .u64 (n.c : Int), .int .u64 (n.d : Int)] 24) = v1 at *
  generalize w1.heap.size = gx at *
  clear ch00 ch01 ch02 ch03 chx0 chx1 chx2 chx3
  refine (K2.out _).mono ?_
  rintro e w2 ⟨rfl, hb2⟩
  have h0' := step_new (x := a) h0 hb2 n
  have hx' := step_new (x := n) hx hb2 n
  have hy' : LBlk (w2.alloc (.cells n.cells 24)) w2.heap.size n.cells := LBlk.new w2 _
  have hbe' := below_chain hbe hbe.size hb2
  replace hbe' := hbe'.alloc hbe'.size (.cells n.cells 24)
  unfold U4.cells at h0' hx' hy' hbe'
  clear h0 hx hbe hb2
  have h0 := h0'
  have hx := hx'
  have hy := hy'
  have hbe := hbe'
  clear h0' hx' hy' hbe'
  go_wp2_with fail
  generalize w2.alloc (.cells #[.int .u64 (n.a : Int), .int .u64 (n.b : Int), .int .u64 (n.c : Int), .int .u64 (n.d : Int)] 24) = v2 at *
  generalize w2.heap.size = gy at *
  refine (K3.out _).mono ?_
  rintro e w3 ⟨rfl, hb3⟩
  have h0' := h0.below hb3 h0.lt
  have hbe3 := below_chain hbe hbe.size hb3
  obtain ⟨chx0, chx1, chx2, chx3⟩ := LBlk.all (s := n) (hx.below hb3 hx.lt)
  obtain ⟨chy0, chy1, chy2, chy3⟩ := LBlk.all (s := n) (hy.below hb3 hy.lt)
  have q1 := Q1.out
  have HX := Lib.hid (And.intro h0' hbe3)
  clear h0 hx hy hbe hb3 h0' hbe3 K1 K2 K3
  by_cases hz : e0 = 0
  · subst hz
    have K8 := Lib.hid (K7.out rfl)
    go_wp2_with fail
    refine (K8.out _).mono ?_
    rintro e w4 ⟨rfl, hb4⟩
    have h0 := HX.out.1.below hb4 HX.out.1.lt
    have hbe := below_chain HX.out.2 HX.out.2.size hb4
    clear HX hb4 K7 K8 chx0 chx1 chx2 chx3 chy0 chy1 chy2 chy3 q1
    obtain ⟨ch00, ch01, ch02, ch03⟩ := LBlk.all (s := a) h0
    go_wp2_with fail
    refine (K4.out _).mono ?_
    rintro e w5 ⟨rfl, hb5⟩
    replace hbe := below_chain hbe hbe.size hb5
    replace h0 := h0.below hb5 h0.lt
    clear ch00 ch01 ch02 ch03 hb5 K4
    go_wp2_with fail
    refine (K5.out _).mono ?_
    rintro e w6 ⟨rfl, hb6⟩
    have h0' := step_new (x := a) h0 hb6 a
    have hb' : LBlk (w6.alloc (.cells a.cells 24)) w6.heap.size a.cells := LBlk.new w6 _
    have hbe' := below_chain hbe hbe.size hb6
    replace hbe' := hbe'.alloc hbe'.size (.cells a.cells 24)
    unfold U4.cells at h0' hb' hbe'
    clear h0 hbe hb6 K5
    obtain ⟨ch00, ch01, ch02, ch03⟩ := LBlk.all (s := a) h0'
    go_wp2_with fail
    generalize w6.alloc (.cells #[.int .u64 (a.a : Int), .int .u64 (a.b : Int), .int .u64 (a.c : Int), .int .u64 (a.d : Int)] 24) = v6 at *
    generalize w6.heap.size = gb at *
    have q2 := Q2.out
    refine (K6.out _).mono ?_
    rintro e w7 ⟨rfl, hb7⟩
    have hbe7 := below_chain hbe' hbe'.size hb7
    clear ch00 ch01 ch02 ch03
    obtain ⟨ch00, ch01, ch02, ch03⟩ := LBlk.all (s := a) (h0'.below hb7 h0'.lt)
    obtain ⟨chb0, chb1, chb2, chb3⟩ := LBlk.all (s := a) (hb'.below hb7 hb'.lt)
    clear h0' hb' hbe' hb7
    go_wp2_with fail
    go_ret
    exact ⟨rfl, hbe7⟩
  · have z1 : (e0 == 0) = false := by simpa using hz
    have h0 := HX.out.1
    have hbe := HX.out.2
    clear HX K7
    obtain ⟨ch00, ch01, ch02, ch03⟩ := LBlk.all (s := a) h0
    go_wp2_with fail
    clear z1 chx0 chx1 chx2 chx3 chy0 chy1 chy2 chy3 q1
    refine (K4.out _).mono ?_
    rintro e w5 ⟨rfl, hb5⟩
    replace hbe := below_chain hbe hbe.size hb5
    replace h0 := h0.below hb5 h0.lt
    clear ch00 ch01 ch02 ch03 hb5 K4
    go_wp2_with fail
    refine (K5.out _).mono ?_
    rintro e w6 ⟨rfl, hb6⟩
    have h0' := step_new (x := a) h0 hb6 a
    have hb' : LBlk (w6.alloc (.cells a.cells 24)) w6.heap.size a.cells := LBlk.new w6 _
    have hbe' := below_chain hbe hbe.size hb6
    replace hbe' := hbe'.alloc hbe'.size (.cells a.cells 24)
    unfold U4.cells at h0' hb' hbe'
    clear h0 hbe hb6 K5
    obtain ⟨ch00, ch01, ch02, ch03⟩ := LBlk.all (s := a) h0'
    go_wp2_with fail
    generalize w6.alloc (.cells #[.int .u64 (a.a : Int), .int .u64 (a.b : Int), .int .u64 (a.c : Int), .int .u64 (a.d : Int)] 24) = v6 at *
    generalize w6.heap.size = gb at *
    have q2 := Q2.out
    refine (K6.out _).mono ?_
    rintro e w7 ⟨rfl, hb7⟩
    have hbe7 := below_chain hbe' hbe'.size hb7
    clear ch00 ch01 ch02 ch03
    obtain ⟨ch00, ch01, ch02, ch03⟩ := LBlk.all (s := a) (h0'.below hb7 h0'.lt)
    obtain ⟨chb0, chb1, chb2, chb3⟩ := LBlk.all (s := a) (hb'.below hb7 hb'.lt)
    clear h0' hb' hbe' hb7
    go_wp2_with fail
    go_ret
    exact ⟨rfl, hbe7⟩
end Go.Proofs.YthiacmpkbioahaaDoor
