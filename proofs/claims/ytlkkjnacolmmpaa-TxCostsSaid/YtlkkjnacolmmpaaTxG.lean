
/- The bytes of a transaction of nothing, decoded. -/
import Derived.Test.YtlkkjnacolmmpaaTxD
namespace Go.Proofs.Ytlkkjnacolmmpaa
set_option maxRecDepth 100000
open Go Go.RowKit
set_option linter.unusedVariables false

theorem E0_1 : rB E0 0 = ([], E0.drop 4, 0) := by decide +kernel
theorem E0_2 : rN (E0.drop 4) 0 = (0, E0.drop 12, 0) := by decide +kernel
theorem E0_3 : rN (E0.drop 12) 0 = (0, E0.drop 20, 0) := by decide +kernel
theorem E0_4 : rB (E0.drop 20) 0 = (be 0 32, E0.drop 56, 0) := by decide +kernel
theorem E0_4u : fromU (be 0 32) = (U4.zero, 0) := by
  have h := fromU_be zero_ok
  rwa [zero_nat] at h
theorem E0_5 : rC 8 (E0.drop 56) 0 = (0, E0.drop 64, 0) := by decide +kernel
theorem E0_6 : rB (E0.drop 64) 0 = ([], [], 0) := by decide +kernel
theorem E0_7 : rEnd [] 0 = 0 := by decide +kernel
set_option maxHeartbeats 8000000 in
theorem txdec0 (v : Value) (w : World) (hr : Rd w w.heap.size v E0) :
    Calls Try.prog 8 #[v] w fun e w' => (∃ A c, e = .returned (.tuple #[.agg #[.string ⟨#[]⟩, .int .u64 0, .int .u64 0, .int .u64 0, .int .u64 0, .int .u64 0, .int .u64 0, .slice none 0 0, .slice A 0 c], .int .i64 0])) ∧ Below w.heap.size w w' := by
  have ha0 : Below w.heap.size w (w.alloc (.cells #[.string ⟨#[]⟩, .int .u64 0, .int .u64 0, .int .u64 0, .int .u64 0, .int .u64 0, .int .u64 0, .slice none 0 0, .slice none 0 0] 34)) := (Below.refl _ _).alloc (Nat.le_refl _) _
  have hk0 := heap_alloc_new w (.cells #[.string ⟨#[]⟩, .int .u64 0, .int .u64 0, .int .u64 0, .int .u64 0, .int .u64 0, .int .u64 0, .slice none 0 0, .slice none 0 0] 34)
  have HO := Lib.hid (open_rd v E0 _ (hr.up (Nat.le_refl _) ha0) (by rw [E0_len]; decide))
  obtain ⟨A0, c0, rfl⟩ := hr.form
  clear hr
  generalize E0.length = n0 at *
  go_enter Try.func8, Try.ntmps8
  go_wp2_with fail
  refine HO.out.mono ?_
  rintro e w1 ⟨g, rfl, hr1, hb1⟩
  have hq1 := below_chain ha0 ha0.size hb1
  have hk1 := (hb1.block _ (blk_lt hk0)).trans hk0
  have hg1 := hr1.from_
  have hg2 := hr1.lt
  have hgs : w.heap.size < (w.alloc (.cells #[.string ⟨#[]⟩, .int .u64 0, .int .u64 0, .int .u64 0, .int .u64 0, .int .u64 0, .int .u64 0, .slice none 0 0, .slice none 0 0] 34)).heap.size := blk_lt hk0
  generalize (w.alloc (.cells #[.string ⟨#[]⟩, .int .u64 0, .int .u64 0, .int .u64 0, .int .u64 0, .int .u64 0, .int .u64 0, .slice none 0 0, .slice none 0 0] 34)).heap.size = lo at *
  have ha2 : Below w1.heap.size w1 (w1.alloc (.cells #[.pointer (some ⟨g, 0, none⟩), .int .i64 0] 62)) := (Below.refl _ _).alloc (Nat.le_refl _) _
  have hn2 := heap_alloc_new w1 (.cells #[.pointer (some ⟨g, 0, none⟩), .int .i64 0] 62)
  have hk2 := (ha2.block _ (blk_lt hk1)).trans hk1
  have hr2 := hr1.below ha2
  have hq2 := below_chain hq1 hq1.size ha2
  obtain ⟨gr, hgr⟩ : ∃ gr, gr = w.heap.size := ⟨_, rfl⟩
  obtain ⟨gt, hgt⟩ : ∃ gt, gt = w1.heap.size := ⟨_, rfl⟩
  generalize hW2 : w1.alloc (.cells #[.pointer (some ⟨g, 0, none⟩), .int .i64 0] 62) = w2 at *
  have hlt2 := blk_lt hn2
  obtain ⟨gd, hgd⟩ : ∃ gd, gd = w2.heap.size := ⟨_, rfl⟩
  have ha3 : Below w2.heap.size w2 (w2.alloc (.cells #[.string ⟨#[]⟩, .int .u64 0, .int .u64 0, .int .u64 0, .int .u64 0, .int .u64 0, .int .u64 0, .slice none 0 0, .slice none 0 0] 34)) := (Below.refl _ _).alloc (Nat.le_refl _) _
  have T1 : TZ w gr gd gt lo g #[.string ⟨#[]⟩, .int .u64 0, .int .u64 0, .int .u64 0, .int .u64 0, .int .u64 0, .int .u64 0, .slice none 0 0, .slice none 0 0] #[.string ⟨#[]⟩, .int .u64 0, .int .u64 0, .int .u64 0, .int .u64 0, .int .u64 0, .int .u64 0, .slice none 0 0, .slice none 0 0] E0 0 (w2.alloc (.cells #[.string ⟨#[]⟩, .int .u64 0, .int .u64 0, .int .u64 0, .int .u64 0, .int .u64 0, .int .u64 0, .slice none 0 0, .slice none 0 0] 34)) :=
    ⟨⟨below_chain hq2 hq2.size ha3, by omega, by have := hq2.size; omega, by rw [hgr]; exact (ha3.block _ (blk_lt hk2)).trans hk2, by rw [hgd]; exact heap_alloc_new w2 _, hr2.below ha3, by omega, by omega⟩, by rw [hgt]; exact (ha3.block _ hlt2).trans hn2, by omega, by omega⟩
  have HW2 := Lib.hid hW2
  have HGD := Lib.hid (show w1.heap.size + 1 = gd by rw [hgd, ← hW2]; simp)
  clear hW2
  clear hq1 hk1 hg1 hg2 hgs hr1 hb1 HO hk0 ha0 ha2 hk2 hr2 hq2 ha3 hlt2 hn2
  go_wp2_with fail
  try rw [HW2.out]
  try rw [HGD.out]
  try rw [← hgd]
  try rw [← hgt]
  try rw [← hgr]
  generalize w2.alloc (.cells #[.string ⟨#[]⟩, .int .u64 0, .int .u64 0, .int .u64 0, .int .u64 0, .int .u64 0, .int .u64 0, .slice none 0 0, .slice none 0 0] 34) = wz at *
  clear HW2 HGD hgr hgt hgd
  have HC := Lib.hid (txt_any T1.tr T1.P.rd)
  rw [E0_1] at HC
  refine HC.out.mono ?_
  rintro e wa1 ⟨rfl, hr, hg⟩
  replace T1 := T1.grown hg hr
  clear hr hg HC
  have z0 := blk_cell T1.P.loc 0
  have f0 := blk_free T1.P.loc 0
  have T2 := (T1.set 0 (.string ⟨#[]⟩))
  clear T1
  go_wp2_with fail
  generalize (wa1.setCell ⟨gd, 0, none⟩ (.string ⟨#[]⟩)) = wb1 at *
  clear z0 f0
  have HC := Lib.hid (txn_any T2.tr T2.P.rd)
  rw [E0_2] at HC
  refine HC.out.mono ?_
  rintro e wa2 ⟨rfl, hr, hg⟩
  replace T2 := T2.grown hg hr
  clear hr hg HC
  have z1 := blk_cell T2.P.loc 1
  have f1 := blk_free T2.P.loc 1
  have T3 := (T2.set 1 (.int .u64 0))
  clear T2
  go_wp2_with fail
  generalize (wa2.setCell ⟨gd, 1, none⟩ (.int .u64 0)) = wb2 at *
  clear z1 f1
  have HC := Lib.hid (txn_any T3.tr T3.P.rd)
  rw [E0_3] at HC
  refine HC.out.mono ?_
  rintro e wa3 ⟨rfl, hr, hg⟩
  replace T3 := T3.grown hg hr
  clear hr hg HC
  have z2 := blk_cell T3.P.loc 2
  have f2 := blk_free T3.P.loc 2
  have T4 := (T3.set 2 (.int .u64 0))
  clear T3
  go_wp2_with fail
  generalize (wa3.setCell ⟨gd, 2, none⟩ (.int .u64 0)) = wb3 at *
  clear z2 f2
  have HC := Lib.hid (txu0 T4.tr T4.P.rd E0_4 E0_4u (Or.inr T4.o3))
  refine HC.out.mono ?_
  rintro e wa4 ⟨rfl, ht, hr, hg⟩
  unfold U4.val U4.zero U4.cells
  replace T4 := T4.chg hg ht hr
  clear hr hg HC
  have z3 := blk_cell T4.P.loc 3
  have f3 := blk_free T4.P.loc 3
  have z4 := blk_cell T4.P.loc 4
  have f4 := blk_free T4.P.loc 4
  have z5 := blk_cell T4.P.loc 5
  have f5 := blk_free T4.P.loc 5
  have z6 := blk_cell T4.P.loc 6
  have f6 := blk_free T4.P.loc 6
  have T5 := ((((T4.set 3 (.int .u64 0)).set 4 (.int .u64 0)).set 5 (.int .u64 0)).set 6 (.int .u64 0))
  clear T4
  go_wp2_with fail
  generalize ((((wa4.setCell ⟨gd, 3, none⟩ (.int .u64 0)).setCell ⟨gd, 4, none⟩ (.int .u64 0)).setCell ⟨gd, 5, none⟩ (.int .u64 0)).setCell ⟨gd, 6, none⟩ (.int .u64 0)) = wb4 at *
  clear z3 f3 z4 f4 z5 f5 z6 f6
  have HC := Lib.hid (txcount_any T5.tr T5.P.rd 8 (by decide) (by decide))
  rw [E0_5] at HC
  refine HC.out.mono ?_
  rintro e wa5 ⟨rfl, hr, hg⟩
  replace T5 := T5.grown hg hr
  clear hr hg HC
  go_wp2_with fail
  go_loopw [21] (fun i W => i = .int .i64 0 ∧ wa5 = W) (fun _ _ => 0)
  case atStart => exact ⟨rfl, rfl⟩
  case round =>
  obtain ⟨rfl, rfl⟩ := hrel
  go_wp2_with fail
  have HC := Lib.hid (txb_any T5.tr T5.P.rd)
  rw [E0_6] at HC
  refine HC.out.mono ?_
  rintro e wa6 ⟨vB, rfl, hoB, hr, hg⟩
  obtain ⟨AB, cB, rfl⟩ := hoB.form
  clear hoB
  replace T5 := T5.grown hg hr
  clear hr hg HC
  have z8 := blk_cell T5.P.loc 8
  have f8 := blk_free T5.P.loc 8
  have T6 := (T5.set 8 (.slice AB 0 cB))
  clear T5
  go_wp2_with fail
  generalize (wa6.setCell ⟨gd, 8, none⟩ (.slice AB 0 cB)) = wb5 at *
  clear z8 f8
  have HE := Lib.hid (txend_any T6.tr T6.P.rd)
  rw [E0_7] at HE
  refine HE.out.mono ?_
  rintro e w7 ⟨rfl, rfl⟩
  clear HE
  have s0 := blk_cell T6.P.loc 0
  have r0 := blk_cell T6.P.res 0
  have q0 := blk_free T6.P.res 0
  have s1 := blk_cell T6.P.loc 1
  have r1 := blk_cell T6.P.res 1
  have q1 := blk_free T6.P.res 1
  have s2 := blk_cell T6.P.loc 2
  have r2 := blk_cell T6.P.res 2
  have q2 := blk_free T6.P.res 2
  have s3 := blk_cell T6.P.loc 3
  have r3 := blk_cell T6.P.res 3
  have q3 := blk_free T6.P.res 3
  have s4 := blk_cell T6.P.loc 4
  have r4 := blk_cell T6.P.res 4
  have q4 := blk_free T6.P.res 4
  have s5 := blk_cell T6.P.loc 5
  have r5 := blk_cell T6.P.res 5
  have q5 := blk_free T6.P.res 5
  have s6 := blk_cell T6.P.loc 6
  have r6 := blk_cell T6.P.res 6
  have q6 := blk_free T6.P.res 6
  have s7 := blk_cell T6.P.loc 7
  have r7 := blk_cell T6.P.res 7
  have q7 := blk_free T6.P.res 7
  have s8 := blk_cell T6.P.loc 8
  have r8 := blk_cell T6.P.res 8
  have q8 := blk_free T6.P.res 8
  have k0 := blk_set T6.P.res 0 (.string ⟨#[]⟩)
  have b0 := T6.P.below.setCell (p := ⟨gr, 0, none⟩) T6.P.hr (.string ⟨#[]⟩)
  have k1 := blk_set k0 1 (.int .u64 0)
  have b1 := b0.setCell (p := ⟨gr, 1, none⟩) T6.P.hr (.int .u64 0)
  have k2 := blk_set k1 2 (.int .u64 0)
  have b2 := b1.setCell (p := ⟨gr, 2, none⟩) T6.P.hr (.int .u64 0)
  have k3 := blk_set k2 3 (.int .u64 0)
  have b3 := b2.setCell (p := ⟨gr, 3, none⟩) T6.P.hr (.int .u64 0)
  have k4 := blk_set k3 4 (.int .u64 0)
  have b4 := b3.setCell (p := ⟨gr, 4, none⟩) T6.P.hr (.int .u64 0)
  have k5 := blk_set k4 5 (.int .u64 0)
  have b5 := b4.setCell (p := ⟨gr, 5, none⟩) T6.P.hr (.int .u64 0)
  have k6 := blk_set k5 6 (.int .u64 0)
  have b6 := b5.setCell (p := ⟨gr, 6, none⟩) T6.P.hr (.int .u64 0)
  have k7 := blk_set k6 7 (.slice none 0 0)
  have b7 := b6.setCell (p := ⟨gr, 7, none⟩) T6.P.hr (.slice none 0 0)
  have k8 := blk_set k7 8 (.slice AB 0 cB)
  have b8 := b7.setCell (p := ⟨gr, 8, none⟩) T6.P.hr (.slice AB 0 cB)
  have HB := Lib.hid b8
  have HD := Lib.hid (And.intro (blk_cell k8 0) (And.intro (blk_cell k8 1) (And.intro (blk_cell k8 2) (And.intro (blk_cell k8 3) (And.intro (blk_cell k8 4) (And.intro (blk_cell k8 5) (And.intro (blk_cell k8 6) (And.intro (blk_cell k8 7) (blk_cell k8 8)))))))))
  clear k0 k1 k2 k3 k4 k5 k6 k7 k8 b0 b1 b2 b3 b4 b5 b6 b7 b8 T6
  go_wp2_with fail
  obtain ⟨d0, d1, d2, d3, d4, d5, d6, d7, d8⟩ := HD.out
  refine bodyPost_ret (v := .tuple #[.agg #[.string ⟨#[]⟩, .int .u64 0, .int .u64 0, .int .u64 0, .int .u64 0, .int .u64 0, .int .u64 0, .slice none 0 0, .slice AB 0 cB], .int .i64 0]) ?_ rfl ⟨⟨_, _, rfl⟩, HB.out⟩
  simp at d0 d1 d2 d3 d4 d5 d6 d7 d8
  simp [results, Try.results8, go_sem, d0, d1, d2, d3, d4, d5, d6, d7, d8]
end Go.Proofs.Ytlkkjnacolmmpaa
