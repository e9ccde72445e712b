
/- Fees: where they are kept (the document's). What is paid ahead, read: the document's. -/
import Derived.Test.YtlkbjhhbpmmamaaFeeM0
import Derived.Test.YtlkbjhhbpmmamaaFeeG0
import Derived.Test.YtlkbjhhbpmmamaaRConG
import Derived.Test.YtlkbjhhbpmmamaaLimbM0
import Derived.Test.YtlkbjhhbpmmamaaWireDoc0
namespace Go.Proofs.Ytlkbjhhbpmmamaa
set_option maxRecDepth 100000
open Go Go.RowKit
set_option linter.unusedVariables false

theorem rfkey_any (a : ByteArray) (n : Nat) (w : World) (hn : n < 18446744073709551616) (ha : a.size ≤ 100000000) :
    Calls Try.prog 25 #[.string a, .int .u64 (n : Int)] w fun e w' => e = .returned (.string (kFee a n)) ∧ Below w.heap.size w w' := by
  have s1 : feeP.size = 4 := rfl
  have s2 : slB.size = 1 := rfl
  have s3 := hexN_size n
  have z3 : (feeP ++ a).size = a.size + 4 := by rw [ByteArray.size_append, s1]; omega
  have z4 : ((feeP ++ a) ++ slB).size = a.size + 5 := by rw [ByteArray.size_append, z3, s2]
  have h3 := fun W => txt_add feeP a (by rw [s1]; omega) W
  have h4 := fun W => txt_add (feeP ++ a) slB (by rw [z3, s2]; omega) W
  have h5 := fun W => txt_add ((feeP ++ a) ++ slB) (hexN n) (by rw [z4, s3]; omega) W
  have HX := Lib.hid (rchex_any n w hn)
  unfold kFee
  generalize hexN n = S at *
  generalize (feeP ++ a) ++ slB = x4 at *
  generalize hx3 : feeP ++ a = x3 at *
  clear hx3 z3 z4 s3
  unfold feeP slB at *
  go_enter Try.func25, Try.ntmps25
  go_wp2_with fail
  refine HX.out.mono ?_
  rintro e w1 ⟨rfl, hb⟩
  go_wp2_with fail
  go_ret
  exact ⟨rfl, hb⟩
end Go.Proofs.Ytlkbjhhbpmmamaa
namespace Go.Proofs.Ytlkbjhhbpmmamaa
set_option maxRecDepth 100000
open Go Go.RowKit
set_option linter.unusedVariables false

set_option maxHeartbeats 16000000 in
theorem rfget_any {w : World} {b : Nat} {R : List Pr} (h : RGet w b R) (a : ByteArray) (n : Nat) (hn : n < 18446744073709551616) (ha : a.size ≤ 100000000) :
    Calls Try.prog 8 #[.pointer (some ⟨b, 0, none⟩), .string a, .int .u64 (n : Int)] w fun e w' => e = .returned (pdO (getPd R a n)) ∧ Below w.heap.size w w' := by
  have HG := Lib.hid (fun (Z : World) (hz : Below w.heap.size w Z) => h.get Z hz (kFee a n) (by rw [kFee_size]; unfold maxLen; omega))
  have HFT : Hid (∀ v, getL R (kFee a n) = some v → v.length ≤ 2000000) := Lib.hid (fun v e => h.short _ v e)
  obtain ⟨B, hB⟩ : ∃ B : Addr, B = ⟨b, 0, none⟩ := ⟨_, rfl⟩
  rw [← hB] at HG ⊢
  clear hB h
  have HK := Lib.hid (fun W => rfkey_any a n W hn ha)
  obtain ⟨V, hV⟩ : ∃ V, V = pdO (getPd R a n) := ⟨_, rfl⟩
  rw [← hV]
  unfold getPd at hV
  generalize getL R (kFee a n) = o at *
  generalize kFee a n = key at *
  have hk0 := heap_alloc_new w (.cells #[.string ⟨#[]⟩, .string ⟨#[]⟩, .int .u64 0, .int .u64 0, .int .u64 0, .int .u64 0, .int .u64 0, .int .u64 0, .int .u64 0, .int .u64 0, .int .u64 0, .int .u64 0, .int .u64 0, .int .u64 0] 40)
  have ha0 : Below w.heap.size w (w.alloc (.cells #[.string ⟨#[]⟩, .string ⟨#[]⟩, .int .u64 0, .int .u64 0, .int .u64 0, .int .u64 0, .int .u64 0, .int .u64 0, .int .u64 0, .int .u64 0, .int .u64 0, .int .u64 0, .int .u64 0, .int .u64 0] 40)) := (Below.refl _ _).alloc (Nat.le_refl _) _
  go_enter Try.func8, Try.ntmps8
  go_wp2_with fail
  generalize w.alloc (.cells #[.string ⟨#[]⟩, .string ⟨#[]⟩, .int .u64 0, .int .u64 0, .int .u64 0, .int .u64 0, .int .u64 0, .int .u64 0, .int .u64 0, .int .u64 0, .int .u64 0, .int .u64 0, .int .u64 0, .int .u64 0] 40) = w0 at *
  refine (HK.out _).mono ?_
  rintro e w9 ⟨rfl, hb9⟩
  have ha9 := below_chain ha0 ha0.size hb9
  have hk9 := (hb9.block _ (blk_lt hk0)).trans hk0
  go_wp2_with fail
  refine (HG.out _ ha9).mono ?_
  rintro e w1 ⟨v, rfl, hov, hb1⟩
  have hq1 := below_chain ha9 ha9.size hb1
  have hk1 := (hb1.block _ (blk_lt hk9)).trans hk9
  obtain ⟨gr, hgr⟩ : ∃ gr, gr = w.heap.size := ⟨_, rfl⟩
  rw [← hgr] at hk1 ⊢
  have hgi0 : w.heap.size ≤ gr := by omega
  clear HG HK ha0 hk0 hb1 ha9 hk9 hb9
  cases o with
  | none =>
    have hv : V = pdO none := by rw [hV]; rfl
    obtain ⟨A, c, rfl⟩ := hov.form
    clear hov HFT hV
    have hres := hk1
    have r0 := blk_cell hres 0
    have q0 := blk_free hres 0
    have r1 := blk_cell hres 1
    have q1 := blk_free hres 1
    have r2 := blk_cell hres 2
    have q2 := blk_free hres 2
    have r3 := blk_cell hres 3
    have q3 := blk_free hres 3
    have r4 := blk_cell hres 4
    have q4 := blk_free hres 4
    have r5 := blk_cell hres 5
    have q5 := blk_free hres 5
    have r6 := blk_cell hres 6
    have q6 := blk_free hres 6
    have r7 := blk_cell hres 7
    have q7 := blk_free hres 7
    have r8 := blk_cell hres 8
    have q8 := blk_free hres 8
    have r9 := blk_cell hres 9
    have q9 := blk_free hres 9
    have r10 := blk_cell hres 10
    have q10 := blk_free hres 10
    have r11 := blk_cell hres 11
    have q11 := blk_free hres 11
    have r12 := blk_cell hres 12
    have q12 := blk_free hres 12
    have r13 := blk_cell hres 13
    have q13 := blk_free hres 13
    have hk7 := set14P hres (.string ⟨#[]⟩) (.string ⟨#[]⟩) (.int .u64 0) (.int .u64 0) (.int .u64 0) (.int .u64 0) (.int .u64 0) (.int .u64 0) (.int .u64 0) (.int .u64 0) (.int .u64 0) (.int .u64 0) (.int .u64 0) (.int .u64 0)
    have hb7 := below_set14P hq1 hgi0 (.string ⟨#[]⟩) (.string ⟨#[]⟩) (.int .u64 0) (.int .u64 0) (.int .u64 0) (.int .u64 0) (.int .u64 0) (.int .u64 0) (.int .u64 0) (.int .u64 0) (.int .u64 0) (.int .u64 0) (.int .u64 0) (.int .u64 0)
    have HD := Lib.hid (And.intro (blk_cell hk7 0) (And.intro (blk_cell hk7 1) (And.intro (blk_cell hk7 2) (And.intro (blk_cell hk7 3) (And.intro (blk_cell hk7 4) (And.intro (blk_cell hk7 5) (And.intro (blk_cell hk7 6) (And.intro (blk_cell hk7 7) (And.intro (blk_cell hk7 8) (And.intro (blk_cell hk7 9) (And.intro (blk_cell hk7 10) (And.intro (blk_cell hk7 11) (And.intro (blk_cell hk7 12) (blk_cell hk7 13))))))))))))))
    have HVV := Lib.hid hv
    try rw [← hgr]
    clear hk7 hv hres hgr hgi0 
    go_wp2_with fail
    obtain ⟨d0, d1, d2, d3, d4, d5, d6, d7, d8, d9, d10, d11, d12, d13⟩ := HD.out
    refine bodyPost_ret (v := V) ?_ rfl ⟨rfl, hb7⟩
    rw [HVV.out]
    simp at d0 d1 d2 d3 d4 d5 d6 d7 d8 d9 d10 d11 d12 d13
    simp [results, Try.results8, go_sem, d0, d1, d2, d3, d4, d5, d6, d7, d8, d9, d10, d11, d12, d13, pdO, PdV.val, PdV.cells, PdV.none, U4.zero]
  | some l =>
    have hll := HFT.out l rfl
    have HO := Lib.hid (open_dd v l w1 hov.rd (by omega))
    obtain ⟨A, c, rfl⟩ := hov.form
    have hV2 : V = pdO (readPd l) := hV
    unfold readPd at hV2
    have HV := Lib.hid hV2
    clear hov HFT hV hV2
    go_wp2_with fail
    refine HO.out.mono ?_
    rintro e w2 ⟨g, rfl, hr2, hb2⟩
    have hq2 := below_chain hq1 hq1.size hb2
    have hk2 := (hb2.block _ (blk_lt hk1)).trans hk1
    have hlo := blk_lt hk1
    have hgl := hr2.lt
    have hgi := hr2.from_
    generalize w1.heap.size = lo at *
    clear HO hb2 hk1 hq1
    obtain ⟨gd, hgd⟩ : ∃ gd, gd = w2.heap.size := ⟨_, rfl⟩
    have P : PZ 102 w gr gd lo g 40 40 #[.string ⟨#[]⟩, .string ⟨#[]⟩, .int .u64 0, .int .u64 0, .int .u64 0, .int .u64 0, .int .u64 0, .int .u64 0, .int .u64 0, .int .u64 0, .int .u64 0, .int .u64 0, .int .u64 0, .int .u64 0] #[.string ⟨#[]⟩, .string ⟨#[]⟩, .int .u64 0, .int .u64 0, .int .u64 0, .int .u64 0, .int .u64 0, .int .u64 0, .int .u64 0, .int .u64 0, .int .u64 0, .int .u64 0, .int .u64 0, .int .u64 0] l 0 (w2.alloc (.cells #[.string ⟨#[]⟩, .string ⟨#[]⟩, .int .u64 0, .int .u64 0, .int .u64 0, .int .u64 0, .int .u64 0, .int .u64 0, .int .u64 0, .int .u64 0, .int .u64 0, .int .u64 0, .int .u64 0, .int .u64 0] 40)) :=
      ⟨hq2.alloc hq2.size _, by omega, by have := hq2.size; omega, (Below.heap_alloc w2 _ _ (blk_lt hk2)).trans hk2, by rw [hgd]; exact heap_alloc_new w2 _, hr2.below ((Below.refl _ _).alloc (Nat.le_refl _) _), by omega, by omega⟩
    clear hq2 hk2 hr2 hgl hlo hgi
    go_wp2_with fail
    rw [← hgd]
    generalize w2.alloc (.cells #[.string ⟨#[]⟩, .string ⟨#[]⟩, .int .u64 0, .int .u64 0, .int .u64 0, .int .u64 0, .int .u64 0, .int .u64 0, .int .u64 0, .int .u64 0, .int .u64 0, .int .u64 0, .int .u64 0, .int .u64 0] 40) = wz at *
    clear hgd
    refine (dT_any P.rd).mono ?_
    rintro e wt0 ⟨rfl, hr, hg⟩
    replace P := P.call hg hr
    clear hr hg
    have b_xa := rB_le l 0
    generalize rB l 0 = Q at *
    obtain ⟨xa, l_xa, f_xa⟩ := Q
    dsimp only at P HV b_xa ⊢
    have z0 := blk_cell P.loc 0
    have f0 := blk_free P.loc 0
    replace P : PZ 102 w gr gd lo g 40 40 #[.string ⟨#[]⟩, .string ⟨#[]⟩, .int .u64 0, .int .u64 0, .int .u64 0, .int .u64 0, .int .u64 0, .int .u64 0, .int .u64 0, .int .u64 0, .int .u64 0, .int .u64 0, .int .u64 0, .int .u64 0] #[.string ⟨xa.toArray⟩, .string ⟨#[]⟩, .int .u64 0, .int .u64 0, .int .u64 0, .int .u64 0, .int .u64 0, .int .u64 0, .int .u64 0, .int .u64 0, .int .u64 0, .int .u64 0, .int .u64 0, .int .u64 0] l_xa f_xa ((wt0).setCell ⟨gd, 0, none⟩ (.string ⟨xa.toArray⟩)) := P.set 0 (.string ⟨xa.toArray⟩)
    go_wp2_with fail
    generalize (wt0).setCell ⟨gd, 0, none⟩ (.string ⟨xa.toArray⟩) = wu0 at *
    refine (dT_any P.rd).mono ?_
    rintro e wt1 ⟨rfl, hr, hg⟩
    replace P := P.call hg hr
    clear hr hg
    have b_xb := rB_le l_xa f_xa
    generalize rB l_xa f_xa = Q at *
    obtain ⟨xb, l_xb, f_xb⟩ := Q
    dsimp only at P HV b_xb ⊢
    have z0 := blk_cell P.loc 1
    have f0 := blk_free P.loc 1
    replace P : PZ 102 w gr gd lo g 40 40 #[.string ⟨#[]⟩, .string ⟨#[]⟩, .int .u64 0, .int .u64 0, .int .u64 0, .int .u64 0, .int .u64 0, .int .u64 0, .int .u64 0, .int .u64 0, .int .u64 0, .int .u64 0, .int .u64 0, .int .u64 0] #[.string ⟨xa.toArray⟩, .string ⟨xb.toArray⟩, .int .u64 0, .int .u64 0, .int .u64 0, .int .u64 0, .int .u64 0, .int .u64 0, .int .u64 0, .int .u64 0, .int .u64 0, .int .u64 0, .int .u64 0, .int .u64 0] l_xb f_xb ((wt1).setCell ⟨gd, 1, none⟩ (.string ⟨xb.toArray⟩)) := P.set 1 (.string ⟨xb.toArray⟩)
    go_wp2_with fail
    generalize (wt1).setCell ⟨gd, 1, none⟩ (.string ⟨xb.toArray⟩) = wu1 at *
    have HQ0 : Hid (ram l_xb f_xb 0 = fromU (rB l_xb f_xb).1 ∧ rst l_xb f_xb 1 = ((rB l_xb f_xb).2.1, (rB l_xb f_xb).2.2)) := Lib.hid (⟨rfl, rfl⟩)
    refine (dB_any P.rd).mono ?_
    rintro e wa0 ⟨vB, rfl, hoB, hr, hg⟩
    replace P := P.call hg hr
    clear hr hg
    generalize rB l_xb f_xb = Q at *
    obtain ⟨m0, lm0, fm0⟩ := Q
    dsimp only at P HQ0 hoB ⊢
    have HF := Lib.hid (rfrom_any vB m0 _ hoB.rd)
    obtain ⟨AB, cB, rfl⟩ := hoB.form
    clear hoB
    generalize m0.length = mlen0 at *
    go_wp2_with fail
    refine HF.out.mono ?_
    rintro e wf0 ⟨rfl, hb5⟩
    replace P := P.up hb5
    clear hb5 HF
    generalize fromU m0 = Q at *
    obtain ⟨x, e0⟩ := Q
    dsimp only at P HQ0 ⊢
    unfold U4.val U4.cells
    obtain ⟨gu, hgu⟩ : ∃ gu, gu = wf0.heap.size := ⟨_, rfl⟩
    have hgdu : gd < gu := by have := blk_lt P.loc; omega
    replace P := P.alloc (.cells #[.int .u64 (x.a : Int), .int .u64 (x.b : Int), .int .u64 (x.c : Int), .int .u64 (x.d : Int)] 33)
    have hu := heap_alloc_new wf0 (.cells #[.int .u64 (x.a : Int), .int .u64 (x.b : Int), .int .u64 (x.c : Int), .int .u64 (x.d : Int)] 33)
    rw [← hgu] at hu
    have u0 := blk_cell hu 0
    have u1 := blk_cell hu 1
    have u2 := blk_cell hu 2
    have u3 := blk_cell hu 3
    rw [hgu] at u0 u1 u2 u3
    have z0 := blk_cell P.loc 2
    have f0 := blk_free P.loc 2
    have z1 := blk_cell P.loc 3
    have f1 := blk_free P.loc 3
    have z2 := blk_cell P.loc 4
    have f2 := blk_free P.loc 4
    have z3 := blk_cell P.loc 5
    have f3 := blk_free P.loc 5
    replace P : PZ 102 w gr gd lo g 40 40 #[.string ⟨#[]⟩, .string ⟨#[]⟩, .int .u64 0, .int .u64 0, .int .u64 0, .int .u64 0, .int .u64 0, .int .u64 0, .int .u64 0, .int .u64 0, .int .u64 0, .int .u64 0, .int .u64 0, .int .u64 0] #[.string ⟨xa.toArray⟩, .string ⟨xb.toArray⟩, .int .u64 (x.a : Int), .int .u64 (x.b : Int), .int .u64 (x.c : Int), .int .u64 (x.d : Int), .int .u64 0, .int .u64 0, .int .u64 0, .int .u64 0, .int .u64 0, .int .u64 0, .int .u64 0, .int .u64 0] lm0 fm0 (((((wf0.alloc (.cells #[.int .u64 (x.a : Int), .int .u64 (x.b : Int), .int .u64 (x.c : Int), .int .u64 (x.d : Int)] 33)).setCell ⟨gd, 2, none⟩ (.int .u64 (x.a : Int))).setCell ⟨gd, 3, none⟩ (.int .u64 (x.b : Int))).setCell ⟨gd, 4, none⟩ (.int .u64 (x.c : Int))).setCell ⟨gd, 5, none⟩ (.int .u64 (x.d : Int))) := ((((P.set 2 (.int .u64 (x.a : Int))).set 3 (.int .u64 (x.b : Int))).set 4 (.int .u64 (x.c : Int))).set 5 (.int .u64 (x.d : Int)))
    replace hu := ((Below.heap_setCell _ ⟨gd, 5, none⟩ (.int .u64 (x.d : Int)) gu (by show gu ≠ gd; omega)).trans ((Below.heap_setCell _ ⟨gd, 4, none⟩ (.int .u64 (x.c : Int)) gu (by show gu ≠ gd; omega)).trans ((Below.heap_setCell _ ⟨gd, 3, none⟩ (.int .u64 (x.b : Int)) gu (by show gu ≠ gd; omega)).trans ((Below.heap_setCell _ ⟨gd, 2, none⟩ (.int .u64 (x.a : Int)) gu (by show gu ≠ gd; omega)).trans hu))))
    skip
    go_wp2_with fail
    generalize ((((wf0.alloc (.cells #[.int .u64 (x.a : Int), .int .u64 (x.b : Int), .int .u64 (x.c : Int), .int .u64 (x.d : Int)] 33)).setCell ⟨gd, 2, none⟩ (.int .u64 (x.a : Int))).setCell ⟨gd, 3, none⟩ (.int .u64 (x.b : Int))).setCell ⟨gd, 4, none⟩ (.int .u64 (x.c : Int))).setCell ⟨gd, 5, none⟩ (.int .u64 (x.d : Int)) = wv0 at *
    try rw [← hgu]
    clear hgu
    clear u0 u1 u2 u3 z0 z1 z2 z3 f0 f1 f2 f3
    have HQ1 : Hid (ram l_xb f_xb 1 = fromU (rB lm0 fm0).1 ∧ rst l_xb f_xb 2 = ((rB lm0 fm0).2.1, (rB lm0 fm0).2.2)) := Lib.hid (by have h := HQ0.out.2; exact ⟨by show fromU (rB (rst l_xb f_xb 1).1 (rst l_xb f_xb 1).2).1 = _; rw [h], by show ((rB (rst l_xb f_xb 1).1 (rst l_xb f_xb 1).2).2.1, (rB (rst l_xb f_xb 1).1 (rst l_xb f_xb 1).2).2.2) = _; rw [h]⟩)
    refine (dB_any P.rd).mono ?_
    rintro e wa1 ⟨vB, rfl, hoB, hr, hg⟩
    replace hu := (hg.block _ (blk_lt hu) (fun e => by injection e with e; have := P.o2; omega)).trans hu
    replace P := P.call hg hr
    clear hr hg
    generalize rB lm0 fm0 = Q at *
    obtain ⟨m1, lm1, fm1⟩ := Q
    dsimp only at P HQ1 hoB ⊢
    have HF := Lib.hid (rfrom_any vB m1 _ hoB.rd)
    obtain ⟨AB, cB, rfl⟩ := hoB.form
    clear hoB
    generalize m1.length = mlen1 at *
    go_wp2_with fail
    refine HF.out.mono ?_
    rintro e wf1 ⟨rfl, hb5⟩
    replace P := P.up hb5
    replace hu := (hb5.block _ (blk_lt hu)).trans hu
    clear hb5 HF
    generalize fromU m1 = Q at *
    obtain ⟨y, e1⟩ := Q
    dsimp only at P HQ1 ⊢
    unfold U4.val U4.cells
    have v0 := blk_cell hu 0
    have k0 := blk_free hu 0
    have v1 := blk_cell hu 1
    have k1 := blk_free hu 1
    have v2 := blk_cell hu 2
    have k2 := blk_free hu 2
    have v3 := blk_cell hu 3
    have k3 := blk_free hu 3
    replace P : PZ 102 w gr gd lo g 40 40 #[.string ⟨#[]⟩, .string ⟨#[]⟩, .int .u64 0, .int .u64 0, .int .u64 0, .int .u64 0, .int .u64 0, .int .u64 0, .int .u64 0, .int .u64 0, .int .u64 0, .int .u64 0, .int .u64 0, .int .u64 0] #[.string ⟨xa.toArray⟩, .string ⟨xb.toArray⟩, .int .u64 (x.a : Int), .int .u64 (x.b : Int), .int .u64 (x.c : Int), .int .u64 (x.d : Int), .int .u64 0, .int .u64 0, .int .u64 0, .int .u64 0, .int .u64 0, .int .u64 0, .int .u64 0, .int .u64 0] lm1 fm1 (((((wf1).setCell ⟨gu, 0, none⟩ (.int .u64 (y.a : Int))).setCell ⟨gu, 1, none⟩ (.int .u64 (y.b : Int))).setCell ⟨gu, 2, none⟩ (.int .u64 (y.c : Int))).setCell ⟨gu, 3, none⟩ (.int .u64 (y.d : Int))) := ((((P.other hgdu 0 (.int .u64 (y.a : Int))).other hgdu 1 (.int .u64 (y.b : Int))).other hgdu 2 (.int .u64 (y.c : Int))).other hgdu 3 (.int .u64 (y.d : Int)))
    replace hu := set4P hu (.int .u64 (y.a : Int)) (.int .u64 (y.b : Int)) (.int .u64 (y.c : Int)) (.int .u64 (y.d : Int))
    have u0 := blk_cell hu 0
    have u1 := blk_cell hu 1
    have u2 := blk_cell hu 2
    have u3 := blk_cell hu 3
    have z0 := blk_cell P.loc 6
    have f0 := blk_free P.loc 6
    have z1 := blk_cell P.loc 7
    have f1 := blk_free P.loc 7
    have z2 := blk_cell P.loc 8
    have f2 := blk_free P.loc 8
    have z3 := blk_cell P.loc 9
    have f3 := blk_free P.loc 9
    replace P : PZ 102 w gr gd lo g 40 40 #[.string ⟨#[]⟩, .string ⟨#[]⟩, .int .u64 0, .int .u64 0, .int .u64 0, .int .u64 0, .int .u64 0, .int .u64 0, .int .u64 0, .int .u64 0, .int .u64 0, .int .u64 0, .int .u64 0, .int .u64 0] #[.string ⟨xa.toArray⟩, .string ⟨xb.toArray⟩, .int .u64 (x.a : Int), .int .u64 (x.b : Int), .int .u64 (x.c : Int), .int .u64 (x.d : Int), .int .u64 (y.a : Int), .int .u64 (y.b : Int), .int .u64 (y.c : Int), .int .u64 (y.d : Int), .int .u64 0, .int .u64 0, .int .u64 0, .int .u64 0] lm1 fm1 (((((((((wf1).setCell ⟨gu, 0, none⟩ (.int .u64 (y.a : Int))).setCell ⟨gu, 1, none⟩ (.int .u64 (y.b : Int))).setCell ⟨gu, 2, none⟩ (.int .u64 (y.c : Int))).setCell ⟨gu, 3, none⟩ (.int .u64 (y.d : Int))).setCell ⟨gd, 6, none⟩ (.int .u64 (y.a : Int))).setCell ⟨gd, 7, none⟩ (.int .u64 (y.b : Int))).setCell ⟨gd, 8, none⟩ (.int .u64 (y.c : Int))).setCell ⟨gd, 9, none⟩ (.int .u64 (y.d : Int))) := ((((P.set 6 (.int .u64 (y.a : Int))).set 7 (.int .u64 (y.b : Int))).set 8 (.int .u64 (y.c : Int))).set 9 (.int .u64 (y.d : Int)))
    replace hu := ((Below.heap_setCell _ ⟨gd, 9, none⟩ (.int .u64 (y.d : Int)) gu (by show gu ≠ gd; omega)).trans ((Below.heap_setCell _ ⟨gd, 8, none⟩ (.int .u64 (y.c : Int)) gu (by show gu ≠ gd; omega)).trans ((Below.heap_setCell _ ⟨gd, 7, none⟩ (.int .u64 (y.b : Int)) gu (by show gu ≠ gd; omega)).trans ((Below.heap_setCell _ ⟨gd, 6, none⟩ (.int .u64 (y.a : Int)) gu (by show gu ≠ gd; omega)).trans hu))))
    go_wp2_with fail
    generalize ((((((((wf1).setCell ⟨gu, 0, none⟩ (.int .u64 (y.a : Int))).setCell ⟨gu, 1, none⟩ (.int .u64 (y.b : Int))).setCell ⟨gu, 2, none⟩ (.int .u64 (y.c : Int))).setCell ⟨gu, 3, none⟩ (.int .u64 (y.d : Int))).setCell ⟨gd, 6, none⟩ (.int .u64 (y.a : Int))).setCell ⟨gd, 7, none⟩ (.int .u64 (y.b : Int))).setCell ⟨gd, 8, none⟩ (.int .u64 (y.c : Int))).setCell ⟨gd, 9, none⟩ (.int .u64 (y.d : Int)) = wv1 at *
    clear u0 u1 u2 u3 z0 z1 z2 z3 f0 f1 f2 f3
    clear v0 v1 v2 v3 k0 k1 k2 k3
    have HQ2 : Hid (ram l_xb f_xb 2 = fromU (rB lm1 fm1).1 ∧ rst l_xb f_xb 3 = ((rB lm1 fm1).2.1, (rB lm1 fm1).2.2)) := Lib.hid (by have h := HQ1.out.2; exact ⟨by show fromU (rB (rst l_xb f_xb 2).1 (rst l_xb f_xb 2).2).1 = _; rw [h], by show ((rB (rst l_xb f_xb 2).1 (rst l_xb f_xb 2).2).2.1, (rB (rst l_xb f_xb 2).1 (rst l_xb f_xb 2).2).2.2) = _; rw [h]⟩)
    refine (dB_any P.rd).mono ?_
    rintro e wa2 ⟨vB, rfl, hoB, hr, hg⟩
    replace hu := (hg.block _ (blk_lt hu) (fun e => by injection e with e; have := P.o2; omega)).trans hu
    replace P := P.call hg hr
    clear hr hg
    generalize rB lm1 fm1 = Q at *
    obtain ⟨m2, lm2, fm2⟩ := Q
    dsimp only at P HQ2 hoB ⊢
    have HF := Lib.hid (rfrom_any vB m2 _ hoB.rd)
    obtain ⟨AB, cB, rfl⟩ := hoB.form
    clear hoB
    generalize m2.length = mlen2 at *
    go_wp2_with fail
    refine HF.out.mono ?_
    rintro e wf2 ⟨rfl, hb5⟩
    replace P := P.up hb5
    replace hu := (hb5.block _ (blk_lt hu)).trans hu
    clear hb5 HF
    generalize fromU m2 = Q at *
    obtain ⟨z, e2⟩ := Q
    dsimp only at P HQ2 ⊢
    unfold U4.val U4.cells
    have v0 := blk_cell hu 0
    have k0 := blk_free hu 0
    have v1 := blk_cell hu 1
    have k1 := blk_free hu 1
    have v2 := blk_cell hu 2
    have k2 := blk_free hu 2
    have v3 := blk_cell hu 3
    have k3 := blk_free hu 3
    replace P : PZ 102 w gr gd lo g 40 40 #[.string ⟨#[]⟩, .string ⟨#[]⟩, .int .u64 0, .int .u64 0, .int .u64 0, .int .u64 0, .int .u64 0, .int .u64 0, .int .u64 0, .int .u64 0, .int .u64 0, .int .u64 0, .int .u64 0, .int .u64 0] #[.string ⟨xa.toArray⟩, .string ⟨xb.toArray⟩, .int .u64 (x.a : Int), .int .u64 (x.b : Int), .int .u64 (x.c : Int), .int .u64 (x.d : Int), .int .u64 (y.a : Int), .int .u64 (y.b : Int), .int .u64 (y.c : Int), .int .u64 (y.d : Int), .int .u64 0, .int .u64 0, .int .u64 0, .int .u64 0] lm2 fm2 (((((wf2).setCell ⟨gu, 0, none⟩ (.int .u64 (z.a : Int))).setCell ⟨gu, 1, none⟩ (.int .u64 (z.b : Int))).setCell ⟨gu, 2, none⟩ (.int .u64 (z.c : Int))).setCell ⟨gu, 3, none⟩ (.int .u64 (z.d : Int))) := ((((P.other hgdu 0 (.int .u64 (z.a : Int))).other hgdu 1 (.int .u64 (z.b : Int))).other hgdu 2 (.int .u64 (z.c : Int))).other hgdu 3 (.int .u64 (z.d : Int)))
    replace hu := set4P hu (.int .u64 (z.a : Int)) (.int .u64 (z.b : Int)) (.int .u64 (z.c : Int)) (.int .u64 (z.d : Int))
    have u0 := blk_cell hu 0
    have u1 := blk_cell hu 1
    have u2 := blk_cell hu 2
    have u3 := blk_cell hu 3
    have z0 := blk_cell P.loc 10
    have f0 := blk_free P.loc 10
    have z1 := blk_cell P.loc 11
    have f1 := blk_free P.loc 11
    have z2 := blk_cell P.loc 12
    have f2 := blk_free P.loc 12
    have z3 := blk_cell P.loc 13
    have f3 := blk_free P.loc 13
    replace P : PZ 102 w gr gd lo g 40 40 #[.string ⟨#[]⟩, .string ⟨#[]⟩, .int .u64 0, .int .u64 0, .int .u64 0, .int .u64 0, .int .u64 0, .int .u64 0, .int .u64 0, .int .u64 0, .int .u64 0, .int .u64 0, .int .u64 0, .int .u64 0] #[.string ⟨xa.toArray⟩, .string ⟨xb.toArray⟩, .int .u64 (x.a : Int), .int .u64 (x.b : Int), .int .u64 (x.c : Int), .int .u64 (x.d : Int), .int .u64 (y.a : Int), .int .u64 (y.b : Int), .int .u64 (y.c : Int), .int .u64 (y.d : Int), .int .u64 (z.a : Int), .int .u64 (z.b : Int), .int .u64 (z.c : Int), .int .u64 (z.d : Int)] lm2 fm2 (((((((((wf2).setCell ⟨gu, 0, none⟩ (.int .u64 (z.a : Int))).setCell ⟨gu, 1, none⟩ (.int .u64 (z.b : Int))).setCell ⟨gu, 2, none⟩ (.int .u64 (z.c : Int))).setCell ⟨gu, 3, none⟩ (.int .u64 (z.d : Int))).setCell ⟨gd, 10, none⟩ (.int .u64 (z.a : Int))).setCell ⟨gd, 11, none⟩ (.int .u64 (z.b : Int))).setCell ⟨gd, 12, none⟩ (.int .u64 (z.c : Int))).setCell ⟨gd, 13, none⟩ (.int .u64 (z.d : Int))) := ((((P.set 10 (.int .u64 (z.a : Int))).set 11 (.int .u64 (z.b : Int))).set 12 (.int .u64 (z.c : Int))).set 13 (.int .u64 (z.d : Int)))
    replace hu := ((Below.heap_setCell _ ⟨gd, 13, none⟩ (.int .u64 (z.d : Int)) gu (by show gu ≠ gd; omega)).trans ((Below.heap_setCell _ ⟨gd, 12, none⟩ (.int .u64 (z.c : Int)) gu (by show gu ≠ gd; omega)).trans ((Below.heap_setCell _ ⟨gd, 11, none⟩ (.int .u64 (z.b : Int)) gu (by show gu ≠ gd; omega)).trans ((Below.heap_setCell _ ⟨gd, 10, none⟩ (.int .u64 (z.a : Int)) gu (by show gu ≠ gd; omega)).trans hu))))
    clear hu
    go_wp2_with fail
    generalize ((((((((wf2).setCell ⟨gu, 0, none⟩ (.int .u64 (z.a : Int))).setCell ⟨gu, 1, none⟩ (.int .u64 (z.b : Int))).setCell ⟨gu, 2, none⟩ (.int .u64 (z.c : Int))).setCell ⟨gu, 3, none⟩ (.int .u64 (z.d : Int))).setCell ⟨gd, 10, none⟩ (.int .u64 (z.a : Int))).setCell ⟨gd, 11, none⟩ (.int .u64 (z.b : Int))).setCell ⟨gd, 12, none⟩ (.int .u64 (z.c : Int))).setCell ⟨gd, 13, none⟩ (.int .u64 (z.d : Int)) = wv2 at *
    have hV3 := HV.out
    rw [HQ0.out.1, HQ1.out.1, HQ2.out.1, HQ2.out.2] at hV3
    dsimp only at hV3
    clear HV HQ0 HQ1 HQ2
    have HV := Lib.hid hV3
    clear hV3
    refine (dEnd_any P.rd).mono ?_
    rintro e w7 ⟨rfl, rfl⟩
    generalize rEnd lm2 fm2 = E at *
    have hrr := P.hr
    have hbel := P.below
    have hloc := P.loc
    have hpr := P.res
    clear P
    by_cases hE : E = 0
    rotate_left
    · have hne : (E != 0) = true := by simpa using hE
      have hv : V = pdO none := by rw [HV.out]; simp [hE]
      have hres := hpr
      have r0 := blk_cell hres 0
      have q0 := blk_free hres 0
      have r1 := blk_cell hres 1
      have q1 := blk_free hres 1
      have r2 := blk_cell hres 2
      have q2 := blk_free hres 2
      have r3 := blk_cell hres 3
      have q3 := blk_free hres 3
      have r4 := blk_cell hres 4
      have q4 := blk_free hres 4
      have r5 := blk_cell hres 5
      have q5 := blk_free hres 5
      have r6 := blk_cell hres 6
      have q6 := blk_free hres 6
      have r7 := blk_cell hres 7
      have q7 := blk_free hres 7
      have r8 := blk_cell hres 8
      have q8 := blk_free hres 8
      have r9 := blk_cell hres 9
      have q9 := blk_free hres 9
      have r10 := blk_cell hres 10
      have q10 := blk_free hres 10
      have r11 := blk_cell hres 11
      have q11 := blk_free hres 11
      have r12 := blk_cell hres 12
      have q12 := blk_free hres 12
      have r13 := blk_cell hres 13
      have q13 := blk_free hres 13
      have hk7 := set14P hres (.string ⟨#[]⟩) (.string ⟨#[]⟩) (.int .u64 0) (.int .u64 0) (.int .u64 0) (.int .u64 0) (.int .u64 0) (.int .u64 0) (.int .u64 0) (.int .u64 0) (.int .u64 0) (.int .u64 0) (.int .u64 0) (.int .u64 0)
      have hb7 := below_set14P hbel hrr (.string ⟨#[]⟩) (.string ⟨#[]⟩) (.int .u64 0) (.int .u64 0) (.int .u64 0) (.int .u64 0) (.int .u64 0) (.int .u64 0) (.int .u64 0) (.int .u64 0) (.int .u64 0) (.int .u64 0) (.int .u64 0) (.int .u64 0)
      have HD := Lib.hid (And.intro (blk_cell hk7 0) (And.intro (blk_cell hk7 1) (And.intro (blk_cell hk7 2) (And.intro (blk_cell hk7 3) (And.intro (blk_cell hk7 4) (And.intro (blk_cell hk7 5) (And.intro (blk_cell hk7 6) (And.intro (blk_cell hk7 7) (And.intro (blk_cell hk7 8) (And.intro (blk_cell hk7 9) (And.intro (blk_cell hk7 10) (And.intro (blk_cell hk7 11) (And.intro (blk_cell hk7 12) (blk_cell hk7 13))))))))))))))
      have HVV := Lib.hid hv
      try rw [← hgr]
      clear hk7 hv hres hgr hgi0 hloc HV hrr hbel hpr
      go_wp2_with fail
      obtain ⟨d0, d1, d2, d3, d4, d5, d6, d7, d8, d9, d10, d11, d12, d13⟩ := HD.out
      refine bodyPost_ret (v := V) ?_ rfl ⟨rfl, hb7⟩
      rw [HVV.out]
      simp at d0 d1 d2 d3 d4 d5 d6 d7 d8 d9 d10 d11 d12 d13
      simp [results, Try.results8, go_sem, d0, d1, d2, d3, d4, d5, d6, d7, d8, d9, d10, d11, d12, d13, pdO, PdV.val, PdV.cells, PdV.none, U4.zero]
    by_cases h0 : e0 = 0
    rotate_left
    · have hne : (e0 != 0) = true := by simpa using h0
      have hv : V = pdO none := by rw [HV.out]; simp [hE, h0]
      have hres := hpr
      have r0 := blk_cell hres 0
      have q0 := blk_free hres 0
      have r1 := blk_cell hres 1
      have q1 := blk_free hres 1
      have r2 := blk_cell hres 2
      have q2 := blk_free hres 2
      have r3 := blk_cell hres 3
      have q3 := blk_free hres 3
      have r4 := blk_cell hres 4
      have q4 := blk_free hres 4
      have r5 := blk_cell hres 5
      have q5 := blk_free hres 5
      have r6 := blk_cell hres 6
      have q6 := blk_free hres 6
      have r7 := blk_cell hres 7
      have q7 := blk_free hres 7
      have r8 := blk_cell hres 8
      have q8 := blk_free hres 8
      have r9 := blk_cell hres 9
      have q9 := blk_free hres 9
      have r10 := blk_cell hres 10
      have q10 := blk_free hres 10
      have r11 := blk_cell hres 11
      have q11 := blk_free hres 11
      have r12 := blk_cell hres 12
      have q12 := blk_free hres 12
      have r13 := blk_cell hres 13
      have q13 := blk_free hres 13
      have hk7 := set14P hres (.string ⟨#[]⟩) (.string ⟨#[]⟩) (.int .u64 0) (.int .u64 0) (.int .u64 0) (.int .u64 0) (.int .u64 0) (.int .u64 0) (.int .u64 0) (.int .u64 0) (.int .u64 0) (.int .u64 0) (.int .u64 0) (.int .u64 0)
      have hb7 := below_set14P hbel hrr (.string ⟨#[]⟩) (.string ⟨#[]⟩) (.int .u64 0) (.int .u64 0) (.int .u64 0) (.int .u64 0) (.int .u64 0) (.int .u64 0) (.int .u64 0) (.int .u64 0) (.int .u64 0) (.int .u64 0) (.int .u64 0) (.int .u64 0)
      have HD := Lib.hid (And.intro (blk_cell hk7 0) (And.intro (blk_cell hk7 1) (And.intro (blk_cell hk7 2) (And.intro (blk_cell hk7 3) (And.intro (blk_cell hk7 4) (And.intro (blk_cell hk7 5) (And.intro (blk_cell hk7 6) (And.intro (blk_cell hk7 7) (And.intro (blk_cell hk7 8) (And.intro (blk_cell hk7 9) (And.intro (blk_cell hk7 10) (And.intro (blk_cell hk7 11) (And.intro (blk_cell hk7 12) (blk_cell hk7 13))))))))))))))
      have HVV := Lib.hid hv
      try rw [← hgr]
      clear hk7 hv hres hgr hgi0 hloc HV hrr hbel hpr
      go_wp2_with fail
      obtain ⟨d0, d1, d2, d3, d4, d5, d6, d7, d8, d9, d10, d11, d12, d13⟩ := HD.out
      refine bodyPost_ret (v := V) ?_ rfl ⟨rfl, hb7⟩
      rw [HVV.out]
      simp at d0 d1 d2 d3 d4 d5 d6 d7 d8 d9 d10 d11 d12 d13
      simp [results, Try.results8, go_sem, d0, d1, d2, d3, d4, d5, d6, d7, d8, d9, d10, d11, d12, d13, pdO, PdV.val, PdV.cells, PdV.none, U4.zero]
    by_cases h1 : e1 = 0
    rotate_left
    · have hne : (e1 != 0) = true := by simpa using h1
      have hv : V = pdO none := by rw [HV.out]; simp [hE, h0, h1]
      have hres := hpr
      have r0 := blk_cell hres 0
      have q0 := blk_free hres 0
      have r1 := blk_cell hres 1
      have q1 := blk_free hres 1
      have r2 := blk_cell hres 2
      have q2 := blk_free hres 2
      have r3 := blk_cell hres 3
      have q3 := blk_free hres 3
      have r4 := blk_cell hres 4
      have q4 := blk_free hres 4
      have r5 := blk_cell hres 5
      have q5 := blk_free hres 5
      have r6 := blk_cell hres 6
      have q6 := blk_free hres 6
      have r7 := blk_cell hres 7
      have q7 := blk_free hres 7
      have r8 := blk_cell hres 8
      have q8 := blk_free hres 8
      have r9 := blk_cell hres 9
      have q9 := blk_free hres 9
      have r10 := blk_cell hres 10
      have q10 := blk_free hres 10
      have r11 := blk_cell hres 11
      have q11 := blk_free hres 11
      have r12 := blk_cell hres 12
      have q12 := blk_free hres 12
      have r13 := blk_cell hres 13
      have q13 := blk_free hres 13
      have hk7 := set14P hres (.string ⟨#[]⟩) (.string ⟨#[]⟩) (.int .u64 0) (.int .u64 0) (.int .u64 0) (.int .u64 0) (.int .u64 0) (.int .u64 0) (.int .u64 0) (.int .u64 0) (.int .u64 0) (.int .u64 0) (.int .u64 0) (.int .u64 0)
      have hb7 := below_set14P hbel hrr (.string ⟨#[]⟩) (.string ⟨#[]⟩) (.int .u64 0) (.int .u64 0) (.int .u64 0) (.int .u64 0) (.int .u64 0) (.int .u64 0) (.int .u64 0) (.int .u64 0) (.int .u64 0) (.int .u64 0) (.int .u64 0) (.int .u64 0)
      have HD := Lib.hid (And.intro (blk_cell hk7 0) (And.intro (blk_cell hk7 1) (And.intro (blk_cell hk7 2) (And.intro (blk_cell hk7 3) (And.intro (blk_cell hk7 4) (And.intro (blk_cell hk7 5) (And.intro (blk_cell hk7 6) (And.intro (blk_cell hk7 7) (And.intro (blk_cell hk7 8) (And.intro (blk_cell hk7 9) (And.intro (blk_cell hk7 10) (And.intro (blk_cell hk7 11) (And.intro (blk_cell hk7 12) (blk_cell hk7 13))))))))))))))
      have HVV := Lib.hid hv
      try rw [← hgr]
      clear hk7 hv hres hgr hgi0 hloc HV hrr hbel hpr
      go_wp2_with fail
      obtain ⟨d0, d1, d2, d3, d4, d5, d6, d7, d8, d9, d10, d11, d12, d13⟩ := HD.out
      refine bodyPost_ret (v := V) ?_ rfl ⟨rfl, hb7⟩
      rw [HVV.out]
      simp at d0 d1 d2 d3 d4 d5 d6 d7 d8 d9 d10 d11 d12 d13
      simp [results, Try.results8, go_sem, d0, d1, d2, d3, d4, d5, d6, d7, d8, d9, d10, d11, d12, d13, pdO, PdV.val, PdV.cells, PdV.none, U4.zero]
    by_cases h2 : e2 = 0
    rotate_left
    · have hne : (e2 != 0) = true := by simpa using h2
      have hv : V = pdO none := by rw [HV.out]; simp [hE, h0, h1, h2]
      have hres := hpr
      have r0 := blk_cell hres 0
      have q0 := blk_free hres 0
      have r1 := blk_cell hres 1
      have q1 := blk_free hres 1
      have r2 := blk_cell hres 2
      have q2 := blk_free hres 2
      have r3 := blk_cell hres 3
      have q3 := blk_free hres 3
      have r4 := blk_cell hres 4
      have q4 := blk_free hres 4
      have r5 := blk_cell hres 5
      have q5 := blk_free hres 5
      have r6 := blk_cell hres 6
      have q6 := blk_free hres 6
      have r7 := blk_cell hres 7
      have q7 := blk_free hres 7
      have r8 := blk_cell hres 8
      have q8 := blk_free hres 8
      have r9 := blk_cell hres 9
      have q9 := blk_free hres 9
      have r10 := blk_cell hres 10
      have q10 := blk_free hres 10
      have r11 := blk_cell hres 11
      have q11 := blk_free hres 11
      have r12 := blk_cell hres 12
      have q12 := blk_free hres 12
      have r13 := blk_cell hres 13
      have q13 := blk_free hres 13
      have hk7 := set14P hres (.string ⟨#[]⟩) (.string ⟨#[]⟩) (.int .u64 0) (.int .u64 0) (.int .u64 0) (.int .u64 0) (.int .u64 0) (.int .u64 0) (.int .u64 0) (.int .u64 0) (.int .u64 0) (.int .u64 0) (.int .u64 0) (.int .u64 0)
      have hb7 := below_set14P hbel hrr (.string ⟨#[]⟩) (.string ⟨#[]⟩) (.int .u64 0) (.int .u64 0) (.int .u64 0) (.int .u64 0) (.int .u64 0) (.int .u64 0) (.int .u64 0) (.int .u64 0) (.int .u64 0) (.int .u64 0) (.int .u64 0) (.int .u64 0)
      have HD := Lib.hid (And.intro (blk_cell hk7 0) (And.intro (blk_cell hk7 1) (And.intro (blk_cell hk7 2) (And.intro (blk_cell hk7 3) (And.intro (blk_cell hk7 4) (And.intro (blk_cell hk7 5) (And.intro (blk_cell hk7 6) (And.intro (blk_cell hk7 7) (And.intro (blk_cell hk7 8) (And.intro (blk_cell hk7 9) (And.intro (blk_cell hk7 10) (And.intro (blk_cell hk7 11) (And.intro (blk_cell hk7 12) (blk_cell hk7 13))))))))))))))
      have HVV := Lib.hid hv
      try rw [← hgr]
      clear hk7 hv hres hgr hgi0 hloc HV hrr hbel hpr
      go_wp2_with fail
      obtain ⟨d0, d1, d2, d3, d4, d5, d6, d7, d8, d9, d10, d11, d12, d13⟩ := HD.out
      refine bodyPost_ret (v := V) ?_ rfl ⟨rfl, hb7⟩
      rw [HVV.out]
      simp at d0 d1 d2 d3 d4 d5 d6 d7 d8 d9 d10 d11 d12 d13
      simp [results, Try.results8, go_sem, d0, d1, d2, d3, d4, d5, d6, d7, d8, d9, d10, d11, d12, d13, pdO, PdV.val, PdV.cells, PdV.none, U4.zero]
    subst hE h0 h1 h2
    have hv := HV.out
    rw [if_pos rfl, if_pos rfl, if_pos rfl, if_pos rfl] at hv
    have s0 := blk_cell hloc 0
    have s1 := blk_cell hloc 1
    have s2 := blk_cell hloc 2
    have s3 := blk_cell hloc 3
    have s4 := blk_cell hloc 4
    have s5 := blk_cell hloc 5
    have s6 := blk_cell hloc 6
    have s7 := blk_cell hloc 7
    have s8 := blk_cell hloc 8
    have s9 := blk_cell hloc 9
    have s10 := blk_cell hloc 10
    have s11 := blk_cell hloc 11
    have s12 := blk_cell hloc 12
    have s13 := blk_cell hloc 13
    have hres := hpr
    have r0 := blk_cell hres 0
    have q0 := blk_free hres 0
    have r1 := blk_cell hres 1
    have q1 := blk_free hres 1
    have r2 := blk_cell hres 2
    have q2 := blk_free hres 2
    have r3 := blk_cell hres 3
    have q3 := blk_free hres 3
    have r4 := blk_cell hres 4
    have q4 := blk_free hres 4
    have r5 := blk_cell hres 5
    have q5 := blk_free hres 5
    have r6 := blk_cell hres 6
    have q6 := blk_free hres 6
    have r7 := blk_cell hres 7
    have q7 := blk_free hres 7
    have r8 := blk_cell hres 8
    have q8 := blk_free hres 8
    have r9 := blk_cell hres 9
    have q9 := blk_free hres 9
    have r10 := blk_cell hres 10
    have q10 := blk_free hres 10
    have r11 := blk_cell hres 11
    have q11 := blk_free hres 11
    have r12 := blk_cell hres 12
    have q12 := blk_free hres 12
    have r13 := blk_cell hres 13
    have q13 := blk_free hres 13
    have hk7 := set14P hres (.string ⟨xa.toArray⟩) (.string ⟨xb.toArray⟩) (.int .u64 (x.a : Int)) (.int .u64 (x.b : Int)) (.int .u64 (x.c : Int)) (.int .u64 (x.d : Int)) (.int .u64 (y.a : Int)) (.int .u64 (y.b : Int)) (.int .u64 (y.c : Int)) (.int .u64 (y.d : Int)) (.int .u64 (z.a : Int)) (.int .u64 (z.b : Int)) (.int .u64 (z.c : Int)) (.int .u64 (z.d : Int))
    have hb7 := below_set14P hbel hrr (.string ⟨xa.toArray⟩) (.string ⟨xb.toArray⟩) (.int .u64 (x.a : Int)) (.int .u64 (x.b : Int)) (.int .u64 (x.c : Int)) (.int .u64 (x.d : Int)) (.int .u64 (y.a : Int)) (.int .u64 (y.b : Int)) (.int .u64 (y.c : Int)) (.int .u64 (y.d : Int)) (.int .u64 (z.a : Int)) (.int .u64 (z.b : Int)) (.int .u64 (z.c : Int)) (.int .u64 (z.d : Int))
    have HD := Lib.hid (And.intro (blk_cell hk7 0) (And.intro (blk_cell hk7 1) (And.intro (blk_cell hk7 2) (And.intro (blk_cell hk7 3) (And.intro (blk_cell hk7 4) (And.intro (blk_cell hk7 5) (And.intro (blk_cell hk7 6) (And.intro (blk_cell hk7 7) (And.intro (blk_cell hk7 8) (And.intro (blk_cell hk7 9) (And.intro (blk_cell hk7 10) (And.intro (blk_cell hk7 11) (And.intro (blk_cell hk7 12) (blk_cell hk7 13))))))))))))))
    have HVV := Lib.hid hv
    try rw [← hgr]
    clear hk7 hv hres hgr hgi0 hloc HV hrr hbel hpr
    go_wp2_with fail
    obtain ⟨d0, d1, d2, d3, d4, d5, d6, d7, d8, d9, d10, d11, d12, d13⟩ := HD.out
    refine bodyPost_ret (v := V) ?_ rfl ⟨rfl, hb7⟩
    rw [HVV.out]
    simp at d0 d1 d2 d3 d4 d5 d6 d7 d8 d9 d10 d11 d12 d13
    simp [results, Try.results8, go_sem, d0, d1, d2, d3, d4, d5, d6, d7, d8, d9, d10, d11, d12, d13, pdO, PdV.val, PdV.cells, PdV.none, U4.zero]
end Go.Proofs.Ytlkbjhhbpmmamaa
