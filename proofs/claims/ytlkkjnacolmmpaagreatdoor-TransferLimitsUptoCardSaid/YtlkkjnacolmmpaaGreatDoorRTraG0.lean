
/- The walk of a limit being read, the document's. The walk of a limit being kept, the document's. The walk of the law: a limit is kept and read back as the document says. -/
import Derived.Test.YtlkkjnacolmmpaaGreatDoorTraG0
import Derived.Test.YtlkkjnacolmmpaaGreatDoorWireDoc0
import Derived.Test.YtlkkjnacolmmpaaGreatDoorRBankA1
import Derived.Test.YtlkkjnacolmmpaaGreatDoorRTraR0
namespace Go.Proofs.YtlkkjnacolmmpaaGreatDoor
set_option maxRecDepth 100000
open Go Go.RowKit
set_option linter.unusedVariables false

theorem rtlimkey_any (a d : ByteArray) (w : World) (ha : a.size ≤ 100000000) (hd : d.size ≤ 100000000) : Calls Tryz.prog 118 #[.string a, .string d] w fun e w' => e = .returned (.string (kLim a d)) ∧ w = w' := by
  have s1 : limP.size = 6 := rfl
  have s2 : slB.size = 1 := rfl
  have h1 := fun W => txt_add limP a (by rw [s1]; omega) W
  have h2 := fun W => txt_add (limP ++ a) slB (by rw [ByteArray.size_append, s1, s2]; omega) W
  have h3 := fun W => txt_add ((limP ++ a) ++ slB) d (by rw [ByteArray.size_append, ByteArray.size_append, s1, s2]; omega) W
  unfold kLim
  generalize (limP ++ a) ++ slB = x2 at *
  generalize hx1 : limP ++ a = x1 at *
  clear hx1
  unfold limP slB at *
  go_enter Tryz.func118, Tryz.ntmps118
  go_wp2
  go_ret
  exact ⟨rfl, rfl⟩
set_option maxHeartbeats 8000000 in
theorem rtgetlim_any {w : World} {b : Nat} {R : List Pr} (h : DocR w b R) (a d : ByteArray) (ha : a.size ≤ 100000000) (hd : d.size ≤ 100000000) :
    Calls Tryz.prog 49 #[.pointer (some ⟨b, 0, none⟩), .string a, .string d] w fun e w' => e = .returned (limV (getLim R a d)) ∧ Below w.heap.size w w' := by
  have HG := Lib.hid (fun (Z : World) (hz : Below w.heap.size w Z) => rget_any (h.up hz).s h.n h.v (kLim a d))
  have HFT : Hid (∀ v, getL R (kLim a d) = some v → v.length ≤ 2000000) := Lib.hid (fun v e => h.v _ (getL_mem e))
  obtain ⟨B, hB⟩ : ∃ B : Addr, B = ⟨b, 0, none⟩ := ⟨_, rfl⟩
  rw [← hB] at HG ⊢
  clear hB h
  have HK := Lib.hid (fun W => (rtlimkey_any a d W ha hd).mono fun e w' ⟨h1, h2⟩ => (⟨h1, h2.symm⟩ : _ ∧ w' = W))
  obtain ⟨V, hV⟩ : ∃ V, V = limV (getLim R a d) := ⟨_, rfl⟩
  rw [← hV]
  unfold getLim at hV
  generalize getL R (kLim a d) = o at *
  generalize kLim a d = key at *
  have hk0 := heap_alloc_new w (.cells #[.int .u64 0, .int .u64 0, .int .u64 0, .int .u64 0, .int .u64 0, .int .u64 0, .int .u64 0, .int .u64 0, .int .u64 0, .int .u64 0] 95)
  have ha0 : Below w.heap.size w (w.alloc (.cells #[.int .u64 0, .int .u64 0, .int .u64 0, .int .u64 0, .int .u64 0, .int .u64 0, .int .u64 0, .int .u64 0, .int .u64 0, .int .u64 0] 95)) := (Below.refl _ _).alloc (Nat.le_refl _) _
  go_enter Tryz.func49, Tryz.ntmps49
  go_wp2_with fail
  generalize w.alloc (.cells #[.int .u64 0, .int .u64 0, .int .u64 0, .int .u64 0, .int .u64 0, .int .u64 0, .int .u64 0, .int .u64 0, .int .u64 0, .int .u64 0] 95) = w0 at *
  refine (HK.out _).mono ?_
  rintro e w9 ⟨rfl, rfl⟩
  go_wp2_with fail
  refine (HG.out _ ha0).mono ?_
  rintro e w1 ⟨v, rfl, hov, hb1⟩
  have hq1 := below_chain ha0 ha0.size hb1
  have hk1 := (hb1.block _ (blk_lt hk0)).trans hk0
  have hl0 := blk_lt hk0
  obtain ⟨gr, hgr⟩ : ∃ gr, gr = w.heap.size := ⟨_, rfl⟩
  rw [← hgr] at hk1
  clear HG HK hk0 hb1
  cases o with
  | none =>
    have hv : V = .tuple #[LimV.none.val, .bool false] := hV
    obtain ⟨A, c, rfl⟩ := hov.form
    have r0 := blk_cell hk1 0
    have q0 := blk_free hk1 0
    have r1 := blk_cell hk1 1
    have q1 := blk_free hk1 1
    have r2 := blk_cell hk1 2
    have q2 := blk_free hk1 2
    have r3 := blk_cell hk1 3
    have q3 := blk_free hk1 3
    have r4 := blk_cell hk1 4
    have q4 := blk_free hk1 4
    have r5 := blk_cell hk1 5
    have q5 := blk_free hk1 5
    have r6 := blk_cell hk1 6
    have q6 := blk_free hk1 6
    have r7 := blk_cell hk1 7
    have q7 := blk_free hk1 7
    have r8 := blk_cell hk1 8
    have q8 := blk_free hk1 8
    have r9 := blk_cell hk1 9
    have q9 := blk_free hk1 9
    clear hov HFT hV
    subst hgr
    have hk7 := set10P hk1 (.int .u64 0) (.int .u64 0) (.int .u64 0) (.int .u64 0) (.int .u64 0) (.int .u64 0) (.int .u64 0) (.int .u64 0) (.int .u64 0) (.int .u64 0)
    have hb7 := below_set10P hq1 (Nat.le_refl _) (.int .u64 0) (.int .u64 0) (.int .u64 0) (.int .u64 0) (.int .u64 0) (.int .u64 0) (.int .u64 0) (.int .u64 0) (.int .u64 0) (.int .u64 0)
    have HD := Lib.hid (And.intro (blk_cell hk7 0) (And.intro (blk_cell hk7 1) (And.intro (blk_cell hk7 2) (And.intro (blk_cell hk7 3) (And.intro (blk_cell hk7 4) (And.intro (blk_cell hk7 5) (And.intro (blk_cell hk7 6) (And.intro (blk_cell hk7 7) (And.intro (blk_cell hk7 8) (blk_cell hk7 9))))))))))
    have HVV := Lib.hid hv
    clear hk7 hv
    go_wp2_with fail
    obtain ⟨d0, d1, d2, d3, d4, d5, d6, d7, d8, d9⟩ := HD.out
    refine bodyPost_ret (v := V) ?_ rfl ⟨rfl, hb7⟩
    rw [HVV.out]
    simp at d0 d1 d2 d3 d4 d5 d6 d7 d8 d9
    simp [results, Tryz.results49, go_sem, d0, d1, d2, d3, d4, d5, d6, d7, d8, d9, LimV.val, LimV.none, U4.zero]
  | some l =>
    have hll := HFT.out l rfl
    have HV := Lib.hid (show V = limV (readLim l) from hV)
    unfold limV readLim at HV
    have HO := Lib.hid (open_dd v l w1 hov.rd (by omega))
    obtain ⟨A, c, rfl⟩ := hov.form
    clear hov HFT hV
    go_wp2_with fail
    refine HO.out.mono ?_
    rintro e w2 ⟨g, rfl, hr2, hb2⟩
    have hq2 := below_chain hq1 hq1.size hb2
    have hk2 := (hb2.block _ (blk_lt hk1)).trans hk1
    have hgl := hr2.lt
    have hlo := blk_lt hk1
    generalize w1.heap.size = lo at *
    clear HO hb2 hk1 hq1
    have hgi := hr2.from_
    obtain ⟨gd, hgd⟩ : ∃ gd, gd = w2.heap.size := ⟨_, rfl⟩
    have P1 : PZ 181 w gr gd lo g 95 95 #[.int .u64 0, .int .u64 0, .int .u64 0, .int .u64 0, .int .u64 0, .int .u64 0, .int .u64 0, .int .u64 0, .int .u64 0, .int .u64 0] #[.int .u64 0, .int .u64 0, .int .u64 0, .int .u64 0, .int .u64 0, .int .u64 0, .int .u64 0, .int .u64 0, .int .u64 0, .int .u64 0] l 0 (w2.alloc (.cells #[.int .u64 0, .int .u64 0, .int .u64 0, .int .u64 0, .int .u64 0, .int .u64 0, .int .u64 0, .int .u64 0, .int .u64 0, .int .u64 0] 95)) :=
      ⟨hq2.alloc hq2.size _, by omega, by have := hq2.size; omega, (Below.heap_alloc w2 _ _ (blk_lt hk2)).trans hk2, by rw [hgd]; exact heap_alloc_new w2 _, hr2.below ((Below.refl _ _).alloc (Nat.le_refl _) _), by omega, by omega⟩
    clear hq2 hk2 hr2 hgl hlo hgi
    go_wp2_with fail
    rw [← hgd]
    generalize w2.alloc (.cells #[.int .u64 0, .int .u64 0, .int .u64 0, .int .u64 0, .int .u64 0, .int .u64 0, .int .u64 0, .int .u64 0, .int .u64 0, .int .u64 0] 95) = wz at *
    clear hgd
    refine (dB_any P1.rd).mono ?_
    rintro e wa1 ⟨vq_, rfl, hoq_, hr, hg⟩
    replace P1 := P1.call hg hr
    clear hr hg
    have b_q_ := rB_le l 0
    generalize rB l 0 = Q at *
    obtain ⟨q_, l_q_, f_q_⟩ := Q
    dsimp only at P1 HV b_q_ hoq_ ⊢
    have HF := Lib.hid (rfrom_any vq_ q_ _ hoq_.rd)
    obtain ⟨A_q, c_q, rfl⟩ := hoq_.form
    go_wp2_with fail
    refine HF.out.mono ?_
    rintro e wuq ⟨rfl, hb5⟩
    replace P1 := P1.up hb5
    clear hb5 HF hoq_
    have kq := fromU_ok q_
    generalize fromU q_ = Q at *
    obtain ⟨q, eq⟩ := Q
    dsimp only at P1 HV kq ⊢
    unfold U4.val U4.cells
    have P2 := P1.alloc (.cells #[.int .u64 (q.a : Int), .int .u64 (q.b : Int), .int .u64 (q.c : Int), .int .u64 (q.d : Int)] 74)
    have hq := heap_alloc_new wuq (.cells #[.int .u64 (q.a : Int), .int .u64 (q.b : Int), .int .u64 (q.c : Int), .int .u64 (q.d : Int)] 74)
    clear P1
    have u0 := blk_cell hq 0
    have u1 := blk_cell hq 1
    have u2 := blk_cell hq 2
    have u3 := blk_cell hq 3
    have z0 := blk_cell P2.loc 0
    have f0 := blk_free P2.loc 0
    have z1 := blk_cell P2.loc 1
    have f1 := blk_free P2.loc 1
    have z2 := blk_cell P2.loc 2
    have f2 := blk_free P2.loc 2
    have z3 := blk_cell P2.loc 3
    have f3 := blk_free P2.loc 3
    have P3 : PZ 181 w gr gd lo g _ 95 _ #[.int .u64 (q.a : Int), .int .u64 (q.b : Int), .int .u64 (q.c : Int), .int .u64 (q.d : Int), .int .u64 0, .int .u64 0, .int .u64 0, .int .u64 0, .int .u64 0, .int .u64 0] l_q_ f_q_ (((((wuq.alloc (.cells #[.int .u64 (q.a : Int), .int .u64 (q.b : Int), .int .u64 (q.c : Int), .int .u64 (q.d : Int)] 74)).setCell ⟨gd, 0, none⟩ (.int .u64 (q.a : Int))).setCell ⟨gd, 1, none⟩ (.int .u64 (q.b : Int))).setCell ⟨gd, 2, none⟩ (.int .u64 (q.c : Int))).setCell ⟨gd, 3, none⟩ (.int .u64 (q.d : Int))) := ((((P2.set 0 (.int .u64 (q.a : Int))).set 1 (.int .u64 (q.b : Int))).set 2 (.int .u64 (q.c : Int))).set 3 (.int .u64 (q.d : Int)))
    clear P2
    go_wp2_with fail
    generalize ((((wuq.alloc (.cells #[.int .u64 (q.a : Int), .int .u64 (q.b : Int), .int .u64 (q.c : Int), .int .u64 (q.d : Int)] 74)).setCell ⟨gd, 0, none⟩ (.int .u64 (q.a : Int))).setCell ⟨gd, 1, none⟩ (.int .u64 (q.b : Int))).setCell ⟨gd, 2, none⟩ (.int .u64 (q.c : Int))).setCell ⟨gd, 3, none⟩ (.int .u64 (q.d : Int)) = wb2 at *
    refine (dN_any P3.rd).mono ?_
    rintro e wa3 ⟨rfl, hr, hg⟩
    replace P3 := P3.call hg hr
    clear hr hg
    have b_wn := rN_lt l_q_ f_q_
    generalize rN l_q_ f_q_ = Q at *
    obtain ⟨wn, l_wn, f_wn⟩ := Q
    dsimp only at P3 HV b_wn ⊢
    have z0 := blk_cell P3.loc 4
    have f0 := blk_free P3.loc 4
    have P4 : PZ 181 w gr gd lo g _ 95 _ #[.int .u64 (q.a : Int), .int .u64 (q.b : Int), .int .u64 (q.c : Int), .int .u64 (q.d : Int), .int .u64 (wn : Int), .int .u64 0, .int .u64 0, .int .u64 0, .int .u64 0, .int .u64 0] l_wn f_wn ((wa3).setCell ⟨gd, 4, none⟩ (.int .u64 (wn : Int))) := (P3.set 4 (.int .u64 (wn : Int)))
    clear P3
    go_wp2_with fail
    generalize (wa3).setCell ⟨gd, 4, none⟩ (.int .u64 (wn : Int)) = wb3 at *
    refine (dN_any P4.rd).mono ?_
    rintro e wa4 ⟨rfl, hr, hg⟩
    replace P4 := P4.call hg hr
    clear hr hg
    have b_sn := rN_lt l_wn f_wn
    generalize rN l_wn f_wn = Q at *
    obtain ⟨sn, l_sn, f_sn⟩ := Q
    dsimp only at P4 HV b_sn ⊢
    have z0 := blk_cell P4.loc 5
    have f0 := blk_free P4.loc 5
    have P5 : PZ 181 w gr gd lo g _ 95 _ #[.int .u64 (q.a : Int), .int .u64 (q.b : Int), .int .u64 (q.c : Int), .int .u64 (q.d : Int), .int .u64 (wn : Int), .int .u64 (sn : Int), .int .u64 0, .int .u64 0, .int .u64 0, .int .u64 0] l_sn f_sn ((wa4).setCell ⟨gd, 5, none⟩ (.int .u64 (sn : Int))) := (P4.set 5 (.int .u64 (sn : Int)))
    clear P4
    go_wp2_with fail
    generalize (wa4).setCell ⟨gd, 5, none⟩ (.int .u64 (sn : Int)) = wb4 at *
    refine (dB_any P5.rd).mono ?_
    rintro e wa5 ⟨vu_, rfl, hou_, hr, hg⟩
    replace P5 := P5.call hg hr
    clear hr hg
    have b_u_ := rB_le l_sn f_sn
    generalize rB l_sn f_sn = Q at *
    obtain ⟨u_, l_u_, f_u_⟩ := Q
    dsimp only at P5 HV b_u_ hou_ ⊢
    have HF := Lib.hid (rfrom_any vu_ u_ _ hou_.rd)
    obtain ⟨A_u, c_u, rfl⟩ := hou_.form
    go_wp2_with fail
    refine HF.out.mono ?_
    rintro e wuu ⟨rfl, hb5⟩
    replace P5 := P5.up hb5
    clear hb5 HF hou_
    have ku := fromU_ok u_
    generalize fromU u_ = Q at *
    obtain ⟨u, eu⟩ := Q
    dsimp only at P5 HV ku ⊢
    unfold U4.val U4.cells
    have P6 := P5.alloc (.cells #[.int .u64 (u.a : Int), .int .u64 (u.b : Int), .int .u64 (u.c : Int), .int .u64 (u.d : Int)] 74)
    have hu := heap_alloc_new wuu (.cells #[.int .u64 (u.a : Int), .int .u64 (u.b : Int), .int .u64 (u.c : Int), .int .u64 (u.d : Int)] 74)
    clear P5
    have u0 := blk_cell hu 0
    have u1 := blk_cell hu 1
    have u2 := blk_cell hu 2
    have u3 := blk_cell hu 3
    have z0 := blk_cell P6.loc 6
    have f0 := blk_free P6.loc 6
    have z1 := blk_cell P6.loc 7
    have f1 := blk_free P6.loc 7
    have z2 := blk_cell P6.loc 8
    have f2 := blk_free P6.loc 8
    have z3 := blk_cell P6.loc 9
    have f3 := blk_free P6.loc 9
    have P7 : PZ 181 w gr gd lo g _ 95 _ #[.int .u64 (q.a : Int), .int .u64 (q.b : Int), .int .u64 (q.c : Int), .int .u64 (q.d : Int), .int .u64 (wn : Int), .int .u64 (sn : Int), .int .u64 (u.a : Int), .int .u64 (u.b : Int), .int .u64 (u.c : Int), .int .u64 (u.d : Int)] l_u_ f_u_ (((((wuu.alloc (.cells #[.int .u64 (u.a : Int), .int .u64 (u.b : Int), .int .u64 (u.c : Int), .int .u64 (u.d : Int)] 74)).setCell ⟨gd, 6, none⟩ (.int .u64 (u.a : Int))).setCell ⟨gd, 7, none⟩ (.int .u64 (u.b : Int))).setCell ⟨gd, 8, none⟩ (.int .u64 (u.c : Int))).setCell ⟨gd, 9, none⟩ (.int .u64 (u.d : Int))) := ((((P6.set 6 (.int .u64 (u.a : Int))).set 7 (.int .u64 (u.b : Int))).set 8 (.int .u64 (u.c : Int))).set 9 (.int .u64 (u.d : Int)))
    clear P6
    go_wp2_with fail
    generalize ((((wuu.alloc (.cells #[.int .u64 (u.a : Int), .int .u64 (u.b : Int), .int .u64 (u.c : Int), .int .u64 (u.d : Int)] 74)).setCell ⟨gd, 6, none⟩ (.int .u64 (u.a : Int))).setCell ⟨gd, 7, none⟩ (.int .u64 (u.b : Int))).setCell ⟨gd, 8, none⟩ (.int .u64 (u.c : Int))).setCell ⟨gd, 9, none⟩ (.int .u64 (u.d : Int)) = wb6 at *
    refine (dEnd_any P7.rd).mono ?_
    rintro e w7 ⟨rfl, rfl⟩
    generalize rEnd l_u_ f_u_ = E at *
    subst hgr
    by_cases hE : E = 0
    · subst hE
      by_cases hq : eq = 0
      · subst hq
        by_cases hu0 : eu = 0
        · subst hu0
          have hv := HV.out
          rw [if_pos (by simp)] at hv
          dsimp only at hv
          clear HV
          have r0 := blk_cell P7.res 0
          have q0 := blk_free P7.res 0
          have r1 := blk_cell P7.res 1
          have q1 := blk_free P7.res 1
          have r2 := blk_cell P7.res 2
          have q2 := blk_free P7.res 2
          have r3 := blk_cell P7.res 3
          have q3 := blk_free P7.res 3
          have r4 := blk_cell P7.res 4
          have q4 := blk_free P7.res 4
          have r5 := blk_cell P7.res 5
          have q5 := blk_free P7.res 5
          have r6 := blk_cell P7.res 6
          have q6 := blk_free P7.res 6
          have r7 := blk_cell P7.res 7
          have q7 := blk_free P7.res 7
          have r8 := blk_cell P7.res 8
          have q8 := blk_free P7.res 8
          have r9 := blk_cell P7.res 9
          have q9 := blk_free P7.res 9
          have s0 := blk_cell P7.loc 0
          have s1 := blk_cell P7.loc 1
          have s2 := blk_cell P7.loc 2
          have s3 := blk_cell P7.loc 3
          have s4 := blk_cell P7.loc 4
          have s5 := blk_cell P7.loc 5
          have s6 := blk_cell P7.loc 6
          have s7 := blk_cell P7.loc 7
          have s8 := blk_cell P7.loc 8
          have s9 := blk_cell P7.loc 9
          have hk7 := set10P P7.res (.int .u64 (q.a : Int)) (.int .u64 (q.b : Int)) (.int .u64 (q.c : Int)) (.int .u64 (q.d : Int)) (.int .u64 (wn : Int)) (.int .u64 (sn : Int)) (.int .u64 (u.a : Int)) (.int .u64 (u.b : Int)) (.int .u64 (u.c : Int)) (.int .u64 (u.d : Int))
          have hb7 := below_set10P P7.below P7.hr (.int .u64 (q.a : Int)) (.int .u64 (q.b : Int)) (.int .u64 (q.c : Int)) (.int .u64 (q.d : Int)) (.int .u64 (wn : Int)) (.int .u64 (sn : Int)) (.int .u64 (u.a : Int)) (.int .u64 (u.b : Int)) (.int .u64 (u.c : Int)) (.int .u64 (u.d : Int))
          have HD := Lib.hid (And.intro (blk_cell hk7 0) (And.intro (blk_cell hk7 1) (And.intro (blk_cell hk7 2) (And.intro (blk_cell hk7 3) (And.intro (blk_cell hk7 4) (And.intro (blk_cell hk7 5) (And.intro (blk_cell hk7 6) (And.intro (blk_cell hk7 7) (And.intro (blk_cell hk7 8) (blk_cell hk7 9))))))))))
          have HVV := Lib.hid hv
          clear hk7 hv
          go_wp2_with fail
          obtain ⟨d0, d1, d2, d3, d4, d5, d6, d7, d8, d9⟩ := HD.out
          refine bodyPost_ret (v := V) ?_ rfl ⟨rfl, hb7⟩
          rw [HVV.out]
          simp at d0 d1 d2 d3 d4 d5 d6 d7 d8 d9
          simp [results, Tryz.results49, go_sem, d0, d1, d2, d3, d4, d5, d6, d7, d8, d9, LimV.val, LimV.none, U4.zero]
        · have hne : (eu != 0) = true := by simpa using hu0
          have hv := HV.out
          rw [if_neg (by simp [hu0])] at hv
          dsimp only at hv
          clear HV
          have r0 := blk_cell P7.res 0
          have q0 := blk_free P7.res 0
          have r1 := blk_cell P7.res 1
          have q1 := blk_free P7.res 1
          have r2 := blk_cell P7.res 2
          have q2 := blk_free P7.res 2
          have r3 := blk_cell P7.res 3
          have q3 := blk_free P7.res 3
          have r4 := blk_cell P7.res 4
          have q4 := blk_free P7.res 4
          have r5 := blk_cell P7.res 5
          have q5 := blk_free P7.res 5
          have r6 := blk_cell P7.res 6
          have q6 := blk_free P7.res 6
          have r7 := blk_cell P7.res 7
          have q7 := blk_free P7.res 7
          have r8 := blk_cell P7.res 8
          have q8 := blk_free P7.res 8
          have r9 := blk_cell P7.res 9
          have q9 := blk_free P7.res 9
          have hk7 := set10P P7.res (.int .u64 0) (.int .u64 0) (.int .u64 0) (.int .u64 0) (.int .u64 0) (.int .u64 0) (.int .u64 0) (.int .u64 0) (.int .u64 0) (.int .u64 0)
          have hb7 := below_set10P P7.below P7.hr (.int .u64 0) (.int .u64 0) (.int .u64 0) (.int .u64 0) (.int .u64 0) (.int .u64 0) (.int .u64 0) (.int .u64 0) (.int .u64 0) (.int .u64 0)
          have HD := Lib.hid (And.intro (blk_cell hk7 0) (And.intro (blk_cell hk7 1) (And.intro (blk_cell hk7 2) (And.intro (blk_cell hk7 3) (And.intro (blk_cell hk7 4) (And.intro (blk_cell hk7 5) (And.intro (blk_cell hk7 6) (And.intro (blk_cell hk7 7) (And.intro (blk_cell hk7 8) (blk_cell hk7 9))))))))))
          have HVV := Lib.hid hv
          clear hk7 hv
          go_wp2_with fail
          obtain ⟨d0, d1, d2, d3, d4, d5, d6, d7, d8, d9⟩ := HD.out
          refine bodyPost_ret (v := V) ?_ rfl ⟨rfl, hb7⟩
          rw [HVV.out]
          simp at d0 d1 d2 d3 d4 d5 d6 d7 d8 d9
          simp [results, Tryz.results49, go_sem, d0, d1, d2, d3, d4, d5, d6, d7, d8, d9, LimV.val, LimV.none, U4.zero]
      · have hne : (eq != 0) = true := by simpa using hq
        have hv := HV.out
        rw [if_neg (by simp [hq])] at hv
        dsimp only at hv
        clear HV
        have r0 := blk_cell P7.res 0
        have q0 := blk_free P7.res 0
        have r1 := blk_cell P7.res 1
        have q1 := blk_free P7.res 1
        have r2 := blk_cell P7.res 2
        have q2 := blk_free P7.res 2
        have r3 := blk_cell P7.res 3
        have q3 := blk_free P7.res 3
        have r4 := blk_cell P7.res 4
        have q4 := blk_free P7.res 4
        have r5 := blk_cell P7.res 5
        have q5 := blk_free P7.res 5
        have r6 := blk_cell P7.res 6
        have q6 := blk_free P7.res 6
        have r7 := blk_cell P7.res 7
        have q7 := blk_free P7.res 7
        have r8 := blk_cell P7.res 8
        have q8 := blk_free P7.res 8
        have r9 := blk_cell P7.res 9
        have q9 := blk_free P7.res 9
        have hk7 := set10P P7.res (.int .u64 0) (.int .u64 0) (.int .u64 0) (.int .u64 0) (.int .u64 0) (.int .u64 0) (.int .u64 0) (.int .u64 0) (.int .u64 0) (.int .u64 0)
        have hb7 := below_set10P P7.below P7.hr (.int .u64 0) (.int .u64 0) (.int .u64 0) (.int .u64 0) (.int .u64 0) (.int .u64 0) (.int .u64 0) (.int .u64 0) (.int .u64 0) (.int .u64 0)
        have HD := Lib.hid (And.intro (blk_cell hk7 0) (And.intro (blk_cell hk7 1) (And.intro (blk_cell hk7 2) (And.intro (blk_cell hk7 3) (And.intro (blk_cell hk7 4) (And.intro (blk_cell hk7 5) (And.intro (blk_cell hk7 6) (And.intro (blk_cell hk7 7) (And.intro (blk_cell hk7 8) (blk_cell hk7 9))))))))))
        have HVV := Lib.hid hv
        clear hk7 hv
        go_wp2_with fail
        obtain ⟨d0, d1, d2, d3, d4, d5, d6, d7, d8, d9⟩ := HD.out
        refine bodyPost_ret (v := V) ?_ rfl ⟨rfl, hb7⟩
        rw [HVV.out]
        simp at d0 d1 d2 d3 d4 d5 d6 d7 d8 d9
        simp [results, Tryz.results49, go_sem, d0, d1, d2, d3, d4, d5, d6, d7, d8, d9, LimV.val, LimV.none, U4.zero]
    · have hne : (E != 0) = true := by simpa using hE
      have hv := HV.out
      rw [if_neg (by simp [hE])] at hv
      dsimp only at hv
      clear HV
      have r0 := blk_cell P7.res 0
      have q0 := blk_free P7.res 0
      have r1 := blk_cell P7.res 1
      have q1 := blk_free P7.res 1
      have r2 := blk_cell P7.res 2
      have q2 := blk_free P7.res 2
      have r3 := blk_cell P7.res 3
      have q3 := blk_free P7.res 3
      have r4 := blk_cell P7.res 4
      have q4 := blk_free P7.res 4
      have r5 := blk_cell P7.res 5
      have q5 := blk_free P7.res 5
      have r6 := blk_cell P7.res 6
      have q6 := blk_free P7.res 6
      have r7 := blk_cell P7.res 7
      have q7 := blk_free P7.res 7
      have r8 := blk_cell P7.res 8
      have q8 := blk_free P7.res 8
      have r9 := blk_cell P7.res 9
      have q9 := blk_free P7.res 9
      have hk7 := set10P P7.res (.int .u64 0) (.int .u64 0) (.int .u64 0) (.int .u64 0) (.int .u64 0) (.int .u64 0) (.int .u64 0) (.int .u64 0) (.int .u64 0) (.int .u64 0)
      have hb7 := below_set10P P7.below P7.hr (.int .u64 0) (.int .u64 0) (.int .u64 0) (.int .u64 0) (.int .u64 0) (.int .u64 0) (.int .u64 0) (.int .u64 0) (.int .u64 0) (.int .u64 0)
      have HD := Lib.hid (And.intro (blk_cell hk7 0) (And.intro (blk_cell hk7 1) (And.intro (blk_cell hk7 2) (And.intro (blk_cell hk7 3) (And.intro (blk_cell hk7 4) (And.intro (blk_cell hk7 5) (And.intro (blk_cell hk7 6) (And.intro (blk_cell hk7 7) (And.intro (blk_cell hk7 8) (blk_cell hk7 9))))))))))
      have HVV := Lib.hid hv
      clear hk7 hv
      go_wp2_with fail
      obtain ⟨d0, d1, d2, d3, d4, d5, d6, d7, d8, d9⟩ := HD.out
      refine bodyPost_ret (v := V) ?_ rfl ⟨rfl, hb7⟩
      rw [HVV.out]
      simp at d0 d1 d2 d3 d4 d5 d6 d7 d8 d9
      simp [results, Tryz.results49, go_sem, d0, d1, d2, d3, d4, d5, d6, d7, d8, d9, LimV.val, LimV.none, U4.zero]
end Go.Proofs.YtlkkjnacolmmpaaGreatDoor
namespace Go.Proofs.YtlkkjnacolmmpaaGreatDoor
set_option maxRecDepth 100000
open Go Go.RowKit
set_option linter.unusedVariables false

set_option maxHeartbeats 2000000 in
theorem rset_no {w : World} {b : Nat} {R : List Pr} (h : DocS w b R) (key : ByteArray) (hk : key.size ≤ maxLen) (v : Value) (val : List UInt8) (hr : Rd w w.heap.size v val) (hp : pairB (key, val) = false) :
    Calls Tryz.prog 66 #[.pointer (some ⟨b, 0, none⟩), .string key, v] w fun e w' => e = .returned (.int .i64 60) ∧ w = w' := by
  have HT := Lib.hid (rtakes_any key v val w hk hr)
  rw [hp] at HT
  obtain ⟨A, c, rfl⟩ := hr.form
  clear h hr hp
  go_enter Tryz.func66, Tryz.ntmps66
  go_wp2_with fail
  refine HT.out.mono ?_
  rintro e w1 ⟨rfl, rfl⟩
  go_wp2_with fail
  go_ret
  exact ⟨rfl, rfl⟩
theorem putL_short {key : ByteArray} {val : List UInt8} {R : List Pr} (hv : val.length ≤ 2000000) (h : ∀ p ∈ R, p.2.length ≤ 2000000) : ∀ p ∈ putL (key, some val) R, p.2.length ≤ 2000000 := fun p hp => by
  rcases List.mem_append.1 ((putL_perm key _ R).mem_iff.1 hp) with hp | hp
  · rw [List.mem_singleton.1 hp]; exact hv
  · exact h p (List.mem_filter.1 hp).1
theorem putL_le (key : ByteArray) (val : List UInt8) (R : List Pr) : (putL (key, some val) R).length ≤ R.length + 1 := by
  rw [(putL_perm key (some val) R).length_eq]
  have := List.length_filter_le (fun p : Pr => !decide (p.1 = key)) R
  simp
  omega
theorem Doc.setLimG {w W : World} {b N : Nat} {R : List Pr} (h : Doc w b R N W) (hN : N + 1 ≤ 100000000) (a d : ByteArray) (v : LimV) (x : Value) {B : Nat} (ho : Own W B x (limB v)) (hk : (kLim a d).size ≤ maxLen) :
    Calls Tryz.prog 66 #[.pointer (some ⟨b, 0, none⟩), .string (kLim a d), x] W fun e w' => (∃ c, e = .returned (.int .i64 c)) ∧ Doc w b (setLim R a d v) (N + 1) w' ∧ Chg W w' (fun k => k = b) := by
  have hl := limB_len v
  unfold setLim
  rw [← pairB_lim a d v]
  by_cases hp : pairB (kLim a d, limB v) = true
  · rw [if_pos hp]
    exact (rset_any h.s (by have := h.n; omega) (kLim a d) hk x (limB v) ho.rd hp).mono fun e w' ⟨h1, h2, h3⟩ => ⟨⟨_, h1⟩, ⟨h2, by have := putL_le (kLim a d) (limB v) R; have := h.n; omega, putL_short (by omega) h.v, h.c.trans' h3⟩, h3⟩
  · rw [if_neg hp]
    refine (rset_no h.s (kLim a d) hk x (limB v) ho.rd (by simpa using hp)).mono ?_
    rintro e w' ⟨he, rfl⟩
    exact ⟨⟨_, he⟩, h.more (by omega), Chg.refl _ _⟩
theorem rB0 (v x : Value) (l m : List UInt8) (Z : World) (hr : Rd Z Z.heap.size v l) (hx : Rd Z Z.heap.size x m) (hl : l.length ≤ 140737488355328 - 65539) :
    Calls Tryz.prog 109 #[v, x] Z fun e w' => ∃ v', e = .returned v' ∧ Own w' Z.heap.size v' (l ++ encB m) ∧ Below Z.heap.size Z w' :=
  (refB_any v x l m Z hr hx hl).mono fun e w' ⟨v', h1, h2, h3⟩ => ⟨v', h1, by rw [List.append_assoc] at h2; exact h2, h3⟩
theorem rT0 (v : Value) (s : ByteArray) (l : List UInt8) (Z : World) (hr : Rd Z Z.heap.size v l) (hs : s.size ≤ maxLen) (hl : l.length ≤ 140737488355328 - 65539) :
    Calls Tryz.prog 97 #[v, .string s] Z fun e w' => ∃ v', e = .returned v' ∧ Own w' Z.heap.size v' (l ++ encT s) ∧ Below Z.heap.size Z w' :=
  (refT_any v s l Z hr hs hl).mono fun e w' ⟨v', h1, h2, h3⟩ => ⟨v', h1, by rw [List.append_assoc] at h2; exact h2, h3⟩
theorem DocS.ne_cellX {w : World} {b : Nat} {R : List Pr} (h : DocS w b R) {g i : Nat} {u : Value} (e : w.cell? ⟨g, i, none⟩ = some u) (h1 : ∀ A n c, u ≠ .slice A n c) (h2 : u ≠ .pointer none) : g ≠ b := by
  obtain ⟨v, hb, hr⟩ := h
  obtain ⟨A, c, rfl⟩ := RdP.form hr
  exact not_own hb e h1 h2

set_option maxHeartbeats 8000000 in
theorem rtsetlim_any {w : World} {b N : Nat} {R : List Pr} (h : Doc w b R N w) (hN : N + 1 ≤ 100000000) (a d : ByteArray) (v : LimV) (hv : v.ok) (ha : a.size ≤ 100000000) (hd : d.size ≤ 100000000) :
    Calls Tryz.prog 50 #[.pointer (some ⟨b, 0, none⟩), .string a, .string d, v.val] w fun e w' => e = .returned (.tuple #[]) ∧ Doc w b (setLim R a d v) (N + 1) w' := by
  obtain ⟨q, wn, sn, u⟩ := v
  obtain ⟨hq, hu, hwn, hsn⟩ := hv
  dsimp only at hq hu hwn hsn
  unfold LimV.val
  dsimp only
  have hbox := heap_alloc_new w (.cells #[.int .u64 (q.a : Int), .int .u64 (q.b : Int), .int .u64 (q.c : Int), .int .u64 (q.d : Int), .int .u64 (wn : Int), .int .u64 (sn : Int), .int .u64 (u.a : Int), .int .u64 (u.b : Int), .int .u64 (u.c : Int), .int .u64 (u.d : Int)] 95)
  have ha0 : Below w.heap.size w (w.alloc (.cells #[.int .u64 (q.a : Int), .int .u64 (q.b : Int), .int .u64 (q.c : Int), .int .u64 (q.d : Int), .int .u64 (wn : Int), .int .u64 (sn : Int), .int .u64 (u.a : Int), .int .u64 (u.b : Int), .int .u64 (u.c : Int), .int .u64 (u.d : Int)] 95)) := (Below.refl _ _).alloc (Nat.le_refl _) _
  have A0 := h.up ha0
  clear h
  generalize hW0 : w.alloc (.cells #[.int .u64 (q.a : Int), .int .u64 (q.b : Int), .int .u64 (q.c : Int), .int .u64 (q.d : Int), .int .u64 (wn : Int), .int .u64 (sn : Int), .int .u64 (u.a : Int), .int .u64 (u.b : Int), .int .u64 (u.c : Int), .int .u64 (u.d : Int)] 95) = W0 at *
  have hgl := blk_lt hbox
  have hnb : ¬ w.heap.size = b := DocS.ne_cellX A0.s (blk_cell hbox 0) (by simp) (by simp)
  generalize hgg : w.heap.size = g0 at *
  have HC : Hid (∀ Z, Chg W0 Z (fun k => k = b) → Z.cell? ⟨g0, 0, none⟩ = some (.int .u64 (q.a : Int)) ∧ Z.cell? ⟨g0, 1, none⟩ = some (.int .u64 (q.b : Int)) ∧ Z.cell? ⟨g0, 2, none⟩ = some (.int .u64 (q.c : Int)) ∧ Z.cell? ⟨g0, 3, none⟩ = some (.int .u64 (q.d : Int)) ∧ Z.cell? ⟨g0, 4, none⟩ = some (.int .u64 (wn : Int)) ∧ Z.cell? ⟨g0, 5, none⟩ = some (.int .u64 (sn : Int)) ∧ Z.cell? ⟨g0, 6, none⟩ = some (.int .u64 (u.a : Int)) ∧ Z.cell? ⟨g0, 7, none⟩ = some (.int .u64 (u.b : Int)) ∧ Z.cell? ⟨g0, 8, none⟩ = some (.int .u64 (u.c : Int)) ∧ Z.cell? ⟨g0, 9, none⟩ = some (.int .u64 (u.d : Int))) := Lib.hid fun Z hz =>
    ⟨blk_cell ((hz.block _ hgl hnb).trans hbox) 0, blk_cell ((hz.block _ hgl hnb).trans hbox) 1, blk_cell ((hz.block _ hgl hnb).trans hbox) 2, blk_cell ((hz.block _ hgl hnb).trans hbox) 3, blk_cell ((hz.block _ hgl hnb).trans hbox) 4, blk_cell ((hz.block _ hgl hnb).trans hbox) 5, blk_cell ((hz.block _ hgl hnb).trans hbox) 6, blk_cell ((hz.block _ hgl hnb).trans hbox) 7, blk_cell ((hz.block _ hgl hnb).trans hbox) 8, blk_cell ((hz.block _ hgl hnb).trans hbox) 9⟩
  have HK := Lib.hid (fun W => (rtlimkey_any a d W ha hd).mono fun e w' ⟨h1, h2⟩ => (⟨h1, h2.symm⟩ : _ ∧ w' = W))
  have HLq := Lib.hid (fun W : World => rbytes_any q W hq)
  have HLu := Lib.hid (fun W : World => rbytes_any u W hu)
  have eb := encB_len (be q.nat 32)
  have HB1 : Hid (∀ (x : Value) (Z : World) (B : Nat), Own Z B x (be q.nat 32) → Calls Tryz.prog 109 #[.slice none 0 0, x] Z fun e w' => ∃ v', e = .returned v' ∧ Own w' Z.heap.size v' (encB (be q.nat 32)) ∧ Below Z.heap.size Z w') :=
    Lib.hid fun x Z B ho => rB0 (.slice none 0 0) x [] _ Z (Rd.nil _ _) ho.rd (by simp)
  have HN1 : Hid (∀ (x : Value) (Z : World) (B : Nat), Own Z B x (encB (be q.nat 32)) → Calls Tryz.prog 58 #[x, .int .u64 (wn : Int)] Z fun e w' => ∃ v', e = .returned v' ∧ Own w' Z.heap.size v' (encB (be q.nat 32) ++ be wn 8) ∧ Below Z.heap.size Z w') :=
    Lib.hid fun x Z B ho => refN_any x _ wn Z ho.rd hwn (by omega)
  have HN2 : Hid (∀ (x : Value) (Z : World) (B : Nat), Own Z B x (encB (be q.nat 32) ++ be wn 8) → Calls Tryz.prog 58 #[x, .int .u64 (sn : Int)] Z fun e w' => ∃ v', e = .returned v' ∧ Own w' Z.heap.size v' (encB (be q.nat 32) ++ be wn 8 ++ be sn 8) ∧ Below Z.heap.size Z w') :=
    Lib.hid fun x Z B ho => refN_any x _ sn Z ho.rd hsn (by simp [be_length]; omega)
  have HB2 : Hid (∀ (v x : Value) (Z : World) (B C : Nat), Own Z B v (encB (be q.nat 32) ++ be wn 8 ++ be sn 8) → Own Z C x (be u.nat 32) → Calls Tryz.prog 109 #[v, x] Z fun e w' => ∃ v', e = .returned v' ∧ Own w' Z.heap.size v' (limB ⟨q, wn, sn, u⟩) ∧ Below Z.heap.size Z w') :=
    Lib.hid fun v x Z B C ho hx => rB0 v x _ _ Z ho.rd hx.rd (by simp [be_length]; omega)
  have HS : Hid (∀ (x : Value) (Z : World) (B : Nat), Below W0.heap.size W0 Z → Own Z B x (limB ⟨q, wn, sn, u⟩) → Calls Tryz.prog 66 #[.pointer (some ⟨b, 0, none⟩), .string (kLim a d), x] Z fun e w' => (∃ c, e = .returned (.int .i64 c)) ∧ Doc w b (setLim R a d ⟨q, wn, sn, u⟩) (N + 1) w' ∧ Chg Z w' (fun k => k = b)) :=
    Lib.hid fun x Z B hz ho => (A0.up hz).setLimG hN a d _ x ho (by rw [kLim_size]; unfold maxLen; omega)
  unfold U4.val U4.cells at HLq HLu
  generalize setLim R a d ⟨q, wn, sn, u⟩ = R2 at *
  generalize limB ⟨q, wn, sn, u⟩ = L4 at *
  generalize encB (be q.nat 32) ++ be wn 8 ++ be sn 8 = L3 at *
  generalize encB (be q.nat 32) ++ be wn 8 = L2 at *
  generalize encB (be q.nat 32) = L1 at *
  generalize be q.nat 32 = Lq at *
  generalize be u.nat 32 = Lu at *
  generalize kLim a d = key at *
  clear eb hq hu hwn hsn A0 hbox
  have hc0 : ∀ Z, Below W0.heap.size W0 Z → Chg W0 Z (fun k => k = b) := fun Z hz => .of_below hz _
  have HC0 := Lib.hid hc0
  clear hc0
  go_enter Tryz.func50, Tryz.ntmps50
  go_wp2_with fail
  try rw [hW0]
  clear hW0
  have hkD : Below W0.heap.size W0 W0.drew := Below.drew (Below.refl _ _)
  try rw [hgg]
  go_region_held_law (fun Z => Z.cell? ⟨g0, 0, none⟩ = some (.int .u64 (q.a : Int)) ∧ Z.cell? ⟨g0, 1, none⟩ = some (.int .u64 (q.b : Int)) ∧ Z.cell? ⟨g0, 2, none⟩ = some (.int .u64 (q.c : Int)) ∧ Z.cell? ⟨g0, 3, none⟩ = some (.int .u64 (q.d : Int)) ∧ Z.cell? ⟨g0, 4, none⟩ = some (.int .u64 (wn : Int)) ∧ Z.cell? ⟨g0, 5, none⟩ = some (.int .u64 (sn : Int)) ∧ Z.cell? ⟨g0, 6, none⟩ = some (.int .u64 (u.a : Int)) ∧ Z.cell? ⟨g0, 7, none⟩ = some (.int .u64 (u.b : Int)) ∧ Z.cell? ⟨g0, 8, none⟩ = some (.int .u64 (u.c : Int)) ∧ Z.cell? ⟨g0, 9, none⟩ = some (.int .u64 (u.d : Int)))
    (with_reducible first | exact HC.out _ hkF | exact HC.out _ (HC0.out _ hk6) | exact HC.out _ (HC0.out _ hk5) | exact HC.out _ (HC0.out _ hk4) | exact HC.out _ (HC0.out _ hk3) | exact HC.out _ (HC0.out _ hk2) | exact HC.out _ (HC0.out _ hk1) | exact HC.out _ (HC0.out _ hkD))
    ((first
      | (go_at_call 118; refine (HK.out _).mono ?_; rintro e w9 ⟨rfl, rfl⟩)
      | (go_at_call 66; refine (HS.out _ _ _ hk6 ho6).mono ?_; rintro e w7 ⟨⟨c7, rfl⟩, AS, hkS⟩; have hkF := (HC0.out _ hk6).trans' hkS)
      | (go_at_call 109; first
          | (refine (HB2.out _ _ _ _ _ (Own.below ho4 hb5) ho5).mono ?_; rintro e w6 ⟨v6, rfl, ho6, hb6⟩; have hk6 := below_chain hk5 hk5.size hb6)
          | (refine (HB1.out _ _ _ ho1).mono ?_; rintro e w2 ⟨v2, rfl, ho2, hb2⟩; have hk2 := below_chain hk1 hk1.size hb2))
      | (go_at_call 58; first
          | (refine (HN2.out _ _ _ ho3).mono ?_; rintro e w4 ⟨v4, rfl, ho4, hb4⟩; have hk4 := below_chain hk3 hk3.size hb4)
          | (refine (HN1.out _ _ _ ho2).mono ?_; rintro e w3 ⟨v3, rfl, ho3, hb3⟩; have hk3 := below_chain hk2 hk2.size hb3))
      | (go_at_call 110; first
          | (have hq4 := hk4; refine (HLu.out _).mono ?_; rintro e w5 ⟨v5, rfl, ho5, hb5⟩; have hk5 := below_chain hk4 hk4.size hb5)
          | (refine (HLq.out _).mono ?_; rintro e w1 ⟨v1, rfl, ho1, hb1⟩; have hk1 := below_chain hkD hkD.size hb1))))
  all_goals
    go_wp2_with fail
    go_end0
    exact ⟨rfl, AS⟩
end Go.Proofs.YtlkkjnacolmmpaaGreatDoor
namespace Go.Proofs.YtlkkjnacolmmpaaGreatDoor
set_option maxRecDepth 100000
open Go Go.RowKit
set_option linter.unusedVariables false

theorem Tryz.rlimF : ∃ f0 f1 f2 f3 : Field, (Tryz.prog.fieldsOf 95).toList = [f0, f1, f2, f3] ∧ f0.type = 74 ∧ f1.type = 23 ∧ f2.type = 23 ∧ f3.type = 74 ∧ f0.offset = 0 ∧ f1.offset = 4 ∧ f2.offset = 5 ∧ f3.offset = 6 :=
  ⟨_, _, _, _, (by rfl), rfl, rfl, rfl, rfl, rfl, rfl, rfl, rfl⟩
theorem rlim_self (q : U4) (wn sn : Nat) (u : U4) : ∀ f ∈ (Tryz.prog.fieldsOf 95).toList, SelfF #[.int .u64 (q.a : Int), .int .u64 (q.b : Int), .int .u64 (q.c : Int), .int .u64 (q.d : Int), .int .u64 (wn : Int), .int .u64 (sn : Int), .int .u64 (u.a : Int), .int .u64 (u.b : Int), .int .u64 (u.c : Int), .int .u64 (u.d : Int)] f := by
  obtain ⟨f0, f1, f2, f3, hl, t0, t1, t2, t3, o0, o1, o2, o3⟩ := Tryz.rlimF
  rw [hl]
  intro f hf
  simp only [List.mem_cons, List.not_mem_nil, or_false] at hf
  rcases hf with rfl | rfl | rfl | rfl
  · exact self_u4 q t0 (fun w => by rw [o0]; rfl)
  · exact self_int (wn : Int) (by rw [t1]; exact Tryz.underlying23) (fun w => by rw [t1, o1]; rfl)
  · exact self_int (sn : Int) (by rw [t2]; exact Tryz.underlying23) (fun w => by rw [t2, o2]; rfl)
  · exact self_u4 u t3 (fun w => by rw [o3]; rfl)
theorem rlim_neq (q : U4) (wn sn : Nat) (u : U4) (W : World) : (binOp .neq 95 (.agg #[.int .u64 (q.a : Int), .int .u64 (q.b : Int), .int .u64 (q.c : Int), .int .u64 (q.d : Int), .int .u64 (wn : Int), .int .u64 (sn : Int), .int .u64 (u.a : Int), .int .u64 (u.b : Int), .int .u64 (u.c : Int), .int .u64 (u.d : Int)]) (.agg #[.int .u64 (q.a : Int), .int .u64 (q.b : Int), .int .u64 (q.c : Int), .int .u64 (q.d : Int), .int .u64 (wn : Int), .int .u64 (sn : Int), .int .u64 (u.a : Int), .int .u64 (u.b : Int), .int .u64 (u.c : Int), .int .u64 (u.d : Int)])).run Tryz.prog W = .ok (.bool false) W :=
  neq_self (by kernel_rfl) (by kernel_rfl) (rlim_self q wn sn u) W
theorem readLim_ok {l : List UInt8} {v : LimV} (h : readLim l = some v) : v.ok := by
  unfold readLim at h
  generalize rB l 0 = P at *
  obtain ⟨b, l1, f1⟩ := P
  dsimp only at h
  have a2 := rN_lt l1 f1
  generalize rN l1 f1 = P at *
  obtain ⟨w, l2, f2⟩ := P
  dsimp only at h a2
  have a3 := rN_lt l2 f2
  generalize rN l2 f2 = P at *
  obtain ⟨s, l3, f3⟩ := P
  dsimp only at h a3
  generalize rB l3 f3 = P at *
  obtain ⟨c, l4, f4⟩ := P
  dsimp only at h
  split at h
  · have hv := Option.some.inj h
    subst hv
    exact ⟨fromU_ok _, fromU_ok _, a2, a3⟩
  · cases h
theorem limV_eq (o : Option LimV) : limV o = .tuple #[(o.getD LimV.none).val, .bool o.isSome] := by cases o <;> rfl
theorem getLim_ok (R : List Pr) (a d : ByteArray) : ((getLim R a d).getD LimV.none).ok := by
  cases e : getLim R a d with
  | none => exact ⟨zero_ok, zero_ok, by decide, by decide⟩
  | some v =>
    unfold getLim at e
    cases e2 : getL R (kLim a d) with
    | none => rw [e2] at e; cases e
    | some l => rw [e2] at e; exact readLim_ok e
section
variable {B : Nat} {y : Lyr} {b k : Nat} {Rp Rd : List Pr} {W W' : World}
theorem Two.accT (h : Two B y b Rp Rd k W) : ∃ n f, n ≤ y.n + k ∧ PileS W [⟨y.b, y.m, n, f⟩] ∧ Acc W ⟨y.b, y.m, n, f⟩ Rp 0 W := by
  obtain ⟨n, f, h1, h2, h3⟩ := h.p
  exact ⟨n, f, h3, h1, BankS.refl h1 h2, h1⟩
theorem Two.setlim (h : Two B y b Rp Rd k W) (hn : y.n + k + 2 ≤ 100000000) (a d : ByteArray) (v : LimV) (hv : v.ok) (ha : a.size ≤ 100000000) (hd : d.size ≤ 100000000) :
    Calls Tryz.prog 43 #[.pointer (some ⟨y.b, 0, none⟩), .string a, .string d, v.val] W fun e w' => e = .returned (.tuple #[]) ∧ Two B y b (setLim Rp a d v) Rd (k + 2) w' ∧ Chg W w' (FT y b) := by
  obtain ⟨n, f, h3, h1, A⟩ := h.accT
  refine (tsetlim_any A (show n + 0 < maxLen by unfold maxLen; omega) a d v hv ha hd).mono ?_
  rintro e w' ⟨he, hq, -⟩
  exact ⟨he, h.bankS h3 h1 (hq.moreT (show 0 + 1 ≤ 2 by omega)).b⟩
theorem Two.rsetlim (h : Two B y b Rp Rd k W) (hn : y.n + k + 2 ≤ 100000000) (a d : ByteArray) (v : LimV) (hv : v.ok) (ha : a.size ≤ 100000000) (hd : d.size ≤ 100000000) :
    Calls Tryz.prog 50 #[.pointer (some ⟨b, 0, none⟩), .string a, .string d, v.val] W fun e w' => e = .returned (.tuple #[]) ∧ Two B y b Rp (setLim Rd a d v) (k + 2) w' ∧ Chg W w' (FT y b) := by
  refine (rtsetlim_any h.doc (by omega) a d v hv ha hd).mono ?_
  rintro e w' ⟨he, hq⟩
  exact ⟨he, h.docS (hq.more (by omega))⟩
end

set_option maxHeartbeats 16000000 in
theorem tlimits_law (w : World) (v0 : Value) (ps : List Pr) (hps : RdP w w.heap.size v0 ps) (hnl : ∀ p ∈ ps, p.1.size ≤ maxLen) (hvl : ∀ p ∈ ps, p.2.length ≤ 2000000) (hpl : ps.length ≤ 2000000)
    (a d : ByteArray) (ha : a.size ≤ 10000000) (hd : d.size ≤ 10000000) :
    Calls Tryz.prog 8 #[v0, .string a, .string d] w fun e w' => e = .returned (.bool true) ∧ Below w.heap.size w w' := by
  have HN0 := Lib.hid (new_any w v0 ps hps hnl)
  have HN1 := Lib.hid (fun (W : World) (hb : Below w.heap.size w W) => rnew_doc W v0 ps (hps.kept (Kept.of_below hb)) hnl hvl hpl)
  have HV := Lib.hid (And.intro hnl (And.intro hvl hpl))
  have HE1 := Lib.hid (fun W : World => tesc_any a W (by omega))
  have HE2 := Lib.hid (fun W : World => rtesc_any a W (by omega))
  have HAD := Lib.hid (And.intro ha hd)
  obtain ⟨A0, c0, rfl⟩ : ∃ A c, v0 = .slice A ps.length c := RdP.form hps
  generalize kEsc a = ke at *
  clear hps hnl hvl hpl ha hd
  go_enter Tryz.func8, Tryz.ntmps8
  go_wp2_with fail
  refine HN0.out.mono ?_
  rintro e w1 ⟨⟨hor, rfl⟩ | ⟨hor, y, rfl, hyb, hym, hyn, hly, hri, hp1⟩, hb1⟩
  · have HO := Lib.hid hor
    clear hor
    go_wp2_with fail
    refine (HN1.out _ hb1).mono ?_
    rintro e w2 ⟨⟨-, rfl⟩ | ⟨h2, -⟩, hb2⟩
    rotate_left
    · rw [HO.out] at h2; cases h2
    have hq2 := below_chain hb1 hb1.size hb2
    go_wp2_with fail
    refine (tfixed_any _).mono ?_
    rintro e w3 ⟨rfl, hb3⟩
    have hq3 := below_chain hq2 hq2.size hb3
    go_wp2_with fail
    refine (tfixed_any _).mono ?_
    rintro e w4 ⟨rfl, hb4⟩
    have hq4 := below_chain hq3 hq3.size hb4
    go_wp2_with fail
    refine (HE1.out _).mono ?_
    rintro e w5 ⟨rfl, rfl⟩
    go_wp2_with fail
    refine (HE2.out _).mono ?_
    rintro e w5 ⟨rfl, rfl⟩
    go_wp2_with fail
    go_ret
    exact ⟨rfl, hq4⟩
  have HO := Lib.hid hor
  obtain ⟨yb, ym, yn, yf⟩ := y
  dsimp only at hyb hym hyn ⊢
  have HY := Lib.hid (And.intro hp1 (And.intro hly hri))
  have HYN := Lib.hid (show yn = ps.length from hyn)
  clear hyb hly hri hp1 HN0 hyn hor
  go_wp2_with fail
  refine (HN1.out _ hb1).mono ?_
  rintro e w2 ⟨⟨h2, -⟩ | ⟨-, b, rfl, hbb, hds⟩, hb2⟩
  · rw [HO.out] at h2; cases h2
  have hq2 := below_chain hb1 hb1.size hb2
  have T2 : Two w.heap.size ⟨yb, ym, yn, yf⟩ b ps ps 0 w2 := ⟨⟨yn, yf, HY.out.1.up hb2, seen_bot0 HY.out.2.1 HY.out.2.2 HV.out.1, Nat.le_refl _⟩, hds, Nat.le_of_eq HYN.out.symm, HV.out.2.1, hym, Nat.le_trans hb1.size hbb, Nat.le_trans hb1.size hb2.size⟩
  clear hb1 hb2 hbb hds HY hym HN1
  go_wp2_with fail
  refine (tfixed_any _).mono ?_
  rintro e w3 ⟨rfl, hb3⟩
  have T3 := T2.up hb3
  have hq3 := below_chain hq2 hq2.size hb3
  obtain ⟨n3, f3, -, -, A3⟩ := T3.accT
  have HG1 := Lib.hid (tgetlim_any A3 a d (by have := HAD.out.1; omega) (by have := HAD.out.2; omega))
  have HG2 := Lib.hid (fun (Z : World) (hz : Below w3.heap.size w3 Z) => rtgetlim_any ((T3.docR (show yn + 0 ≤ 100000000 by have := HYN.out; have := HV.out.2.2; omega)).up hz) a d (by have := HAD.out.1; omega) (by have := HAD.out.2; omega))
  rw [limV_eq] at HG1
  simp only [limV_eq] at HG2
  have hlo := getLim_ok ps a d
  generalize (getLim ps a d).isSome = ok at *
  generalize (getLim ps a d).getD LimV.none = lv at *
  obtain ⟨q, wn, sn, u⟩ := lv
  unfold LimV.val at HG1 HG2
  dsimp only at HG1 HG2
  obtain ⟨oq, ou, own, osn⟩ := hlo
  dsimp only at oq ou own osn
  obtain ⟨ua, hua⟩ : ∃ ua : Nat, ua = (u.a + 1) % 18446744073709551616 := ⟨_, rfl⟩
  have HOK : Hid ((⟨q, wn, sn, ⟨ua, u.b, u.c, u.d⟩⟩ : LimV).ok) := Lib.hid ⟨oq, ⟨by show ua < _; rw [hua]; exact Nat.mod_lt _ (by omega), ou.2.1, ou.2.2.1, ou.2.2.2⟩, own, osn⟩
  have hw1 : IntKind.u64.wrap ((u.a : Int) + 1) = ((ua : Nat) : Int) := by
    rw [hua]
    simp only [IntKind.wrap, IntKind.bits, IntKind.signed]
    simp
  have HW1 := Lib.hid hw1
  have hneq := fun W : World => rlim_neq q wn sn u W
  clear T2 hq2 hb3 A3 oq ou own osn hua hw1
  have HT3 := Lib.hid T3
  clear T3
  go_wp2_with fail
  refine HG1.out.mono ?_
  rintro e w4 ⟨rfl, hb4⟩
  have hb5 := hb4.alloc hb4.size (.cells #[.int .u64 (q.a : Int), .int .u64 (q.b : Int), .int .u64 (q.c : Int), .int .u64 (q.d : Int), .int .u64 (wn : Int), .int .u64 (sn : Int), .int .u64 (u.a : Int), .int .u64 (u.b : Int), .int .u64 (u.c : Int), .int .u64 (u.d : Int)] 78)
  have k1 := heap_alloc_new w4 (.cells #[.int .u64 (q.a : Int), .int .u64 (q.b : Int), .int .u64 (q.c : Int), .int .u64 (q.d : Int), .int .u64 (wn : Int), .int .u64 (sn : Int), .int .u64 (u.a : Int), .int .u64 (u.b : Int), .int .u64 (u.c : Int), .int .u64 (u.d : Int)] 78)
  have hgle := hb4.size
  clear HG1 hb4
  go_wp2_with fail
  generalize w4.alloc (.cells #[.int .u64 (q.a : Int), .int .u64 (q.b : Int), .int .u64 (q.c : Int), .int .u64 (q.d : Int), .int .u64 (wn : Int), .int .u64 (sn : Int), .int .u64 (u.a : Int), .int .u64 (u.b : Int), .int .u64 (u.c : Int), .int .u64 (u.d : Int)] 78) = w5 at *
  generalize w4.heap.size = g1 at *
  refine (HG2.out _ hb5).mono ?_
  rintro e w6 ⟨rfl, hb6⟩
  have hb7 := (below_chain hb5 hb5.size hb6).alloc (Nat.le_trans hb5.size hb6.size) (.cells #[.int .u64 (q.a : Int), .int .u64 (q.b : Int), .int .u64 (q.c : Int), .int .u64 (q.d : Int), .int .u64 (wn : Int), .int .u64 (sn : Int), .int .u64 (u.a : Int), .int .u64 (u.b : Int), .int .u64 (u.c : Int), .int .u64 (u.d : Int)] 95)
  have k2 := (hb6.block _ (blk_lt k1)).trans k1
  replace k1 := (Below.heap_alloc w6 (.cells #[.int .u64 (q.a : Int), .int .u64 (q.b : Int), .int .u64 (q.c : Int), .int .u64 (q.d : Int), .int .u64 (wn : Int), .int .u64 (sn : Int), .int .u64 (u.a : Int), .int .u64 (u.b : Int), .int .u64 (u.c : Int), .int .u64 (u.d : Int)] 95) _ (blk_lt k2)).trans k2
  replace k2 := heap_alloc_new w6 (.cells #[.int .u64 (q.a : Int), .int .u64 (q.b : Int), .int .u64 (q.c : Int), .int .u64 (q.d : Int), .int .u64 (wn : Int), .int .u64 (sn : Int), .int .u64 (u.a : Int), .int .u64 (u.b : Int), .int .u64 (u.c : Int), .int .u64 (u.d : Int)] 95)
  clear HG2 hb5 hb6
  have x0 := blk_cell k1 0
  have x1 := blk_cell k1 1
  have x2 := blk_cell k1 2
  have x3 := blk_cell k1 3
  have x4 := blk_cell k1 4
  have x5 := blk_cell k1 5
  have x6 := blk_cell k1 6
  have x7 := blk_cell k1 7
  have x8 := blk_cell k1 8
  have x9 := blk_cell k1 9
  have y0 := blk_cell k2 0
  have y1 := blk_cell k2 1
  have y2 := blk_cell k2 2
  have y3 := blk_cell k2 3
  have y4 := blk_cell k2 4
  have y5 := blk_cell k2 5
  have y6 := blk_cell k2 6
  have y7 := blk_cell k2 7
  have y8 := blk_cell k2 8
  have y9 := blk_cell k2 9
  clear k2
  have hf6 := blk_free k1 6
  go_wp2_with fail
  generalize w6.alloc (.cells #[.int .u64 (q.a : Int), .int .u64 (q.b : Int), .int .u64 (q.c : Int), .int .u64 (q.d : Int), .int .u64 (wn : Int), .int .u64 (sn : Int), .int .u64 (u.a : Int), .int .u64 (u.b : Int), .int .u64 (u.c : Int), .int .u64 (u.d : Int)] 95) = w7 at *
  refine (HE1.out _).mono ?_
  rintro e w8 ⟨rfl, rfl⟩
  go_wp2_with fail
  refine (HE2.out _).mono ?_
  rintro e w8 ⟨rfl, rfl⟩
  have k3 := blk_set k1 6 (.int .u64 (ua : Int))
  have hb8 : Below w3.heap.size w3 (w7.setCell ⟨g1, 6, none⟩ (.int .u64 (ua : Int))) := hb7.setCell hgle _
  clear HE1 HE2
  have hw2 := HW1.out
  go_wp2_with fail
  generalize w7.setCell ⟨g1, 6, none⟩ (.int .u64 (ua : Int)) = w8 at *
  have T8 := HT3.out.up hb8
  have hq8 := below_chain hq3 hq3.size hb8
  have hny : ¬ FT ⟨yb, ym, yn, yf⟩ b g1 := fun e => by
    rcases e with e | e
    · obtain ⟨n, f, h1, -, -⟩ := T8.p
      obtain ⟨es, c, e2⟩ := h1.1.maps _ rfl
      rw [show ym = g1 from e.symm] at e2
      rw [k3] at e2
      cases e2
    · exact DocS.ne_cell T8.d (blk_cell k3 0) (by simp) (by simp) e
  have HS1 := Lib.hid (T8.setlim (show yn + 0 + 2 ≤ 100000000 by have := HYN.out; have := HV.out.2.2; omega) a d _ HOK.out (by have := HAD.out.1; omega) (by have := HAD.out.2; omega))
  unfold LimV.val at HS1
  dsimp only at HS1
  have HT8 := Lib.hid T8
  clear T8 hb7 hb8 HT3 x0 y0 x1 y1 x2 y2 x3 y3 x4 y4 x5 y5 x6 y6 x7 y7 x8 y8 x9 y9
  refine HS1.out.mono ?_
  rintro e w9 ⟨rfl, T9, hc9⟩
  have hq9 := hq8.trans (HT8.out.below hc9)
  have k4 := (hc9.block _ (blk_lt k3) hny).trans k3
  have HS2 := Lib.hid (T9.rsetlim (show yn + (0 + 2) + 2 ≤ 100000000 by have := HYN.out; have := HV.out.2.2; omega) a d _ HOK.out (by have := HAD.out.1; omega) (by have := HAD.out.2; omega))
  unfold LimV.val at HS2
  dsimp only at HS2
  have HT9 := Lib.hid T9
  generalize setLim ps a d _ = qR at *
  clear T9 HS1 hc9
  have z0 := blk_cell k4 0
  have z1 := blk_cell k4 1
  have z2 := blk_cell k4 2
  have z3 := blk_cell k4 3
  have z4 := blk_cell k4 4
  have z5 := blk_cell k4 5
  have z6 := blk_cell k4 6
  have z7 := blk_cell k4 7
  have z8 := blk_cell k4 8
  have z9 := blk_cell k4 9
  go_wp2_with fail
  refine HS2.out.mono ?_
  rintro e w5' ⟨rfl, T5, hc5⟩
  have hb := hq9.trans (HT9.out.below hc5)
  clear z0 z1 z2 z3 z4 z5 z6 z7 z8 z9 HS2 hc5 k4 k3 hny
  obtain ⟨m, f, hm, hri, hA⟩ := T5.acc
  have hm' : m ≤ 100000000 := by have : m ≤ yn + (0 + 2 + 2) := hm; have := HYN.out; have := HV.out.2.2; omega
  have hsm : ∀ p ∈ qR, p.1.size ≤ maxLen := by obtain ⟨_, _, _, h2, _⟩ := T5.p; exact h2.small
  have HPA := Lib.hid (hA.pairs (show m + 0 ≤ 1000000000 by omega) ⟨#[]⟩ (by decide +kernel))
  have HPB := Lib.hid (fun (Z : World) (hz : Below w5'.heap.size w5' Z) => rpairs_any ((T5.docR (show yn + (0 + 2 + 2) ≤ 100000000 by have := HYN.out; have := HV.out.2.2; omega)).up hz) ⟨#[]⟩ (by decide +kernel) hsm)
  rw [filter_all] at HPA HPB
  obtain ⟨rl, hrl⟩ : ∃ rl, rl = qR.length := ⟨_, rfl⟩
  have HRL := Lib.hid hrl
  clear T5 hm hri hA hsm hrl HT9 HT8
  go_wp2_with fail
  refine HPA.out.mono ?_
  rintro e w6' ⟨v4, rfl, ho4, hb4⟩
  have hr4 := ho4.rdP
  obtain ⟨A4, c4, hv4⟩ : ∃ A c, v4 = .slice A rl c := by rw [HRL.out]; exact ho4.form
  subst hv4
  have HV4 := Lib.hid hr4
  clear ho4 hr4
  go_wp2_with fail
  refine (HPB.out _ hb4).mono ?_
  rintro e w7' ⟨v5, rfl, hr5, hb5⟩
  have HSA := Lib.hid (samePs_any w7' (.slice A4 rl c4) v5 qR qR (HV4.out.kept (Kept.of_below hb5)) hr5)
  obtain ⟨A5, c5, hv5⟩ : ∃ A c, v5 = .slice A rl c := by rw [HRL.out]; exact RdP.form hr5
  subst hv5
  clear hr5
  go_wp2_with fail
  refine HSA.out.mono ?_
  rintro e w8' ⟨rfl, hb6⟩
  have hbb := below_chain (below_chain hb4 hb4.size hb5) (Nat.le_trans hb4.size hb5.size) hb6
  have hq := below_chain hb hb.size hbb
  simp only [decide_true]
  go_wp2_with fail
  go_ret
  exact ⟨rfl, hq⟩
end Go.Proofs.YtlkkjnacolmmpaaGreatDoor
