
/- The walk of a limit being read. The walk of a limit being kept. -/
import Derived.Test.YtlkkjnacolmmpaaGreatDoorTraP0
namespace Go.Proofs.YtlkkjnacolmmpaaGreatDoor
set_option maxRecDepth 100000
open Go Go.RowKit
set_option linter.unusedVariables false

def LimV.val (v : LimV) : Value := .agg #[.int .u64 (v.q.a : Int), .int .u64 (v.q.b : Int), .int .u64 (v.q.c : Int), .int .u64 (v.q.d : Int), .int .u64 (v.w : Int), .int .u64 (v.s : Int), .int .u64 (v.u.a : Int), .int .u64 (v.u.b : Int), .int .u64 (v.u.c : Int), .int .u64 (v.u.d : Int)]
def limV : Option LimV → Value
  | some v => .tuple #[v.val, .bool true]
  | none => .tuple #[LimV.none.val, .bool false]
theorem kLim_size (a d : ByteArray) : (kLim a d).size = a.size + d.size + 7 := by
  unfold kLim
  simp only [ByteArray.size_append]
  have h1 : limP.size = 6 := by decide +kernel
  have h2 : slB.size = 1 := by decide +kernel
  omega
set_option maxHeartbeats 8000000 in
theorem tgetlim_any {W w : World} {y : Lyr} {R : List Pr} {k : Nat} (h : Acc W y R k w) (a d : ByteArray) (ha : a.size ≤ 100000000) (hd : d.size ≤ 100000000) :
    Calls Tryz.prog 44 #[.pointer (some ⟨y.b, 0, none⟩), .string a, .string d] w fun e w' => e = .returned (limV (getLim R a d)) ∧ Below w.heap.size w w' := by
  have HG := Lib.hid (fun (Z : World) (hz : Below w.heap.size w Z) => (h.up hz).get (kLim a d) (by rw [kLim_size]; unfold maxLen; omega))
  have HFT := Lib.hid (fun v e => (h.fits (key := kLim a d) (v := v) e).2)
  obtain ⟨B, hB⟩ : ∃ B : Addr, B = ⟨y.b, 0, none⟩ := ⟨_, rfl⟩
  rw [← hB] at HG ⊢
  clear hB h
  have HK := Lib.hid (fun W => (tlimkey_any a d W ha hd).mono fun e w' ⟨h1, h2⟩ => (⟨h1, h2.symm⟩ : _ ∧ w' = W))
  obtain ⟨V, hV⟩ : ∃ V, V = limV (getLim R a d) := ⟨_, rfl⟩
  rw [← hV]
  unfold getLim at hV
  generalize getL R (kLim a d) = o at *
  generalize kLim a d = key at *
  have hk0 := heap_alloc_new w (.cells #[.int .u64 0, .int .u64 0, .int .u64 0, .int .u64 0, .int .u64 0, .int .u64 0, .int .u64 0, .int .u64 0, .int .u64 0, .int .u64 0] 78)
  have ha0 : Below w.heap.size w (w.alloc (.cells #[.int .u64 0, .int .u64 0, .int .u64 0, .int .u64 0, .int .u64 0, .int .u64 0, .int .u64 0, .int .u64 0, .int .u64 0, .int .u64 0] 78)) := (Below.refl _ _).alloc (Nat.le_refl _) _
  go_enter Tryz.func44, Tryz.ntmps44
  go_wp2_with fail
  generalize w.alloc (.cells #[.int .u64 0, .int .u64 0, .int .u64 0, .int .u64 0, .int .u64 0, .int .u64 0, .int .u64 0, .int .u64 0, .int .u64 0, .int .u64 0] 78) = w0 at *
  refine (HK.out _).mono ?_
  rintro e w9 ⟨rfl, rfl⟩
  go_wp2_with fail
  refine (HG.out _ ha0).mono ?_
  rintro e w1 ⟨v, rfl, hov, hb1⟩
  have hq1 := below_chain ha0 ha0.size hb1
  have hk1 := (hb1.block _ (blk_lt hk0)).trans hk0
  have hl0 := blk_lt hk0
  obtain ⟨gr, hgr⟩ : ∃ gr, gr = w.heap.size := ⟨_, rfl⟩
  rw [← hgr] at hk1
  clear HG HK hk0 hb1
  cases o with
  | none =>
    have hv : V = .tuple #[LimV.none.val, .bool false] := hV
    obtain ⟨A, c, rfl⟩ := hov.form
    have r0 := blk_cell hk1 0
    have q0 := blk_free hk1 0
    have r1 := blk_cell hk1 1
    have q1 := blk_free hk1 1
    have r2 := blk_cell hk1 2
    have q2 := blk_free hk1 2
    have r3 := blk_cell hk1 3
    have q3 := blk_free hk1 3
    have r4 := blk_cell hk1 4
    have q4 := blk_free hk1 4
    have r5 := blk_cell hk1 5
    have q5 := blk_free hk1 5
    have r6 := blk_cell hk1 6
    have q6 := blk_free hk1 6
    have r7 := blk_cell hk1 7
    have q7 := blk_free hk1 7
    have r8 := blk_cell hk1 8
    have q8 := blk_free hk1 8
    have r9 := blk_cell hk1 9
    have q9 := blk_free hk1 9
    clear hov HFT hV
    subst hgr
    have hk7 := set10P hk1 (.int .u64 0) (.int .u64 0) (.int .u64 0) (.int .u64 0) (.int .u64 0) (.int .u64 0) (.int .u64 0) (.int .u64 0) (.int .u64 0) (.int .u64 0)
    have hb7 := below_set10P hq1 (Nat.le_refl _) (.int .u64 0) (.int .u64 0) (.int .u64 0) (.int .u64 0) (.int .u64 0) (.int .u64 0) (.int .u64 0) (.int .u64 0) (.int .u64 0) (.int .u64 0)
    have HD := Lib.hid (And.intro (blk_cell hk7 0) (And.intro (blk_cell hk7 1) (And.intro (blk_cell hk7 2) (And.intro (blk_cell hk7 3) (And.intro (blk_cell hk7 4) (And.intro (blk_cell hk7 5) (And.intro (blk_cell hk7 6) (And.intro (blk_cell hk7 7) (And.intro (blk_cell hk7 8) (blk_cell hk7 9))))))))))
    have HVV := Lib.hid hv
    clear hk7 hv
    go_wp2_with fail
    obtain ⟨d0, d1, d2, d3, d4, d5, d6, d7, d8, d9⟩ := HD.out
    refine bodyPost_ret (v := V) ?_ rfl ⟨rfl, hb7⟩
    rw [HVV.out]
    simp at d0 d1 d2 d3 d4 d5 d6 d7 d8 d9
    simp [results, Tryz.results44, go_sem, d0, d1, d2, d3, d4, d5, d6, d7, d8, d9, LimV.val, LimV.none, U4.zero]
  | some l =>
    have hll := HFT.out l rfl
    have HV := Lib.hid (show V = limV (readLim l) from hV)
    unfold limV readLim at HV
    have HO := Lib.hid (open_rd v l w1 hov.rd (by omega))
    obtain ⟨A, c, rfl⟩ := hov.form
    clear hov HFT hV
    go_wp2_with fail
    refine HO.out.mono ?_
    rintro e w2 ⟨g, rfl, hr2, hb2⟩
    have hq2 := below_chain hq1 hq1.size hb2
    have hk2 := (hb2.block _ (blk_lt hk1)).trans hk1
    have hgl := hr2.lt
    have hlo := blk_lt hk1
    generalize w1.heap.size = lo at *
    clear HO hb2 hk1 hq1
    have HB0 := Lib.hid (rdB_any hr2)
    go_wp2_with fail
    refine HB0.out.mono ?_
    rintro e w3 ⟨vq_, rfl, hoq_, hr3, hg3⟩
    have hgi := hr2.from_
    have hq3 := hq2.grown hg3 hq2.size (fun k hk => by injection hk with hk; omega)
    have hk3 := (hg3.block _ (blk_lt hk2) (fun e => by injection e with e; omega)).trans hk2
    clear HB0 hr2 hg3 hq2 hk2
    generalize rB l 0 = Q at *
    obtain ⟨q_, l_q_, f_q_⟩ := Q
    dsimp only at hr3 HV hoq_ ⊢
    have HF := Lib.hid (from_any vq_ q_ _ hoq_.rd)
    obtain ⟨A_q, c_q, rfl⟩ := hoq_.form
    go_wp2_with fail
    refine HF.out.mono ?_
    rintro e w4 ⟨rfl, hb4⟩
    have hq4 := below_chain hq3 hq3.size hb4
    have hk4 := (hb4.block _ (blk_lt hk3)).trans hk3
    have hr4 := hr3.below hb4
    have hgs4 : g < w4.heap.size := hr4.lt
    have kq := fromU_ok q_
    clear HF hoq_ hq3 hk3 hr3 hb4
    generalize fromU q_ = Q at *
    obtain ⟨q, eq⟩ := Q
    dsimp only at HV kq ⊢
    unfold U4.val U4.cells
    obtain ⟨gd, hgd⟩ : ∃ gd, gd = w4.heap.size := ⟨_, rfl⟩
    have P1 : PZ 176 w gr gd lo g 78 74 #[.int .u64 0, .int .u64 0, .int .u64 0, .int .u64 0, .int .u64 0, .int .u64 0, .int .u64 0, .int .u64 0, .int .u64 0, .int .u64 0] #[.int .u64 (q.a : Int), .int .u64 (q.b : Int), .int .u64 (q.c : Int), .int .u64 (q.d : Int)] l_q_ f_q_ (w4.alloc (.cells #[.int .u64 (q.a : Int), .int .u64 (q.b : Int), .int .u64 (q.c : Int), .int .u64 (q.d : Int)] 74)) :=
      ⟨hq4.alloc hq4.size _, by omega, by have := hq4.size; omega, (Below.heap_alloc w4 _ _ (blk_lt hk4)).trans hk4, by rw [hgd]; exact heap_alloc_new w4 _, hr4.below ((Below.refl _ _).alloc (Nat.le_refl _) _), by omega, by omega⟩
    clear hq4 hk4 hr4 hgs4 hgl hlo hgi
    go_wp2_with fail
    rw [← hgd]
    generalize w4.alloc (.cells #[.int .u64 (q.a : Int), .int .u64 (q.b : Int), .int .u64 (q.c : Int), .int .u64 (q.d : Int)] 74) = wz at *
    clear hgd
    refine (rN_any P1.rd).mono ?_
    rintro e wa1 ⟨rfl, hr, hg⟩
    replace P1 := P1.call hg hr
    clear hr hg
    have b_wn := rN_lt l_q_ f_q_
    generalize rN l_q_ f_q_ = Q at *
    obtain ⟨wn, l_wn, f_wn⟩ := Q
    dsimp only at P1 HV b_wn ⊢
    go_wp2_with fail
    refine (rN_any P1.rd).mono ?_
    rintro e wa1 ⟨rfl, hr, hg⟩
    replace P1 := P1.call hg hr
    clear hr hg
    have b_sn := rN_lt l_wn f_wn
    generalize rN l_wn f_wn = Q at *
    obtain ⟨sn, l_sn, f_sn⟩ := Q
    dsimp only at P1 HV b_sn ⊢
    go_wp2_with fail
    refine (rdB_any P1.rd).mono ?_
    rintro e wa1 ⟨vu_, rfl, hou_, hr, hg⟩
    replace P1 := P1.call hg hr
    clear hr hg
    have b_u_ := rB_le l_sn f_sn
    generalize rB l_sn f_sn = Q at *
    obtain ⟨u_, l_u_, f_u_⟩ := Q
    dsimp only at P1 HV b_u_ hou_ ⊢
    have HF := Lib.hid (from_any vu_ u_ _ hou_.rd)
    obtain ⟨A_u, c_u, rfl⟩ := hou_.form
    go_wp2_with fail
    refine HF.out.mono ?_
    rintro e wuu ⟨rfl, hb5⟩
    replace P1 := P1.up hb5
    clear hb5 HF hou_
    have ku := fromU_ok u_
    generalize fromU u_ = Q at *
    obtain ⟨u, eu⟩ := Q
    dsimp only at P1 HV ku ⊢
    unfold U4.val U4.cells
    have P2 := P1.alloc (.cells #[.int .u64 (u.a : Int), .int .u64 (u.b : Int), .int .u64 (u.c : Int), .int .u64 (u.d : Int)] 74)
    have hu := heap_alloc_new wuu (.cells #[.int .u64 (u.a : Int), .int .u64 (u.b : Int), .int .u64 (u.c : Int), .int .u64 (u.d : Int)] 74)
    clear P1
    have u0 := blk_cell hu 0
    have u1 := blk_cell hu 1
    have u2 := blk_cell hu 2
    have u3 := blk_cell hu 3
    go_wp2_with fail
    generalize wuu.alloc (.cells #[.int .u64 (u.a : Int), .int .u64 (u.b : Int), .int .u64 (u.c : Int), .int .u64 (u.d : Int)] 74) = wcu at *
    refine (rdEnd_any P2.rd).mono ?_
    rintro e w7 ⟨rfl, rfl⟩
    generalize rEnd l_u_ f_u_ = E at *
    subst hgr
    by_cases hE : E = 0
    · subst hE
      by_cases hq : eq = 0
      · subst hq
        by_cases hu0 : eu = 0
        · subst hu0
          have hv := HV.out
          rw [if_pos (by simp)] at hv
          dsimp only at hv
          clear HV
          have r0 := blk_cell P2.res 0
          have q0 := blk_free P2.res 0
          have r1 := blk_cell P2.res 1
          have q1 := blk_free P2.res 1
          have r2 := blk_cell P2.res 2
          have q2 := blk_free P2.res 2
          have r3 := blk_cell P2.res 3
          have q3 := blk_free P2.res 3
          have r4 := blk_cell P2.res 4
          have q4 := blk_free P2.res 4
          have r5 := blk_cell P2.res 5
          have q5 := blk_free P2.res 5
          have r6 := blk_cell P2.res 6
          have q6 := blk_free P2.res 6
          have r7 := blk_cell P2.res 7
          have q7 := blk_free P2.res 7
          have r8 := blk_cell P2.res 8
          have q8 := blk_free P2.res 8
          have r9 := blk_cell P2.res 9
          have q9 := blk_free P2.res 9
          have s0 := blk_cell P2.loc 0
          have s1 := blk_cell P2.loc 1
          have s2 := blk_cell P2.loc 2
          have s3 := blk_cell P2.loc 3
          have t0 := blk_cell hu 0
          have t1 := blk_cell hu 1
          have t2 := blk_cell hu 2
          have t3 := blk_cell hu 3
          have hk7 := set10P P2.res (.int .u64 (q.a : Int)) (.int .u64 (q.b : Int)) (.int .u64 (q.c : Int)) (.int .u64 (q.d : Int)) (.int .u64 (wn : Int)) (.int .u64 (sn : Int)) (.int .u64 (u.a : Int)) (.int .u64 (u.b : Int)) (.int .u64 (u.c : Int)) (.int .u64 (u.d : Int))
          have hb7 := below_set10P P2.below P2.hr (.int .u64 (q.a : Int)) (.int .u64 (q.b : Int)) (.int .u64 (q.c : Int)) (.int .u64 (q.d : Int)) (.int .u64 (wn : Int)) (.int .u64 (sn : Int)) (.int .u64 (u.a : Int)) (.int .u64 (u.b : Int)) (.int .u64 (u.c : Int)) (.int .u64 (u.d : Int))
          have HD := Lib.hid (And.intro (blk_cell hk7 0) (And.intro (blk_cell hk7 1) (And.intro (blk_cell hk7 2) (And.intro (blk_cell hk7 3) (And.intro (blk_cell hk7 4) (And.intro (blk_cell hk7 5) (And.intro (blk_cell hk7 6) (And.intro (blk_cell hk7 7) (And.intro (blk_cell hk7 8) (blk_cell hk7 9))))))))))
          have HVV := Lib.hid hv
          clear hk7 hv
          go_wp2_with fail
          obtain ⟨d0, d1, d2, d3, d4, d5, d6, d7, d8, d9⟩ := HD.out
          refine bodyPost_ret (v := V) ?_ rfl ⟨rfl, hb7⟩
          rw [HVV.out]
          simp at d0 d1 d2 d3 d4 d5 d6 d7 d8 d9
          simp [results, Tryz.results44, go_sem, d0, d1, d2, d3, d4, d5, d6, d7, d8, d9, LimV.val, LimV.none, U4.zero]
        · have hne : (eu != 0) = true := by simpa using hu0
          have hv := HV.out
          rw [if_neg (by simp [hu0])] at hv
          dsimp only at hv
          clear HV
          have r0 := blk_cell P2.res 0
          have q0 := blk_free P2.res 0
          have r1 := blk_cell P2.res 1
          have q1 := blk_free P2.res 1
          have r2 := blk_cell P2.res 2
          have q2 := blk_free P2.res 2
          have r3 := blk_cell P2.res 3
          have q3 := blk_free P2.res 3
          have r4 := blk_cell P2.res 4
          have q4 := blk_free P2.res 4
          have r5 := blk_cell P2.res 5
          have q5 := blk_free P2.res 5
          have r6 := blk_cell P2.res 6
          have q6 := blk_free P2.res 6
          have r7 := blk_cell P2.res 7
          have q7 := blk_free P2.res 7
          have r8 := blk_cell P2.res 8
          have q8 := blk_free P2.res 8
          have r9 := blk_cell P2.res 9
          have q9 := blk_free P2.res 9
          have hk7 := set10P P2.res (.int .u64 0) (.int .u64 0) (.int .u64 0) (.int .u64 0) (.int .u64 0) (.int .u64 0) (.int .u64 0) (.int .u64 0) (.int .u64 0) (.int .u64 0)
          have hb7 := below_set10P P2.below P2.hr (.int .u64 0) (.int .u64 0) (.int .u64 0) (.int .u64 0) (.int .u64 0) (.int .u64 0) (.int .u64 0) (.int .u64 0) (.int .u64 0) (.int .u64 0)
          have HD := Lib.hid (And.intro (blk_cell hk7 0) (And.intro (blk_cell hk7 1) (And.intro (blk_cell hk7 2) (And.intro (blk_cell hk7 3) (And.intro (blk_cell hk7 4) (And.intro (blk_cell hk7 5) (And.intro (blk_cell hk7 6) (And.intro (blk_cell hk7 7) (And.intro (blk_cell hk7 8) (blk_cell hk7 9))))))))))
          have HVV := Lib.hid hv
          clear hk7 hv
          go_wp2_with fail
          obtain ⟨d0, d1, d2, d3, d4, d5, d6, d7, d8, d9⟩ := HD.out
          refine bodyPost_ret (v := V) ?_ rfl ⟨rfl, hb7⟩
          rw [HVV.out]
          simp at d0 d1 d2 d3 d4 d5 d6 d7 d8 d9
          simp [results, Tryz.results44, go_sem, d0, d1, d2, d3, d4, d5, d6, d7, d8, d9, LimV.val, LimV.none, U4.zero]
      · have hne : (eq != 0) = true := by simpa using hq
        have hv := HV.out
        rw [if_neg (by simp [hq])] at hv
        dsimp only at hv
        clear HV
        have r0 := blk_cell P2.res 0
        have q0 := blk_free P2.res 0
        have r1 := blk_cell P2.res 1
        have q1 := blk_free P2.res 1
        have r2 := blk_cell P2.res 2
        have q2 := blk_free P2.res 2
        have r3 := blk_cell P2.res 3
        have q3 := blk_free P2.res 3
        have r4 := blk_cell P2.res 4
        have q4 := blk_free P2.res 4
        have r5 := blk_cell P2.res 5
        have q5 := blk_free P2.res 5
        have r6 := blk_cell P2.res 6
        have q6 := blk_free P2.res 6
        have r7 := blk_cell P2.res 7
        have q7 := blk_free P2.res 7
        have r8 := blk_cell P2.res 8
        have q8 := blk_free P2.res 8
        have r9 := blk_cell P2.res 9
        have q9 := blk_free P2.res 9
        have hk7 := set10P P2.res (.int .u64 0) (.int .u64 0) (.int .u64 0) (.int .u64 0) (.int .u64 0) (.int .u64 0) (.int .u64 0) (.int .u64 0) (.int .u64 0) (.int .u64 0)
        have hb7 := below_set10P P2.below P2.hr (.int .u64 0) (.int .u64 0) (.int .u64 0) (.int .u64 0) (.int .u64 0) (.int .u64 0) (.int .u64 0) (.int .u64 0) (.int .u64 0) (.int .u64 0)
        have HD := Lib.hid (And.intro (blk_cell hk7 0) (And.intro (blk_cell hk7 1) (And.intro (blk_cell hk7 2) (And.intro (blk_cell hk7 3) (And.intro (blk_cell hk7 4) (And.intro (blk_cell hk7 5) (And.intro (blk_cell hk7 6) (And.intro (blk_cell hk7 7) (And.intro (blk_cell hk7 8) (blk_cell hk7 9))))))))))
        have HVV := Lib.hid hv
        clear hk7 hv
        go_wp2_with fail
        obtain ⟨d0, d1, d2, d3, d4, d5, d6, d7, d8, d9⟩ := HD.out
        refine bodyPost_ret (v := V) ?_ rfl ⟨rfl, hb7⟩
        rw [HVV.out]
        simp at d0 d1 d2 d3 d4 d5 d6 d7 d8 d9
        simp [results, Tryz.results44, go_sem, d0, d1, d2, d3, d4, d5, d6, d7, d8, d9, LimV.val, LimV.none, U4.zero]
    · have hne : (E != 0) = true := by simpa using hE
      have hv := HV.out
      rw [if_neg (by simp [hE])] at hv
      dsimp only at hv
      clear HV
      have r0 := blk_cell P2.res 0
      have q0 := blk_free P2.res 0
      have r1 := blk_cell P2.res 1
      have q1 := blk_free P2.res 1
      have r2 := blk_cell P2.res 2
      have q2 := blk_free P2.res 2
      have r3 := blk_cell P2.res 3
      have q3 := blk_free P2.res 3
      have r4 := blk_cell P2.res 4
      have q4 := blk_free P2.res 4
      have r5 := blk_cell P2.res 5
      have q5 := blk_free P2.res 5
      have r6 := blk_cell P2.res 6
      have q6 := blk_free P2.res 6
      have r7 := blk_cell P2.res 7
      have q7 := blk_free P2.res 7
      have r8 := blk_cell P2.res 8
      have q8 := blk_free P2.res 8
      have r9 := blk_cell P2.res 9
      have q9 := blk_free P2.res 9
      have hk7 := set10P P2.res (.int .u64 0) (.int .u64 0) (.int .u64 0) (.int .u64 0) (.int .u64 0) (.int .u64 0) (.int .u64 0) (.int .u64 0) (.int .u64 0) (.int .u64 0)
      have hb7 := below_set10P P2.below P2.hr (.int .u64 0) (.int .u64 0) (.int .u64 0) (.int .u64 0) (.int .u64 0) (.int .u64 0) (.int .u64 0) (.int .u64 0) (.int .u64 0) (.int .u64 0)
      have HD := Lib.hid (And.intro (blk_cell hk7 0) (And.intro (blk_cell hk7 1) (And.intro (blk_cell hk7 2) (And.intro (blk_cell hk7 3) (And.intro (blk_cell hk7 4) (And.intro (blk_cell hk7 5) (And.intro (blk_cell hk7 6) (And.intro (blk_cell hk7 7) (And.intro (blk_cell hk7 8) (blk_cell hk7 9))))))))))
      have HVV := Lib.hid hv
      clear hk7 hv
      go_wp2_with fail
      obtain ⟨d0, d1, d2, d3, d4, d5, d6, d7, d8, d9⟩ := HD.out
      refine bodyPost_ret (v := V) ?_ rfl ⟨rfl, hb7⟩
      rw [HVV.out]
      simp at d0 d1 d2 d3 d4 d5 d6 d7 d8 d9
      simp [results, Tryz.results44, go_sem, d0, d1, d2, d3, d4, d5, d6, d7, d8, d9, LimV.val, LimV.none, U4.zero]
end Go.Proofs.YtlkkjnacolmmpaaGreatDoor
namespace Go.Proofs.YtlkkjnacolmmpaaGreatDoor
set_option maxRecDepth 100000
open Go Go.RowKit
set_option linter.unusedVariables false

theorem limB_len (v : LimV) : (limB v).length ≤ 65535 := by
  unfold limB
  rw [encB32, encB32]
  simp [be_length]
theorem pairB_lim (a d : ByteArray) (v : LimV) : pairB (kLim a d, limB v) = keyB (kLim a d) := by
  unfold pairB
  rw [decide_eq_true (limB_len v), Bool.and_true]
theorem Acc.setLimG {W w : World} {y : Lyr} {R : List Pr} {k : Nat} (h : Acc W y R k w) (hn : y.n + k < maxLen) (a d : ByteArray) (v : LimV) (x : Value) {B : Nat} (ho : Own w B x (limB v)) (hk : (kLim a d).size ≤ maxLen) :
    Calls Tryz.prog 52 #[.pointer (some ⟨y.b, 0, none⟩), .string (kLim a d), x] w fun e w' => (∃ c, e = .returned (.int .i64 c)) ∧ Acc W y (setLim R a d v) (k + 1) w' ∧ Kept w w' := by
  unfold setLim
  rw [← pairB_lim a d v]
  by_cases hp : pairB (kLim a d, limB v) = true
  · rw [if_pos hp]
    exact (h.set hn (kLim a d) hk x (limB v) ho.rd hp).mono fun e w' ⟨h1, h2, h3⟩ => ⟨⟨_, h1⟩, h2, h3⟩
  · rw [if_neg hp]
    obtain ⟨n, f, h1, h2, h3, h4⟩ := h.b
    refine (set_no h1 (show n < maxLen by omega) (kLim a d) hk x (limB v) ho.rd (by simpa using hp)).mono ?_
    rintro e w' ⟨he, rfl⟩
    exact ⟨⟨_, he⟩, h.moreT (by omega), Kept.refl _⟩

set_option maxHeartbeats 8000000 in
theorem tsetlim_any {W w : World} {y : Lyr} {R : List Pr} {k : Nat} (h : Acc W y R k w) (hn : y.n + k < maxLen) (a d : ByteArray) (v : LimV) (hv : v.ok) (ha : a.size ≤ 100000000) (hd : d.size ≤ 100000000) :
    Calls Tryz.prog 43 #[.pointer (some ⟨y.b, 0, none⟩), .string a, .string d, v.val] w fun e w' => e = .returned (.tuple #[]) ∧ Acc W y (setLim R a d v) (k + 1) w' ∧ Kept w w' := by
  obtain ⟨q, wn, sn, u⟩ := v
  obtain ⟨hq, hu, hwn, hsn⟩ := hv
  dsimp only at hq hu hwn hsn
  unfold LimV.val
  dsimp only
  have hbox := heap_alloc_new w (.cells #[.int .u64 (q.a : Int), .int .u64 (q.b : Int), .int .u64 (q.c : Int), .int .u64 (q.d : Int), .int .u64 (wn : Int), .int .u64 (sn : Int), .int .u64 (u.a : Int), .int .u64 (u.b : Int), .int .u64 (u.c : Int), .int .u64 (u.d : Int)] 78)
  have ha0 : Below w.heap.size w (w.alloc (.cells #[.int .u64 (q.a : Int), .int .u64 (q.b : Int), .int .u64 (q.c : Int), .int .u64 (q.d : Int), .int .u64 (wn : Int), .int .u64 (sn : Int), .int .u64 (u.a : Int), .int .u64 (u.b : Int), .int .u64 (u.c : Int), .int .u64 (u.d : Int)] 78)) := (Below.refl _ _).alloc (Nat.le_refl _) _
  have A0 := h.up ha0
  clear h
  generalize hW0 : w.alloc (.cells #[.int .u64 (q.a : Int), .int .u64 (q.b : Int), .int .u64 (q.c : Int), .int .u64 (q.d : Int), .int .u64 (wn : Int), .int .u64 (sn : Int), .int .u64 (u.a : Int), .int .u64 (u.b : Int), .int .u64 (u.c : Int), .int .u64 (u.d : Int)] 78) = W0 at *
  have hgl := blk_lt hbox
  have hkW : Kept w W0 := Kept.of_below ha0
  generalize hgg : w.heap.size = g0 at *
  have HC : Hid (∀ Z, Kept W0 Z → Z.cell? ⟨g0, 0, none⟩ = some (.int .u64 (q.a : Int)) ∧ Z.cell? ⟨g0, 1, none⟩ = some (.int .u64 (q.b : Int)) ∧ Z.cell? ⟨g0, 2, none⟩ = some (.int .u64 (q.c : Int)) ∧ Z.cell? ⟨g0, 3, none⟩ = some (.int .u64 (q.d : Int)) ∧ Z.cell? ⟨g0, 4, none⟩ = some (.int .u64 (wn : Int)) ∧ Z.cell? ⟨g0, 5, none⟩ = some (.int .u64 (sn : Int)) ∧ Z.cell? ⟨g0, 6, none⟩ = some (.int .u64 (u.a : Int)) ∧ Z.cell? ⟨g0, 7, none⟩ = some (.int .u64 (u.b : Int)) ∧ Z.cell? ⟨g0, 8, none⟩ = some (.int .u64 (u.c : Int)) ∧ Z.cell? ⟨g0, 9, none⟩ = some (.int .u64 (u.d : Int))) := Lib.hid fun Z hz =>
    ⟨hz.cell (blk_cell hbox 0), hz.cell (blk_cell hbox 1), hz.cell (blk_cell hbox 2), hz.cell (blk_cell hbox 3), hz.cell (blk_cell hbox 4), hz.cell (blk_cell hbox 5), hz.cell (blk_cell hbox 6), hz.cell (blk_cell hbox 7), hz.cell (blk_cell hbox 8), hz.cell (blk_cell hbox 9)⟩
  have HK := Lib.hid (fun W => (tlimkey_any a d W ha hd).mono fun e w' ⟨h1, h2⟩ => (⟨h1, h2.symm⟩ : _ ∧ w' = W))
  have HLq := Lib.hid (fun W : World => bytes_any q W hq)
  have HLu := Lib.hid (fun W : World => bytes_any u W hu)
  have eb := encB_len (be q.nat 32)
  have HB1 : Hid (∀ (x : Value) (Z : World) (B : Nat), Own Z B x (be q.nat 32) → Calls Tryz.prog 107 #[.slice none 0 0, x] Z fun e w' => ∃ v', e = .returned v' ∧ Own w' Z.heap.size v' (encB (be q.nat 32)) ∧ Below Z.heap.size Z w') :=
    Lib.hid fun x Z B ho => B0 (.slice none 0 0) x [] _ Z (Rd.nil _ _) ho.rd (by simp)
  have HN1 : Hid (∀ (x : Value) (Z : World) (B : Nat), Own Z B x (encB (be q.nat 32)) → Calls Tryz.prog 56 #[x, .int .u64 (wn : Int)] Z fun e w' => ∃ v', e = .returned v' ∧ Own w' Z.heap.size v' (encB (be q.nat 32) ++ be wn 8) ∧ Below Z.heap.size Z w') :=
    Lib.hid fun x Z B ho => N_any x _ wn Z ho.rd hwn (by omega)
  have HN2 : Hid (∀ (x : Value) (Z : World) (B : Nat), Own Z B x (encB (be q.nat 32) ++ be wn 8) → Calls Tryz.prog 56 #[x, .int .u64 (sn : Int)] Z fun e w' => ∃ v', e = .returned v' ∧ Own w' Z.heap.size v' (encB (be q.nat 32) ++ be wn 8 ++ be sn 8) ∧ Below Z.heap.size Z w') :=
    Lib.hid fun x Z B ho => N_any x _ sn Z ho.rd hsn (by simp [be_length]; omega)
  have HB2 : Hid (∀ (v x : Value) (Z : World) (B C : Nat), Own Z B v (encB (be q.nat 32) ++ be wn 8 ++ be sn 8) → Own Z C x (be u.nat 32) → Calls Tryz.prog 107 #[v, x] Z fun e w' => ∃ v', e = .returned v' ∧ Own w' Z.heap.size v' (limB ⟨q, wn, sn, u⟩) ∧ Below Z.heap.size Z w') :=
    Lib.hid fun v x Z B C ho hx => B0 v x _ _ Z ho.rd hx.rd (by simp [be_length]; omega)
  have HS : Hid (∀ (x : Value) (Z : World) (B : Nat), Below W0.heap.size W0 Z → Own Z B x (limB ⟨q, wn, sn, u⟩) → Calls Tryz.prog 52 #[.pointer (some ⟨y.b, 0, none⟩), .string (kLim a d), x] Z fun e w' => (∃ c, e = .returned (.int .i64 c)) ∧ Acc W y (setLim R a d ⟨q, wn, sn, u⟩) (k + 1) w' ∧ Kept Z w') :=
    Lib.hid fun x Z B hz ho => (A0.up hz).setLimG hn a d _ x ho (by rw [kLim_size]; unfold maxLen; omega)
  unfold U4.val U4.cells at HLq HLu
  generalize setLim R a d ⟨q, wn, sn, u⟩ = R2 at *
  generalize limB ⟨q, wn, sn, u⟩ = L4 at *
  generalize encB (be q.nat 32) ++ be wn 8 ++ be sn 8 = L3 at *
  generalize encB (be q.nat 32) ++ be wn 8 = L2 at *
  generalize encB (be q.nat 32) = L1 at *
  generalize be q.nat 32 = Lq at *
  generalize be u.nat 32 = Lu at *
  generalize kLim a d = key at *
  clear eb hq hu hwn hsn A0 hbox
  go_enter Tryz.func43, Tryz.ntmps43
  go_wp2_with fail
  try rw [hW0]
  clear hW0
  have hkD : Below W0.heap.size W0 W0.drew := Below.drew (Below.refl _ _)
  try rw [hgg]
  go_region_held_law (fun Z => Z.cell? ⟨g0, 0, none⟩ = some (.int .u64 (q.a : Int)) ∧ Z.cell? ⟨g0, 1, none⟩ = some (.int .u64 (q.b : Int)) ∧ Z.cell? ⟨g0, 2, none⟩ = some (.int .u64 (q.c : Int)) ∧ Z.cell? ⟨g0, 3, none⟩ = some (.int .u64 (q.d : Int)) ∧ Z.cell? ⟨g0, 4, none⟩ = some (.int .u64 (wn : Int)) ∧ Z.cell? ⟨g0, 5, none⟩ = some (.int .u64 (sn : Int)) ∧ Z.cell? ⟨g0, 6, none⟩ = some (.int .u64 (u.a : Int)) ∧ Z.cell? ⟨g0, 7, none⟩ = some (.int .u64 (u.b : Int)) ∧ Z.cell? ⟨g0, 8, none⟩ = some (.int .u64 (u.c : Int)) ∧ Z.cell? ⟨g0, 9, none⟩ = some (.int .u64 (u.d : Int)))
    (with_reducible first | exact HC.out _ (Kept.of_below hk4) | exact HC.out _ (Kept.of_below hk3) | exact HC.out _ (Kept.of_below hk2) | exact HC.out _ (Kept.of_below hk1) | exact HC.out _ (Kept.of_below hkD))
    ((first
      | (go_at_call 108; refine (HLq.out _).mono ?_; rintro e w1 ⟨v1, rfl, ho1, hb1⟩; have hk1 := below_chain hkD hkD.size hb1)
      | (go_at_call 107; refine (HB1.out _ _ _ ho1).mono ?_; rintro e w2 ⟨v2, rfl, ho2, hb2⟩; have hk2 := below_chain hk1 hk1.size hb2)
      | (go_at_call 56; first
          | (refine (HN2.out _ _ _ ho3).mono ?_; rintro e w4 ⟨v4, rfl, ho4, hb4⟩; have hk4 := below_chain hk3 hk3.size hb4)
          | (refine (HN1.out _ _ _ ho2).mono ?_; rintro e w3 ⟨v3, rfl, ho3, hb3⟩; have hk3 := below_chain hk2 hk2.size hb3))))
  all_goals
    clear HLq HB1 HN1 HN2 ho3 ho2 ho1
    have hkE := Below.drew hk4
    have hoE : Own w4.drew _ v4 L3 := ho4
    obtain ⟨A4, c4, rfl⟩ := ho4.form
    generalize L3.length = n4 at *
    go_wp2_with fail
    go_region_held_law (fun Z => Z.cell? ⟨g0, 0, none⟩ = some (.int .u64 (q.a : Int)) ∧ Z.cell? ⟨g0, 1, none⟩ = some (.int .u64 (q.b : Int)) ∧ Z.cell? ⟨g0, 2, none⟩ = some (.int .u64 (q.c : Int)) ∧ Z.cell? ⟨g0, 3, none⟩ = some (.int .u64 (q.d : Int)) ∧ Z.cell? ⟨g0, 4, none⟩ = some (.int .u64 (wn : Int)) ∧ Z.cell? ⟨g0, 5, none⟩ = some (.int .u64 (sn : Int)) ∧ Z.cell? ⟨g0, 6, none⟩ = some (.int .u64 (u.a : Int)) ∧ Z.cell? ⟨g0, 7, none⟩ = some (.int .u64 (u.b : Int)) ∧ Z.cell? ⟨g0, 8, none⟩ = some (.int .u64 (u.c : Int)) ∧ Z.cell? ⟨g0, 9, none⟩ = some (.int .u64 (u.d : Int)))
      (with_reducible first | exact HC.out _ hkF | exact HC.out _ (Kept.of_below hk6) | exact HC.out _ (Kept.of_below hk5) | exact HC.out _ (Kept.of_below hkE))
      ((first
        | (go_at_call 111; refine (HK.out _).mono ?_; rintro e w9 ⟨rfl, rfl⟩)
        | (go_at_call 108; refine (HLu.out _).mono ?_; rintro e w5 ⟨v5, rfl, ho5, hb5⟩; have hk5 := below_chain hkE hkE.size hb5)
        | (go_at_call 107; refine (HB2.out _ _ _ _ _ (Own.below hoE hb5) ho5).mono ?_; rintro e w6 ⟨v6, rfl, ho6, hb6⟩; have hk6 := below_chain hk5 hk5.size hb6)
        | (go_at_call 52; refine (HS.out _ _ _ hk6 ho6).mono ?_; rintro e w7 ⟨⟨c7, rfl⟩, AS, hkS⟩; have hkF := (Kept.of_below hk6).trans hkS)))
    all_goals
      have hfin := hkW.trans hkF
      go_wp2_with fail
      go_end0
      exact ⟨rfl, AS, hfin⟩
end Go.Proofs.YtlkkjnacolmmpaaGreatDoor
