/- Texts joined: IcaG0. -/
import Derived.Test.YtpcoonnfaoakhaaGreatDoorM14
import Derived.Lib.ItoaNum
namespace Go.Proofs.YtpcoonnfaoakhaaGreatDoor
set_option maxRecDepth 100000
open Go Go.RowKit
set_option linter.unusedVariables false

theorem cnkey_any (a : ByteArray) (w : World) (ha : a.size ≤ 100000000) : Calls Tryz.prog 190 #[.string a] w fun e w' => e = .returned (.string (kConn a)) ∧ w = w' := by
  have s1 : connP.size = 9 := rfl
  have h1 := fun W => txt_add connP a (by rw [s1]; omega) W
  unfold kConn
  unfold connP at *
  go_enter Tryz.func190, Tryz.ntmps190
  go_wp2
  go_ret
  exact ⟨rfl, rfl⟩
theorem chkey_any (a : ByteArray) (w : World) (ha : a.size ≤ 100000000) : Calls Tryz.prog 34 #[.string a] w fun e w' => e = .returned (.string (kChn a)) ∧ w = w' := by
  have s1 : chanP.size = 9 := rfl
  have h1 := fun W => txt_add chanP a (by rw [s1]; omega) W
  unfold kChn
  unfold chanP at *
  go_enter Tryz.func34, Tryz.ntmps34
  go_wp2
  go_ret
  exact ⟨rfl, rfl⟩
set_option maxHeartbeats 8000000 in
theorem cnget_any {W w : World} {y : Lyr} {l : List Lyr} {R : List Pr} {k : Nat} (h : At W y l R k w) (a : ByteArray) (ha : a.size ≤ 100000000) :
    Calls Tryz.prog 151 #[.pointer (some ⟨y.b, 0, none⟩), .string a] w fun e w' => e = .returned (cnV (getCn R a)) ∧ Below w.heap.size w w' := by
  have HG := Lib.hid (fun (Z : World) (hz : Below w.heap.size w Z) => (h.up hz).get (kConn a) (by rw [kConn_size]; unfold maxLen; omega))
  have HFT : Hid (∀ v, getL R (kConn a) = some v → v.length ≤ 2000000) := Lib.hid (fun v e => Nat.le_trans (h.fits (key := kConn a) (v := v) e).2 (by decide))
  obtain ⟨B, hB⟩ : ∃ B : Addr, B = ⟨y.b, 0, none⟩ := ⟨_, rfl⟩
  rw [← hB] at HG ⊢
  clear hB h
  have HK := Lib.hid (fun W => (cnkey_any a W ha).mono fun e w' ⟨h1, h2⟩ => (⟨h1, h2.symm⟩ : _ ∧ w' = W))
  have HI : Hid (∀ Z : World, Calls Tryz.prog 59 #[.string a] Z fun e w' => e = .returned (.bool (identB a)) ∧ Z = w') := Lib.hid fun Z => ident_any a Z (by unfold maxLen; omega)
  obtain ⟨V, hV⟩ : ∃ V, V = cnV (getCn R a) := ⟨_, rfl⟩
  rw [← hV]
  unfold getCn at hV
  generalize getL R (kConn a) = o at *
  generalize kConn a = key at *
  generalize identB a = bi at *
  have hk0 := heap_alloc_new w (.cells #[.int .u64 0, .string ⟨#[]⟩, .string ⟨#[]⟩, .string ⟨#[]⟩] 62)
  have ha0 : Below w.heap.size w (w.alloc (.cells #[.int .u64 0, .string ⟨#[]⟩, .string ⟨#[]⟩, .string ⟨#[]⟩] 62)) := (Below.refl _ _).alloc (Nat.le_refl _) _
  go_enter Tryz.func151, Tryz.ntmps151
  go_wp2_with fail
  generalize w.alloc (.cells #[.int .u64 0, .string ⟨#[]⟩, .string ⟨#[]⟩, .string ⟨#[]⟩] 62) = w0 at *
  refine (HK.out _).mono ?_
  rintro e w9 ⟨rfl, rfl⟩
  go_wp2_with fail
  refine (HG.out _ ha0).mono ?_
  rintro e w1 ⟨v, rfl, hov, hb1⟩
  have hq1 := below_chain ha0 ha0.size hb1
  have hk1 := (hb1.block _ (blk_lt hk0)).trans hk0
  have hl0 := blk_lt hk0
  obtain ⟨gr, hgr⟩ : ∃ gr, gr = w.heap.size := ⟨_, rfl⟩
  rw [← hgr] at hk1
  clear HG HK ha0 hk0 hb1
  cases o with
  | none =>
    have hv : V = .tuple #[CnV.none.val, .bool false] := by rw [hV]; cases bi <;> rfl
    obtain ⟨A, c, rfl⟩ := hov.form
    have r0 := blk_cell hk1 0
    have q0 := blk_free hk1 0
    have r1 := blk_cell hk1 1
    have q1 := blk_free hk1 1
    have r2 := blk_cell hk1 2
    have q2 := blk_free hk1 2
    have r3 := blk_cell hk1 3
    have q3 := blk_free hk1 3
    clear hov HFT hV HI
    subst hgr
    have hk7 := set4P hk1 (.int .u64 0) (.string ⟨#[]⟩) (.string ⟨#[]⟩) (.string ⟨#[]⟩)
    have hb7 := below_set4P hq1 (Nat.le_refl _) (.int .u64 0) (.string ⟨#[]⟩) (.string ⟨#[]⟩) (.string ⟨#[]⟩)
    have HD := Lib.hid (And.intro (blk_cell hk7 0) (And.intro (blk_cell hk7 1) (And.intro (blk_cell hk7 2) (blk_cell hk7 3))))
    have HVV := Lib.hid hv
    clear hk7 hv
    go_wp2_with fail
    obtain ⟨d0, d1, d2, d3⟩ := HD.out
    refine bodyPost_ret (v := V) ?_ rfl ⟨rfl, hb7⟩
    rw [HVV.out]
    simp at d0 d1 d2 d3
    simp [results, Tryz.results151, go_sem, d0, d1, d2, d3, CnV.val, CnV.none]
  | some l =>
    have hll := HFT.out l rfl
    have HO := Lib.hid (open_rd v l w1 hov.rd (by omega))
    obtain ⟨A, c, rfl⟩ := hov.form
    clear hov HFT
    go_wp2_with fail
    refine (HI.out _).mono ?_
    rintro e w9 ⟨rfl, rfl⟩
    clear HI
    cases bi with
    | false =>
      have hv : V = .tuple #[CnV.none.val, .bool false] := by rw [hV]; rfl
      have r0 := blk_cell hk1 0
      have q0 := blk_free hk1 0
      have r1 := blk_cell hk1 1
      have q1 := blk_free hk1 1
      have r2 := blk_cell hk1 2
      have q2 := blk_free hk1 2
      have r3 := blk_cell hk1 3
      have q3 := blk_free hk1 3
      clear hV HO
      subst hgr
      have hk7 := set4P hk1 (.int .u64 0) (.string ⟨#[]⟩) (.string ⟨#[]⟩) (.string ⟨#[]⟩)
      have hb7 := below_set4P hq1 (Nat.le_refl _) (.int .u64 0) (.string ⟨#[]⟩) (.string ⟨#[]⟩) (.string ⟨#[]⟩)
      have HD := Lib.hid (And.intro (blk_cell hk7 0) (And.intro (blk_cell hk7 1) (And.intro (blk_cell hk7 2) (blk_cell hk7 3))))
      have HVV := Lib.hid hv
      clear hk7 hv
      go_wp2_with fail
      obtain ⟨d0, d1, d2, d3⟩ := HD.out
      refine bodyPost_ret (v := V) ?_ rfl ⟨rfl, hb7⟩
      rw [HVV.out]
      simp at d0 d1 d2 d3
      simp [results, Tryz.results151, go_sem, d0, d1, d2, d3, CnV.val, CnV.none]
    | true =>
      have HV := Lib.hid (show V = cnV (readCn l) from hV)
      unfold cnV readCn at HV
      clear hV
      go_wp2_with fail
      refine HO.out.mono ?_
      rintro e w2 ⟨g, rfl, hr2, hb2⟩
      have hq2 := below_chain hq1 hq1.size hb2
      have hk2 := (hb2.block _ (blk_lt hk1)).trans hk1
      have hgl := hr2.lt
      have hlo := blk_lt hk1
      generalize w1.heap.size = lo at *
      clear HO hb2 hk1 hq1
      have hgi := hr2.from_
      obtain ⟨gd, hgd⟩ : ∃ gd, gd = w2.heap.size := ⟨_, rfl⟩
      have P1 : PZ 170 w gr gd lo g 62 62 #[.int .u64 0, .string ⟨#[]⟩, .string ⟨#[]⟩, .string ⟨#[]⟩] #[.int .u64 0, .string ⟨#[]⟩, .string ⟨#[]⟩, .string ⟨#[]⟩] l 0 (w2.alloc (.cells #[.int .u64 0, .string ⟨#[]⟩, .string ⟨#[]⟩, .string ⟨#[]⟩] 62)) :=
        ⟨hq2.alloc hq2.size _, by omega, by have := hq2.size; omega, (Below.heap_alloc w2 _ _ (blk_lt hk2)).trans hk2, by rw [hgd]; exact heap_alloc_new w2 _, hr2.below ((Below.refl _ _).alloc (Nat.le_refl _) _), by omega, by omega⟩
      clear hq2 hk2 hr2 hgl hlo hgi
      go_wp2_with fail
      rw [← hgd]
      generalize w2.alloc (.cells #[.int .u64 0, .string ⟨#[]⟩, .string ⟨#[]⟩, .string ⟨#[]⟩] 62) = wz at *
      clear hgd
      refine (rN_any P1.rd).mono ?_
      rintro e wa1 ⟨rfl, hr, hg⟩
      replace P1 := P1.call hg hr
      clear hr hg
      have b_xa := rN_ltP l 0
      generalize rN l 0 = Q at *
      obtain ⟨xa, l_xa, f_xa⟩ := Q
      dsimp only at P1 HV b_xa ⊢
      have z0 := blk_cell P1.loc 0
      have f0 := blk_free P1.loc 0
      have P2 : PZ 170 w gr gd lo g _ 62 _ #[.int .u64 (xa : Int), .string ⟨#[]⟩, .string ⟨#[]⟩, .string ⟨#[]⟩] l_xa f_xa ((wa1).setCell ⟨gd, 0, none⟩ (.int .u64 (xa : Int))) := (P1.set 0 (.int .u64 (xa : Int)))
      clear P1
      go_wp2_with fail
      generalize (wa1).setCell ⟨gd, 0, none⟩ (.int .u64 (xa : Int)) = wb1 at *
      refine (rdT_any P2.rd).mono ?_
      rintro e wa2 ⟨rfl, hr, hg⟩
      replace P2 := P2.call hg hr
      clear hr hg
      have b_xb := rB_le l_xa f_xa
      generalize rB l_xa f_xa = Q at *
      obtain ⟨xb, l_xb, f_xb⟩ := Q
      dsimp only at P2 HV b_xb ⊢
      have z0 := blk_cell P2.loc 1
      have f0 := blk_free P2.loc 1
      have P3 : PZ 170 w gr gd lo g _ 62 _ #[.int .u64 (xa : Int), .string ⟨xb.toArray⟩, .string ⟨#[]⟩, .string ⟨#[]⟩] l_xb f_xb ((wa2).setCell ⟨gd, 1, none⟩ (.string ⟨xb.toArray⟩)) := (P2.set 1 (.string ⟨xb.toArray⟩))
      clear P2
      go_wp2_with fail
      generalize (wa2).setCell ⟨gd, 1, none⟩ (.string ⟨xb.toArray⟩) = wb2 at *
      refine (rdT_any P3.rd).mono ?_
      rintro e wa3 ⟨rfl, hr, hg⟩
      replace P3 := P3.call hg hr
      clear hr hg
      have b_xc := rB_le l_xb f_xb
      generalize rB l_xb f_xb = Q at *
      obtain ⟨xc, l_xc, f_xc⟩ := Q
      dsimp only at P3 HV b_xc ⊢
      have z0 := blk_cell P3.loc 2
      have f0 := blk_free P3.loc 2
      have P4 : PZ 170 w gr gd lo g _ 62 _ #[.int .u64 (xa : Int), .string ⟨xb.toArray⟩, .string ⟨xc.toArray⟩, .string ⟨#[]⟩] l_xc f_xc ((wa3).setCell ⟨gd, 2, none⟩ (.string ⟨xc.toArray⟩)) := (P3.set 2 (.string ⟨xc.toArray⟩))
      clear P3
      go_wp2_with fail
      generalize (wa3).setCell ⟨gd, 2, none⟩ (.string ⟨xc.toArray⟩) = wb3 at *
      refine (rdT_any P4.rd).mono ?_
      rintro e wa4 ⟨rfl, hr, hg⟩
      replace P4 := P4.call hg hr
      clear hr hg
      have b_xd := rB_le l_xc f_xc
      generalize rB l_xc f_xc = Q at *
      obtain ⟨xd, l_xd, f_xd⟩ := Q
      dsimp only at P4 HV b_xd ⊢
      have z0 := blk_cell P4.loc 3
      have f0 := blk_free P4.loc 3
      have P5 : PZ 170 w gr gd lo g _ 62 _ #[.int .u64 (xa : Int), .string ⟨xb.toArray⟩, .string ⟨xc.toArray⟩, .string ⟨xd.toArray⟩] l_xd f_xd ((wa4).setCell ⟨gd, 3, none⟩ (.string ⟨xd.toArray⟩)) := (P4.set 3 (.string ⟨xd.toArray⟩))
      clear P4
      go_wp2_with fail
      generalize (wa4).setCell ⟨gd, 3, none⟩ (.string ⟨xd.toArray⟩) = wb4 at *
      refine (rdEnd_any P5.rd).mono ?_
      rintro e w7 ⟨rfl, rfl⟩
      generalize rEnd l_xd f_xd = E at *
      subst hgr
      by_cases hE : E = 0
      · subst hE
        have hv := HV.out
        rw [if_pos rfl] at hv
        (try dsimp only at hv)
        clear HV
        have r0 := blk_cell P5.res 0
        have q0 := blk_free P5.res 0
        have r1 := blk_cell P5.res 1
        have q1 := blk_free P5.res 1
        have r2 := blk_cell P5.res 2
        have q2 := blk_free P5.res 2
        have r3 := blk_cell P5.res 3
        have q3 := blk_free P5.res 3
        have s0 := blk_cell P5.loc 0
        have s1 := blk_cell P5.loc 1
        have s2 := blk_cell P5.loc 2
        have s3 := blk_cell P5.loc 3
        have hk7 := set4P P5.res (.int .u64 (xa : Int)) (.string ⟨xb.toArray⟩) (.string ⟨xc.toArray⟩) (.string ⟨xd.toArray⟩)
        have hb7 := below_set4P P5.below P5.hr (.int .u64 (xa : Int)) (.string ⟨xb.toArray⟩) (.string ⟨xc.toArray⟩) (.string ⟨xd.toArray⟩)
        have HD := Lib.hid (And.intro (blk_cell hk7 0) (And.intro (blk_cell hk7 1) (And.intro (blk_cell hk7 2) (blk_cell hk7 3))))
        have HVV := Lib.hid hv
        clear hk7 hv
        go_wp2_with fail
        obtain ⟨d0, d1, d2, d3⟩ := HD.out
        refine bodyPost_ret (v := V) ?_ rfl ⟨rfl, hb7⟩
        rw [HVV.out]
        simp at d0 d1 d2 d3
        simp [results, Tryz.results151, go_sem, d0, d1, d2, d3, CnV.val, CnV.none]
      · have hne : (E != 0) = true := by simpa using hE
        have hv := HV.out
        rw [if_neg hE] at hv
        (try dsimp only at hv)
        clear HV
        have r0 := blk_cell P5.res 0
        have q0 := blk_free P5.res 0
        have r1 := blk_cell P5.res 1
        have q1 := blk_free P5.res 1
        have r2 := blk_cell P5.res 2
        have q2 := blk_free P5.res 2
        have r3 := blk_cell P5.res 3
        have q3 := blk_free P5.res 3
        have hk7 := set4P P5.res (.int .u64 0) (.string ⟨#[]⟩) (.string ⟨#[]⟩) (.string ⟨#[]⟩)
        have hb7 := below_set4P P5.below P5.hr (.int .u64 0) (.string ⟨#[]⟩) (.string ⟨#[]⟩) (.string ⟨#[]⟩)
        have HD := Lib.hid (And.intro (blk_cell hk7 0) (And.intro (blk_cell hk7 1) (And.intro (blk_cell hk7 2) (blk_cell hk7 3))))
        have HVV := Lib.hid hv
        clear hk7 hv
        go_wp2_with fail
        obtain ⟨d0, d1, d2, d3⟩ := HD.out
        refine bodyPost_ret (v := V) ?_ rfl ⟨rfl, hb7⟩
        rw [HVV.out]
        simp at d0 d1 d2 d3
        simp [results, Tryz.results151, go_sem, d0, d1, d2, d3, CnV.val, CnV.none]
set_option maxHeartbeats 8000000 in
theorem chget_any {W w : World} {y : Lyr} {l : List Lyr} {R : List Pr} {k : Nat} (h : At W y l R k w) (a : ByteArray) (ha : a.size ≤ 100000000) :
    Calls Tryz.prog 85 #[.pointer (some ⟨y.b, 0, none⟩), .string a] w fun e w' => e = .returned (chV (getCh R a)) ∧ Below w.heap.size w w' := by
  have HG := Lib.hid (fun (Z : World) (hz : Below w.heap.size w Z) => (h.up hz).get (kChn a) (by rw [kChn_size]; unfold maxLen; omega))
  have HFT : Hid (∀ v, getL R (kChn a) = some v → v.length ≤ 2000000) := Lib.hid (fun v e => Nat.le_trans (h.fits (key := kChn a) (v := v) e).2 (by decide))
  obtain ⟨B, hB⟩ : ∃ B : Addr, B = ⟨y.b, 0, none⟩ := ⟨_, rfl⟩
  rw [← hB] at HG ⊢
  clear hB h
  have HK := Lib.hid (fun W => (chkey_any a W ha).mono fun e w' ⟨h1, h2⟩ => (⟨h1, h2.symm⟩ : _ ∧ w' = W))
  have HI : Hid (∀ Z : World, Calls Tryz.prog 59 #[.string a] Z fun e w' => e = .returned (.bool (identB a)) ∧ Z = w') := Lib.hid fun Z => ident_any a Z (by unfold maxLen; omega)
  obtain ⟨V, hV⟩ : ∃ V, V = chV (getCh R a) := ⟨_, rfl⟩
  rw [← hV]
  unfold getCh at hV
  generalize getL R (kChn a) = o at *
  generalize kChn a = key at *
  generalize identB a = bi at *
  have hk0 := heap_alloc_new w (.cells #[.int .u64 0, .bool false, .string ⟨#[]⟩, .string ⟨#[]⟩, .string ⟨#[]⟩, .string ⟨#[]⟩, .string ⟨#[]⟩] 59)
  have ha0 : Below w.heap.size w (w.alloc (.cells #[.int .u64 0, .bool false, .string ⟨#[]⟩, .string ⟨#[]⟩, .string ⟨#[]⟩, .string ⟨#[]⟩, .string ⟨#[]⟩] 59)) := (Below.refl _ _).alloc (Nat.le_refl _) _
  go_enter Tryz.func85, Tryz.ntmps85
  go_wp2_with fail
  generalize w.alloc (.cells #[.int .u64 0, .bool false, .string ⟨#[]⟩, .string ⟨#[]⟩, .string ⟨#[]⟩, .string ⟨#[]⟩, .string ⟨#[]⟩] 59) = w0 at *
  refine (HK.out _).mono ?_
  rintro e w9 ⟨rfl, rfl⟩
  go_wp2_with fail
  refine (HG.out _ ha0).mono ?_
  rintro e w1 ⟨v, rfl, hov, hb1⟩
  have hq1 := below_chain ha0 ha0.size hb1
  have hk1 := (hb1.block _ (blk_lt hk0)).trans hk0
  have hl0 := blk_lt hk0
  obtain ⟨gr, hgr⟩ : ∃ gr, gr = w.heap.size := ⟨_, rfl⟩
  rw [← hgr] at hk1
  clear HG HK ha0 hk0 hb1
  cases o with
  | none =>
    have hv : V = .tuple #[ChV.none.val, .bool false] := by rw [hV]; cases bi <;> rfl
    obtain ⟨A, c, rfl⟩ := hov.form
    have r0 := blk_cell hk1 0
    have q0 := blk_free hk1 0
    have r1 := blk_cell hk1 1
    have q1 := blk_free hk1 1
    have r2 := blk_cell hk1 2
    have q2 := blk_free hk1 2
    have r3 := blk_cell hk1 3
    have q3 := blk_free hk1 3
    have r4 := blk_cell hk1 4
    have q4 := blk_free hk1 4
    have r5 := blk_cell hk1 5
    have q5 := blk_free hk1 5
    have r6 := blk_cell hk1 6
    have q6 := blk_free hk1 6
    clear hov HFT hV HI
    subst hgr
    have hk7 := set7P hk1 (.int .u64 0) (.bool false) (.string ⟨#[]⟩) (.string ⟨#[]⟩) (.string ⟨#[]⟩) (.string ⟨#[]⟩) (.string ⟨#[]⟩)
    have hb7 := below_set7P hq1 (Nat.le_refl _) (.int .u64 0) (.bool false) (.string ⟨#[]⟩) (.string ⟨#[]⟩) (.string ⟨#[]⟩) (.string ⟨#[]⟩) (.string ⟨#[]⟩)
    have HD := Lib.hid (And.intro (blk_cell hk7 0) (And.intro (blk_cell hk7 1) (And.intro (blk_cell hk7 2) (And.intro (blk_cell hk7 3) (And.intro (blk_cell hk7 4) (And.intro (blk_cell hk7 5) (blk_cell hk7 6)))))))
    have HVV := Lib.hid hv
    clear hk7 hv
    go_wp2_with fail
    obtain ⟨d0, d1, d2, d3, d4, d5, d6⟩ := HD.out
    refine bodyPost_ret (v := V) ?_ rfl ⟨rfl, hb7⟩
    rw [HVV.out]
    simp at d0 d1 d2 d3 d4 d5 d6
    simp [results, Tryz.results85, go_sem, d0, d1, d2, d3, d4, d5, d6, ChV.val, ChV.none]
  | some l =>
    have hll := HFT.out l rfl
    have HO := Lib.hid (open_rd v l w1 hov.rd (by omega))
    obtain ⟨A, c, rfl⟩ := hov.form
    clear hov HFT
    go_wp2_with fail
    refine (HI.out _).mono ?_
    rintro e w9 ⟨rfl, rfl⟩
    clear HI
    cases bi with
    | false =>
      have hv : V = .tuple #[ChV.none.val, .bool false] := by rw [hV]; rfl
      have r0 := blk_cell hk1 0
      have q0 := blk_free hk1 0
      have r1 := blk_cell hk1 1
      have q1 := blk_free hk1 1
      have r2 := blk_cell hk1 2
      have q2 := blk_free hk1 2
      have r3 := blk_cell hk1 3
      have q3 := blk_free hk1 3
      have r4 := blk_cell hk1 4
      have q4 := blk_free hk1 4
      have r5 := blk_cell hk1 5
      have q5 := blk_free hk1 5
      have r6 := blk_cell hk1 6
      have q6 := blk_free hk1 6
      clear hV HO
      subst hgr
      have hk7 := set7P hk1 (.int .u64 0) (.bool false) (.string ⟨#[]⟩) (.string ⟨#[]⟩) (.string ⟨#[]⟩) (.string ⟨#[]⟩) (.string ⟨#[]⟩)
      have hb7 := below_set7P hq1 (Nat.le_refl _) (.int .u64 0) (.bool false) (.string ⟨#[]⟩) (.string ⟨#[]⟩) (.string ⟨#[]⟩) (.string ⟨#[]⟩) (.string ⟨#[]⟩)
      have HD := Lib.hid (And.intro (blk_cell hk7 0) (And.intro (blk_cell hk7 1) (And.intro (blk_cell hk7 2) (And.intro (blk_cell hk7 3) (And.intro (blk_cell hk7 4) (And.intro (blk_cell hk7 5) (blk_cell hk7 6)))))))
      have HVV := Lib.hid hv
      clear hk7 hv
      go_wp2_with fail
      obtain ⟨d0, d1, d2, d3, d4, d5, d6⟩ := HD.out
      refine bodyPost_ret (v := V) ?_ rfl ⟨rfl, hb7⟩
      rw [HVV.out]
      simp at d0 d1 d2 d3 d4 d5 d6
      simp [results, Tryz.results85, go_sem, d0, d1, d2, d3, d4, d5, d6, ChV.val, ChV.none]
    | true =>
      have HV := Lib.hid (show V = chV (readCh l) from hV)
      unfold chV readCh at HV
      clear hV
      go_wp2_with fail
      refine HO.out.mono ?_
      rintro e w2 ⟨g, rfl, hr2, hb2⟩
      have hq2 := below_chain hq1 hq1.size hb2
      have hk2 := (hb2.block _ (blk_lt hk1)).trans hk1
      have hgl := hr2.lt
      have hlo := blk_lt hk1
      generalize w1.heap.size = lo at *
      clear HO hb2 hk1 hq1
      have hgi := hr2.from_
      obtain ⟨gd, hgd⟩ : ∃ gd, gd = w2.heap.size := ⟨_, rfl⟩
      have P1 : PZ 170 w gr gd lo g 59 59 #[.int .u64 0, .bool false, .string ⟨#[]⟩, .string ⟨#[]⟩, .string ⟨#[]⟩, .string ⟨#[]⟩, .string ⟨#[]⟩] #[.int .u64 0, .bool false, .string ⟨#[]⟩, .string ⟨#[]⟩, .string ⟨#[]⟩, .string ⟨#[]⟩, .string ⟨#[]⟩] l 0 (w2.alloc (.cells #[.int .u64 0, .bool false, .string ⟨#[]⟩, .string ⟨#[]⟩, .string ⟨#[]⟩, .string ⟨#[]⟩, .string ⟨#[]⟩] 59)) :=
        ⟨hq2.alloc hq2.size _, by omega, by have := hq2.size; omega, (Below.heap_alloc w2 _ _ (blk_lt hk2)).trans hk2, by rw [hgd]; exact heap_alloc_new w2 _, hr2.below ((Below.refl _ _).alloc (Nat.le_refl _) _), by omega, by omega⟩
      clear hq2 hk2 hr2 hgl hlo hgi
      go_wp2_with fail
      rw [← hgd]
      generalize w2.alloc (.cells #[.int .u64 0, .bool false, .string ⟨#[]⟩, .string ⟨#[]⟩, .string ⟨#[]⟩, .string ⟨#[]⟩, .string ⟨#[]⟩] 59) = wz at *
      clear hgd
      refine (rN_any P1.rd).mono ?_
      rintro e wa1 ⟨rfl, hr, hg⟩
      replace P1 := P1.call hg hr
      clear hr hg
      have b_xa := rN_ltP l 0
      generalize rN l 0 = Q at *
      obtain ⟨xa, l_xa, f_xa⟩ := Q
      dsimp only at P1 HV b_xa ⊢
      have z0 := blk_cell P1.loc 0
      have f0 := blk_free P1.loc 0
      have P2 : PZ 170 w gr gd lo g _ 59 _ #[.int .u64 (xa : Int), .bool false, .string ⟨#[]⟩, .string ⟨#[]⟩, .string ⟨#[]⟩, .string ⟨#[]⟩, .string ⟨#[]⟩] l_xa f_xa ((wa1).setCell ⟨gd, 0, none⟩ (.int .u64 (xa : Int))) := (P1.set 0 (.int .u64 (xa : Int)))
      clear P1
      go_wp2_with fail
      generalize (wa1).setCell ⟨gd, 0, none⟩ (.int .u64 (xa : Int)) = wb1 at *
      refine (rdF_any P2.rd).mono ?_
      rintro e wa2 ⟨rfl, hr, hg⟩
      replace P2 := P2.call hg hr
      clear hr hg
      generalize rF l_xa f_xa = Q at *
      obtain ⟨xb, l_xb, f_xb⟩ := Q
      dsimp only at P2 HV ⊢
      have z0 := blk_cell P2.loc 1
      have f0 := blk_free P2.loc 1
      have P3 : PZ 170 w gr gd lo g _ 59 _ #[.int .u64 (xa : Int), .bool xb, .string ⟨#[]⟩, .string ⟨#[]⟩, .string ⟨#[]⟩, .string ⟨#[]⟩, .string ⟨#[]⟩] l_xb f_xb ((wa2).setCell ⟨gd, 1, none⟩ (.bool xb)) := (P2.set 1 (.bool xb))
      clear P2
      go_wp2_with fail
      generalize (wa2).setCell ⟨gd, 1, none⟩ (.bool xb) = wb2 at *
      refine (rdT_any P3.rd).mono ?_
      rintro e wa3 ⟨rfl, hr, hg⟩
      replace P3 := P3.call hg hr
      clear hr hg
      have b_xc := rB_le l_xb f_xb
      generalize rB l_xb f_xb = Q at *
      obtain ⟨xc, l_xc, f_xc⟩ := Q
      dsimp only at P3 HV b_xc ⊢
      have z0 := blk_cell P3.loc 2
      have f0 := blk_free P3.loc 2
      have P4 : PZ 170 w gr gd lo g _ 59 _ #[.int .u64 (xa : Int), .bool xb, .string ⟨xc.toArray⟩, .string ⟨#[]⟩, .string ⟨#[]⟩, .string ⟨#[]⟩, .string ⟨#[]⟩] l_xc f_xc ((wa3).setCell ⟨gd, 2, none⟩ (.string ⟨xc.toArray⟩)) := (P3.set 2 (.string ⟨xc.toArray⟩))
      clear P3
      go_wp2_with fail
      generalize (wa3).setCell ⟨gd, 2, none⟩ (.string ⟨xc.toArray⟩) = wb3 at *
      refine (rdT_any P4.rd).mono ?_
      rintro e wa4 ⟨rfl, hr, hg⟩
      replace P4 := P4.call hg hr
      clear hr hg
      have b_xd := rB_le l_xc f_xc
      generalize rB l_xc f_xc = Q at *
      obtain ⟨xd, l_xd, f_xd⟩ := Q
      dsimp only at P4 HV b_xd ⊢
      have z0 := blk_cell P4.loc 3
      have f0 := blk_free P4.loc 3
      have P5 : PZ 170 w gr gd lo g _ 59 _ #[.int .u64 (xa : Int), .bool xb, .string ⟨xc.toArray⟩, .string ⟨xd.toArray⟩, .string ⟨#[]⟩, .string ⟨#[]⟩, .string ⟨#[]⟩] l_xd f_xd ((wa4).setCell ⟨gd, 3, none⟩ (.string ⟨xd.toArray⟩)) := (P4.set 3 (.string ⟨xd.toArray⟩))
      clear P4
      go_wp2_with fail
      generalize (wa4).setCell ⟨gd, 3, none⟩ (.string ⟨xd.toArray⟩) = wb4 at *
      refine (rdT_any P5.rd).mono ?_
      rintro e wa5 ⟨rfl, hr, hg⟩
      replace P5 := P5.call hg hr
      clear hr hg
      have b_xe := rB_le l_xd f_xd
      generalize rB l_xd f_xd = Q at *
      obtain ⟨xe, l_xe, f_xe⟩ := Q
      dsimp only at P5 HV b_xe ⊢
      have z0 := blk_cell P5.loc 4
      have f0 := blk_free P5.loc 4
      have P6 : PZ 170 w gr gd lo g _ 59 _ #[.int .u64 (xa : Int), .bool xb, .string ⟨xc.toArray⟩, .string ⟨xd.toArray⟩, .string ⟨xe.toArray⟩, .string ⟨#[]⟩, .string ⟨#[]⟩] l_xe f_xe ((wa5).setCell ⟨gd, 4, none⟩ (.string ⟨xe.toArray⟩)) := (P5.set 4 (.string ⟨xe.toArray⟩))
      clear P5
      go_wp2_with fail
      generalize (wa5).setCell ⟨gd, 4, none⟩ (.string ⟨xe.toArray⟩) = wb5 at *
      refine (rdT_any P6.rd).mono ?_
      rintro e wa6 ⟨rfl, hr, hg⟩
      replace P6 := P6.call hg hr
      clear hr hg
      have b_xf := rB_le l_xe f_xe
      generalize rB l_xe f_xe = Q at *
      obtain ⟨xf, l_xf, f_xf⟩ := Q
      dsimp only at P6 HV b_xf ⊢
      have z0 := blk_cell P6.loc 5
      have f0 := blk_free P6.loc 5
      have P7 : PZ 170 w gr gd lo g _ 59 _ #[.int .u64 (xa : Int), .bool xb, .string ⟨xc.toArray⟩, .string ⟨xd.toArray⟩, .string ⟨xe.toArray⟩, .string ⟨xf.toArray⟩, .string ⟨#[]⟩] l_xf f_xf ((wa6).setCell ⟨gd, 5, none⟩ (.string ⟨xf.toArray⟩)) := (P6.set 5 (.string ⟨xf.toArray⟩))
      clear P6
      go_wp2_with fail
      generalize (wa6).setCell ⟨gd, 5, none⟩ (.string ⟨xf.toArray⟩) = wb6 at *
      refine (rdT_any P7.rd).mono ?_
      rintro e wa7 ⟨rfl, hr, hg⟩
      replace P7 := P7.call hg hr
      clear hr hg
      have b_xg := rB_le l_xf f_xf
      generalize rB l_xf f_xf = Q at *
      obtain ⟨xg, l_xg, f_xg⟩ := Q
      dsimp only at P7 HV b_xg ⊢
      have z0 := blk_cell P7.loc 6
      have f0 := blk_free P7.loc 6
      have P8 : PZ 170 w gr gd lo g _ 59 _ #[.int .u64 (xa : Int), .bool xb, .string ⟨xc.toArray⟩, .string ⟨xd.toArray⟩, .string ⟨xe.toArray⟩, .string ⟨xf.toArray⟩, .string ⟨xg.toArray⟩] l_xg f_xg ((wa7).setCell ⟨gd, 6, none⟩ (.string ⟨xg.toArray⟩)) := (P7.set 6 (.string ⟨xg.toArray⟩))
      clear P7
      go_wp2_with fail
      generalize (wa7).setCell ⟨gd, 6, none⟩ (.string ⟨xg.toArray⟩) = wb7 at *
      refine (rdEnd_any P8.rd).mono ?_
      rintro e w7 ⟨rfl, rfl⟩
      generalize rEnd l_xg f_xg = E at *
      subst hgr
      by_cases hE : E = 0
      · subst hE
        have hv := HV.out
        rw [if_pos rfl] at hv
        (try dsimp only at hv)
        clear HV
        have r0 := blk_cell P8.res 0
        have q0 := blk_free P8.res 0
        have r1 := blk_cell P8.res 1
        have q1 := blk_free P8.res 1
        have r2 := blk_cell P8.res 2
        have q2 := blk_free P8.res 2
        have r3 := blk_cell P8.res 3
        have q3 := blk_free P8.res 3
        have r4 := blk_cell P8.res 4
        have q4 := blk_free P8.res 4
        have r5 := blk_cell P8.res 5
        have q5 := blk_free P8.res 5
        have r6 := blk_cell P8.res 6
        have q6 := blk_free P8.res 6
        have s0 := blk_cell P8.loc 0
        have s1 := blk_cell P8.loc 1
        have s2 := blk_cell P8.loc 2
        have s3 := blk_cell P8.loc 3
        have s4 := blk_cell P8.loc 4
        have s5 := blk_cell P8.loc 5
        have s6 := blk_cell P8.loc 6
        have hk7 := set7P P8.res (.int .u64 (xa : Int)) (.bool xb) (.string ⟨xc.toArray⟩) (.string ⟨xd.toArray⟩) (.string ⟨xe.toArray⟩) (.string ⟨xf.toArray⟩) (.string ⟨xg.toArray⟩)
        have hb7 := below_set7P P8.below P8.hr (.int .u64 (xa : Int)) (.bool xb) (.string ⟨xc.toArray⟩) (.string ⟨xd.toArray⟩) (.string ⟨xe.toArray⟩) (.string ⟨xf.toArray⟩) (.string ⟨xg.toArray⟩)
        have HD := Lib.hid (And.intro (blk_cell hk7 0) (And.intro (blk_cell hk7 1) (And.intro (blk_cell hk7 2) (And.intro (blk_cell hk7 3) (And.intro (blk_cell hk7 4) (And.intro (blk_cell hk7 5) (blk_cell hk7 6)))))))
        have HVV := Lib.hid hv
        clear hk7 hv
        go_wp2_with fail
        obtain ⟨d0, d1, d2, d3, d4, d5, d6⟩ := HD.out
        refine bodyPost_ret (v := V) ?_ rfl ⟨rfl, hb7⟩
        rw [HVV.out]
        simp at d0 d1 d2 d3 d4 d5 d6
        simp [results, Tryz.results85, go_sem, d0, d1, d2, d3, d4, d5, d6, ChV.val, ChV.none]
      · have hne : (E != 0) = true := by simpa using hE
        have hv := HV.out
        rw [if_neg hE] at hv
        (try dsimp only at hv)
        clear HV
        have r0 := blk_cell P8.res 0
        have q0 := blk_free P8.res 0
        have r1 := blk_cell P8.res 1
        have q1 := blk_free P8.res 1
        have r2 := blk_cell P8.res 2
        have q2 := blk_free P8.res 2
        have r3 := blk_cell P8.res 3
        have q3 := blk_free P8.res 3
        have r4 := blk_cell P8.res 4
        have q4 := blk_free P8.res 4
        have r5 := blk_cell P8.res 5
        have q5 := blk_free P8.res 5
        have r6 := blk_cell P8.res 6
        have q6 := blk_free P8.res 6
        have hk7 := set7P P8.res (.int .u64 0) (.bool false) (.string ⟨#[]⟩) (.string ⟨#[]⟩) (.string ⟨#[]⟩) (.string ⟨#[]⟩) (.string ⟨#[]⟩)
        have hb7 := below_set7P P8.below P8.hr (.int .u64 0) (.bool false) (.string ⟨#[]⟩) (.string ⟨#[]⟩) (.string ⟨#[]⟩) (.string ⟨#[]⟩) (.string ⟨#[]⟩)
        have HD := Lib.hid (And.intro (blk_cell hk7 0) (And.intro (blk_cell hk7 1) (And.intro (blk_cell hk7 2) (And.intro (blk_cell hk7 3) (And.intro (blk_cell hk7 4) (And.intro (blk_cell hk7 5) (blk_cell hk7 6)))))))
        have HVV := Lib.hid hv
        clear hk7 hv
        go_wp2_with fail
        obtain ⟨d0, d1, d2, d3, d4, d5, d6⟩ := HD.out
        refine bodyPost_ret (v := V) ?_ rfl ⟨rfl, hb7⟩
        rw [HVV.out]
        simp at d0 d1 d2 d3 d4 d5 d6
        simp [results, Tryz.results85, go_sem, d0, d1, d2, d3, d4, d5, d6, ChV.val, ChV.none]
end Go.Proofs.YtpcoonnfaoakhaaGreatDoor
namespace Go.Proofs.YtpcoonnfaoakhaaGreatDoor
set_option maxRecDepth 100000
open Go Go.RowKit
set_option linter.unusedVariables false

set_option maxHeartbeats 8000000 in
theorem cnbytes_any (c : CnV) (w : World) (h_st : c.st < 18446744073709551616) (h_cl : c.cl.size ≤ maxLen) (h_cc : c.cc.size ≤ maxLen) (h_ct : c.ct.size ≤ maxLen) :
    Calls Tryz.prog 26 #[c.val] w fun e w' => ∃ v', e = .returned v' ∧ Own w' w.heap.size v' (cnB c) ∧ Below w.heap.size w w' := by
  obtain ⟨st, cl, cc, ct⟩ := c
  dsimp only at h_st h_cl h_cc h_ct
  unfold CnV.val cnB
  dsimp only
  have hbox := heap_alloc_new w (.cells #[.int .u64 (st : Int), .string cl, .string cc, .string ct] 62)
  have ha0 : Below w.heap.size w (w.alloc (.cells #[.int .u64 (st : Int), .string cl, .string cc, .string ct] 62)) := (Below.refl _ _).alloc (Nat.le_refl _) _
  generalize hW0 : w.alloc (.cells #[.int .u64 (st : Int), .string cl, .string cc, .string ct] 62) = W0 at *
  have hgl := blk_lt hbox
  generalize hgg : w.heap.size = g0 at *
  have HC : Hid (∀ Z, Below W0.heap.size W0 Z → Z.cell? ⟨g0, 0, none⟩ = some (.int .u64 (st : Int)) ∧ Z.cell? ⟨g0, 1, none⟩ = some (.string cl) ∧ Z.cell? ⟨g0, 2, none⟩ = some (.string cc) ∧ Z.cell? ⟨g0, 3, none⟩ = some (.string ct)) := Lib.hid fun Z hz => ⟨blk_cell ((hz.block _ hgl).trans hbox) 0, blk_cell ((hz.block _ hgl).trans hbox) 1, blk_cell ((hz.block _ hgl).trans hbox) 2, blk_cell ((hz.block _ hgl).trans hbox) 3⟩
  have hkD : Below W0.heap.size W0 W0.drew := Below.drew (Below.refl _ _)
  have l_cl : (encS cl).length ≤ 65539 := encB_lenP (strBytes cl)
  have l_cc : (encS cc).length ≤ 65539 := encB_lenP (strBytes cc)
  have l_ct : (encS ct).length ≤ 65539 := encB_lenP (strBytes ct)
  have H1 : Hid (∀ (Z : World), Calls Tryz.prog 72 #[.slice none 0 0, .int .u64 (st : Int)] Z fun e w' => ∃ v', e = .returned v' ∧ Own w' Z.heap.size v' (be st 8) ∧ Below Z.heap.size Z w') :=
    Lib.hid fun Z => N_any (.slice none 0 0) _ st Z (Rd.nil _ _) h_st (by simp [be_length]; try omega)
  have H2 : Hid (∀ (v : Value) (Z : World) (B : Nat), Own Z B v (be st 8) → Calls Tryz.prog 84 #[v, .string cl] Z fun e w' => ∃ v', e = .returned v' ∧ Own w' Z.heap.size v' (be st 8 ++ encS cl) ∧ Below Z.heap.size Z w') :=
    Lib.hid fun v Z B ho => TS0 v cl _ Z ho.rd h_cl (by simp [be_length]; try omega)
  have H3 : Hid (∀ (v : Value) (Z : World) (B : Nat), Own Z B v (be st 8 ++ encS cl) → Calls Tryz.prog 84 #[v, .string cc] Z fun e w' => ∃ v', e = .returned v' ∧ Own w' Z.heap.size v' ((be st 8 ++ encS cl) ++ encS cc) ∧ Below Z.heap.size Z w') :=
    Lib.hid fun v Z B ho => TS0 v cc _ Z ho.rd h_cc (by simp [be_length]; try omega)
  have H4 : Hid (∀ (v : Value) (Z : World) (B : Nat), Own Z B v ((be st 8 ++ encS cl) ++ encS cc) → Calls Tryz.prog 84 #[v, .string ct] Z fun e w' => ∃ v', e = .returned v' ∧ Own w' Z.heap.size v' (((be st 8 ++ encS cl) ++ encS cc) ++ encS ct) ∧ Below Z.heap.size Z w') :=
    Lib.hid fun v Z B ho => TS0 v ct _ Z ho.rd h_ct (by simp [be_length]; try omega)
  generalize ((be st 8 ++ encS cl) ++ encS cc) ++ encS ct = L4 at *
  generalize (be st 8 ++ encS cl) ++ encS cc = L3 at *
  generalize be st 8 ++ encS cl = L2 at *
  generalize be st 8 = L1 at *
  clear hbox h_st h_cl h_cc h_ct l_cl l_cc l_ct
  go_enter Tryz.func26, Tryz.ntmps26
  go_wp2_with fail
  try rw [hW0]
  clear hW0
  try rw [hgg]
  go_region_held_law (fun Z => Z.cell? ⟨g0, 0, none⟩ = some (.int .u64 (st : Int)) ∧ Z.cell? ⟨g0, 1, none⟩ = some (.string cl) ∧ Z.cell? ⟨g0, 2, none⟩ = some (.string cc) ∧ Z.cell? ⟨g0, 3, none⟩ = some (.string ct))
    (with_reducible first | exact HC.out _ hk4 | exact HC.out _ hk3 | exact HC.out _ hk2 | exact HC.out _ hk1 | exact HC.out _ hkD)
    ((first
      | (go_at_call 72; first
        | (refine (H1.out _).mono ?_; rintro e w1 ⟨v1, rfl, ho1, hb1⟩; have hk1 := below_chain hkD hkD.size hb1))
      | (go_at_call 84; first
        | (refine (H4.out _ _ _ ho3).mono ?_; rintro e w4 ⟨v4, rfl, ho4, hb4⟩; have hk4 := below_chain hk3 hk3.size hb4)
        | (refine (H3.out _ _ _ ho2).mono ?_; rintro e w3 ⟨v3, rfl, ho3, hb3⟩; have hk3 := below_chain hk2 hk2.size hb3)
        | (refine (H2.out _ _ _ ho1).mono ?_; rintro e w2 ⟨v2, rfl, ho2, hb2⟩; have hk2 := below_chain hk1 hk1.size hb2))))
  all_goals
    obtain ⟨A4, c4, rfl⟩ := ho4.form
    go_wp2_with fail
    subst hgg
    have hsF := Nat.le_trans ha0.size hk3.size
    have hfin := below_chain ha0 ha0.size hk4
    go_ret
    exact ⟨_, rfl, ho4.more hsF, hfin⟩
set_option maxHeartbeats 8000000 in
theorem chbytes_any (c : ChV) (w : World) (h_st : c.st < 18446744073709551616) (h_po : c.po.size ≤ maxLen) (h_cp : c.cp.size ≤ maxLen) (h_cn : c.cn.size ≤ maxLen) (h_cc : c.cc.size ≤ maxLen) (h_ve : c.ve.size ≤ maxLen) :
    Calls Tryz.prog 32 #[c.val] w fun e w' => ∃ v', e = .returned v' ∧ Own w' w.heap.size v' (chB c) ∧ Below w.heap.size w w' := by
  obtain ⟨st, od, po, cp, cn, cc, ve⟩ := c
  dsimp only at h_st h_po h_cp h_cn h_cc h_ve
  unfold ChV.val chB
  dsimp only
  have hbox := heap_alloc_new w (.cells #[.int .u64 (st : Int), .bool od, .string po, .string cp, .string cn, .string cc, .string ve] 59)
  have ha0 : Below w.heap.size w (w.alloc (.cells #[.int .u64 (st : Int), .bool od, .string po, .string cp, .string cn, .string cc, .string ve] 59)) := (Below.refl _ _).alloc (Nat.le_refl _) _
  generalize hW0 : w.alloc (.cells #[.int .u64 (st : Int), .bool od, .string po, .string cp, .string cn, .string cc, .string ve] 59) = W0 at *
  have hgl := blk_lt hbox
  generalize hgg : w.heap.size = g0 at *
  have HC : Hid (∀ Z, Below W0.heap.size W0 Z → Z.cell? ⟨g0, 0, none⟩ = some (.int .u64 (st : Int)) ∧ Z.cell? ⟨g0, 1, none⟩ = some (.bool od) ∧ Z.cell? ⟨g0, 2, none⟩ = some (.string po) ∧ Z.cell? ⟨g0, 3, none⟩ = some (.string cp) ∧ Z.cell? ⟨g0, 4, none⟩ = some (.string cn) ∧ Z.cell? ⟨g0, 5, none⟩ = some (.string cc) ∧ Z.cell? ⟨g0, 6, none⟩ = some (.string ve)) := Lib.hid fun Z hz => ⟨blk_cell ((hz.block _ hgl).trans hbox) 0, blk_cell ((hz.block _ hgl).trans hbox) 1, blk_cell ((hz.block _ hgl).trans hbox) 2, blk_cell ((hz.block _ hgl).trans hbox) 3, blk_cell ((hz.block _ hgl).trans hbox) 4, blk_cell ((hz.block _ hgl).trans hbox) 5, blk_cell ((hz.block _ hgl).trans hbox) 6⟩
  have hkD : Below W0.heap.size W0 W0.drew := Below.drew (Below.refl _ _)
  have l_po : (encS po).length ≤ 65539 := encB_lenP (strBytes po)
  have l_cp : (encS cp).length ≤ 65539 := encB_lenP (strBytes cp)
  have l_cn : (encS cn).length ≤ 65539 := encB_lenP (strBytes cn)
  have l_cc : (encS cc).length ≤ 65539 := encB_lenP (strBytes cc)
  have l_ve : (encS ve).length ≤ 65539 := encB_lenP (strBytes ve)
  have H1 : Hid (∀ (Z : World), Calls Tryz.prog 72 #[.slice none 0 0, .int .u64 (st : Int)] Z fun e w' => ∃ v', e = .returned v' ∧ Own w' Z.heap.size v' (be st 8) ∧ Below Z.heap.size Z w') :=
    Lib.hid fun Z => N_any (.slice none 0 0) _ st Z (Rd.nil _ _) h_st (by simp [be_length]; try omega)
  have H2 : Hid (∀ (v : Value) (Z : World) (B : Nat), Own Z B v (be st 8) → Calls Tryz.prog 96 #[v, .bool od] Z fun e w' => ∃ v', e = .returned v' ∧ Own w' Z.heap.size v' (be st 8 ++ [fb od]) ∧ Below Z.heap.size Z w') :=
    Lib.hid fun v Z B ho => F_any v od _ Z ho.rd (by simp [be_length]; try omega)
  have H3 : Hid (∀ (v : Value) (Z : World) (B : Nat), Own Z B v (be st 8 ++ [fb od]) → Calls Tryz.prog 84 #[v, .string po] Z fun e w' => ∃ v', e = .returned v' ∧ Own w' Z.heap.size v' ((be st 8 ++ [fb od]) ++ encS po) ∧ Below Z.heap.size Z w') :=
    Lib.hid fun v Z B ho => TS0 v po _ Z ho.rd h_po (by simp [be_length]; try omega)
  have H4 : Hid (∀ (v : Value) (Z : World) (B : Nat), Own Z B v ((be st 8 ++ [fb od]) ++ encS po) → Calls Tryz.prog 84 #[v, .string cp] Z fun e w' => ∃ v', e = .returned v' ∧ Own w' Z.heap.size v' (((be st 8 ++ [fb od]) ++ encS po) ++ encS cp) ∧ Below Z.heap.size Z w') :=
    Lib.hid fun v Z B ho => TS0 v cp _ Z ho.rd h_cp (by simp [be_length]; try omega)
  have H5 : Hid (∀ (v : Value) (Z : World) (B : Nat), Own Z B v (((be st 8 ++ [fb od]) ++ encS po) ++ encS cp) → Calls Tryz.prog 84 #[v, .string cn] Z fun e w' => ∃ v', e = .returned v' ∧ Own w' Z.heap.size v' ((((be st 8 ++ [fb od]) ++ encS po) ++ encS cp) ++ encS cn) ∧ Below Z.heap.size Z w') :=
    Lib.hid fun v Z B ho => TS0 v cn _ Z ho.rd h_cn (by simp [be_length]; try omega)
  have H6 : Hid (∀ (v : Value) (Z : World) (B : Nat), Own Z B v ((((be st 8 ++ [fb od]) ++ encS po) ++ encS cp) ++ encS cn) → Calls Tryz.prog 84 #[v, .string cc] Z fun e w' => ∃ v', e = .returned v' ∧ Own w' Z.heap.size v' (((((be st 8 ++ [fb od]) ++ encS po) ++ encS cp) ++ encS cn) ++ encS cc) ∧ Below Z.heap.size Z w') :=
    Lib.hid fun v Z B ho => TS0 v cc _ Z ho.rd h_cc (by simp [be_length]; try omega)
  have H7 : Hid (∀ (v : Value) (Z : World) (B : Nat), Own Z B v (((((be st 8 ++ [fb od]) ++ encS po) ++ encS cp) ++ encS cn) ++ encS cc) → Calls Tryz.prog 84 #[v, .string ve] Z fun e w' => ∃ v', e = .returned v' ∧ Own w' Z.heap.size v' ((((((be st 8 ++ [fb od]) ++ encS po) ++ encS cp) ++ encS cn) ++ encS cc) ++ encS ve) ∧ Below Z.heap.size Z w') :=
    Lib.hid fun v Z B ho => TS0 v ve _ Z ho.rd h_ve (by simp [be_length]; try omega)
  generalize (((((be st 8 ++ [fb od]) ++ encS po) ++ encS cp) ++ encS cn) ++ encS cc) ++ encS ve = L7 at *
  generalize ((((be st 8 ++ [fb od]) ++ encS po) ++ encS cp) ++ encS cn) ++ encS cc = L6 at *
  generalize (((be st 8 ++ [fb od]) ++ encS po) ++ encS cp) ++ encS cn = L5 at *
  generalize ((be st 8 ++ [fb od]) ++ encS po) ++ encS cp = L4 at *
  generalize (be st 8 ++ [fb od]) ++ encS po = L3 at *
  generalize be st 8 ++ [fb od] = L2 at *
  generalize be st 8 = L1 at *
  clear hbox h_st h_po h_cp h_cn h_cc h_ve l_po l_cp l_cn l_cc l_ve
  go_enter Tryz.func32, Tryz.ntmps32
  go_wp2_with fail
  try rw [hW0]
  clear hW0
  try rw [hgg]
  go_region_held_law (fun Z => Z.cell? ⟨g0, 0, none⟩ = some (.int .u64 (st : Int)) ∧ Z.cell? ⟨g0, 1, none⟩ = some (.bool od) ∧ Z.cell? ⟨g0, 2, none⟩ = some (.string po) ∧ Z.cell? ⟨g0, 3, none⟩ = some (.string cp) ∧ Z.cell? ⟨g0, 4, none⟩ = some (.string cn) ∧ Z.cell? ⟨g0, 5, none⟩ = some (.string cc) ∧ Z.cell? ⟨g0, 6, none⟩ = some (.string ve))
    (with_reducible first | exact HC.out _ hk2 | exact HC.out _ hk1 | exact HC.out _ hkD)
    ((first
      | (go_at_call 72; first
        | (refine (H1.out _).mono ?_; rintro e w1 ⟨v1, rfl, ho1, hb1⟩; have hk1 := below_chain hkD hkD.size hb1))
      | (go_at_call 96; first
        | (refine (H2.out _ _ _ ho1).mono ?_; rintro e w2 ⟨v2, rfl, ho2, hb2⟩; have hk2 := below_chain hk1 hk1.size hb2))))
  all_goals
    have hkE1 := Below.drew hk2
    have hoE1 : Own w2.drew _ v2 L2 := ho2
    obtain ⟨A2, c2, rfl⟩ := ho2.form
    generalize L2.length = n2 at *
    clear ho1 ho2
    go_wp2_with fail
    go_region_held_law (fun Z => Z.cell? ⟨g0, 0, none⟩ = some (.int .u64 (st : Int)) ∧ Z.cell? ⟨g0, 1, none⟩ = some (.bool od) ∧ Z.cell? ⟨g0, 2, none⟩ = some (.string po) ∧ Z.cell? ⟨g0, 3, none⟩ = some (.string cp) ∧ Z.cell? ⟨g0, 4, none⟩ = some (.string cn) ∧ Z.cell? ⟨g0, 5, none⟩ = some (.string cc) ∧ Z.cell? ⟨g0, 6, none⟩ = some (.string ve))
      (with_reducible first | exact HC.out _ hk4 | exact HC.out _ hk3 | exact HC.out _ hkE1)
      ((first
        | (go_at_call 84; first
          | (refine (H4.out _ _ _ ho3).mono ?_; rintro e w4 ⟨v4, rfl, ho4, hb4⟩; have hk4 := below_chain hk3 hk3.size hb4)
          | (refine (H3.out _ _ _ hoE1).mono ?_; rintro e w3 ⟨v3, rfl, ho3, hb3⟩; have hk3 := below_chain hkE1 hkE1.size hb3))))
    all_goals
      have hkE2 := Below.drew hk4
      have hoE2 : Own w4.drew _ v4 L4 := ho4
      obtain ⟨A4, c4, rfl⟩ := ho4.form
      generalize L4.length = n4 at *
      clear ho3 ho4
      go_wp2_with fail
      go_region_held_law (fun Z => Z.cell? ⟨g0, 0, none⟩ = some (.int .u64 (st : Int)) ∧ Z.cell? ⟨g0, 1, none⟩ = some (.bool od) ∧ Z.cell? ⟨g0, 2, none⟩ = some (.string po) ∧ Z.cell? ⟨g0, 3, none⟩ = some (.string cp) ∧ Z.cell? ⟨g0, 4, none⟩ = some (.string cn) ∧ Z.cell? ⟨g0, 5, none⟩ = some (.string cc) ∧ Z.cell? ⟨g0, 6, none⟩ = some (.string ve))
        (with_reducible first | exact HC.out _ hk7 | exact HC.out _ hk6 | exact HC.out _ hk5 | exact HC.out _ hkE2)
        ((first
          | (go_at_call 84; first
            | (refine (H7.out _ _ _ ho6).mono ?_; rintro e w7 ⟨v7, rfl, ho7, hb7⟩; have hk7 := below_chain hk6 hk6.size hb7)
            | (refine (H6.out _ _ _ ho5).mono ?_; rintro e w6 ⟨v6, rfl, ho6, hb6⟩; have hk6 := below_chain hk5 hk5.size hb6)
            | (refine (H5.out _ _ _ hoE2).mono ?_; rintro e w5 ⟨v5, rfl, ho5, hb5⟩; have hk5 := below_chain hkE2 hkE2.size hb5))))
      all_goals
        obtain ⟨A7, c7, rfl⟩ := ho7.form
        go_wp2_with fail
        subst hgg
        have hsF := Nat.le_trans ha0.size hk6.size
        have hfin := below_chain ha0 ha0.size hk7
        go_ret
        exact ⟨_, rfl, ho7.more hsF, hfin⟩
end Go.Proofs.YtpcoonnfaoakhaaGreatDoor
namespace Go.Proofs.YtpcoonnfaoakhaaGreatDoor
set_option maxRecDepth 100000
open Go Go.RowKit
set_option linter.unusedVariables false

def sTransfer : ByteArray := ⟨#[116, 114, 97, 110, 115, 102, 101, 114]⟩
def sControl : ByteArray := ⟨#[99, 111, 110, 116, 114, 111, 108]⟩
def sHost : ByteArray := ⟨#[104, 111, 115, 116]⟩
def sIcs20 : ByteArray := ⟨#[105, 99, 115, 50, 48]⟩
def sChan : ByteArray := ⟨#[99, 104, 97, 110]⟩
def sConn : ByteArray := ⟨#[99, 111, 110, 110]⟩
def sClient : ByteArray := ⟨#[99, 108, 105, 101, 110, 116]⟩
def dashB : ByteArray := ⟨#[45]⟩
def decB (n : Nat) : ByteArray := ⟨(Lib.decDigits n).toArray⟩
/-- the number of the next identifier of a kind -/
def numN (R : List Pr) (kind : ByteArray) : Nat := (rN ((getL R (kNum kind)).getD []) 0).1
def newID (R : List Pr) (kind : ByteArray) : ByteArray := (kind ++ dashB) ++ decB (numN R kind)
def newR (R : List Pr) (kind : ByteArray) : List Pr := setL (kNum kind) (be ((numN R kind + 1) % 18446744073709551616) 8) R
/-- the error of a channel's ports, order and version -/
def formM (a b : ByteArray) (od : Bool) (ve : ByteArray) : Int :=
  if a = sTransfer ∧ b = sTransfer then (if od = true then 122 else if ve = sIcs20 then 0 else 123)
  else if a = sControl ∧ b = sHost then (if od = true then (if identB ve = true then 0 else 123) else 122) else 121
/-- the error of a connection that is wanted open -/
def openE (R : List Pr) (via : ByteArray) : Int := match getCn R via with
  | none => 110
  | some c => if c.st = 3 then 0 else 111
def madeCh (R : List Pr) (c : ChV) : List Pr :=
  setL (ackedP ++ newID R sChan) (be 1 8) (setL (recvP ++ newID R sChan) (be 1 8) (setL (nextP ++ newID R sChan) (be 1 8) (setL (kChn (newID R sChan)) (chB c) (newR R sChan))))
def beginE (R : List Pr) (via po cp : ByteArray) (od : Bool) (ve : ByteArray) : Int := if openE R via = 0 then formM po cp od ve else openE R via
def beginR (R : List Pr) (via po cp : ByteArray) (od : Bool) (ve : ByteArray) : List Pr := if beginE R via po cp od ve = 0 then madeCh R ⟨1, od, po, cp, via, ⟨#[]⟩, ve⟩ else R
def beginI (R : List Pr) (via po cp : ByteArray) (od : Bool) (ve : ByteArray) : ByteArray := if beginE R via po cp od ve = 0 then newID R sChan else ⟨#[]⟩
end Go.Proofs.YtpcoonnfaoakhaaGreatDoor
namespace Go.Proofs.YtpcoonnfaoakhaaGreatDoor
set_option maxRecDepth 100000
open Go Go.RowKit
set_option linter.unusedVariables false

def digB : ByteArray := ⟨#[48, 49, 50, 51, 52, 53, 54, 55, 56, 57, 97, 98, 99, 100, 101, 102, 103, 104, 105, 106, 107, 108, 109, 110, 111, 112, 113, 114, 115, 116, 117, 118, 119, 120, 121, 122]⟩
theorem digB_cut : ∀ n : Fin 10, (digB.extract n.val (n.val + 1)) = decB n.val := by decide +kernel
theorem small_dig (n : Nat) (hn : n < 10) (w : World) : Calls Tryz.prog 186 #[.int .i64 (n : Int)] w fun e w' => e = .returned (.string (decB n)) ∧ w = w' := by
  have hsl : ∀ W, (Instr.slice 9 (.string digB) (some (.int .i64 (n : Int))) (some (.int .i64 ((n : Int) + 1))) none).run Tryz.prog W = .ok (.string (decB n)) W := fun W => by
    rw [run_slice_string W 9 digB .i64 .i64 _ _ Tryz.underlying9 (by omega) (by omega) (by rw [show digB.size = 36 from rfl]; omega), show ((n : Int)).toNat = n by omega, show ((n : Int) + 1).toNat = n + 1 by omega]
    rw [digB_cut ⟨n, hn⟩]
  generalize decB n = S at *
  unfold digB at hsl
  go_enter Tryz.func186, Tryz.ntmps186
  go_wp2
  go_ret
  exact ⟨rfl, rfl⟩
theorem fmt_dig (n : Nat) (hn : n < 10) (w : World) : Calls Tryz.prog 75 #[.int .u64 (n : Int), .int .i64 10] w fun e w' => e = .returned (.string (decB n)) ∧ w = w' := by
  have HS := Lib.hid (fun W => small_dig n hn W)
  have hi : ∀ W, Calls Tryz.prog 142 #[.int .u64 (n : Int), .int .i64 10] W fun e w' => e = .returned (.string (decB n)) ∧ W = w' := fun W => by
    generalize decB n = S at *
    go_enter Tryz.func142, Tryz.ntmps142
    go_wp2_with fail
    refine (HS.out _).mono ?_
    rintro e w' ⟨rfl, rfl⟩
    go_wp2_with fail
    go_ret
    exact ⟨rfl, rfl⟩
  have HI := Lib.hid hi
  clear hi HS
  generalize decB n = S at *
  go_enter Tryz.func75, Tryz.ntmps75
  go_wp2_with fail
  refine (HI.out _).mono ?_
  rintro e w' ⟨rfl, rfl⟩
  go_wp2_with fail
  go_ret
  exact ⟨rfl, rfl⟩
end Go.Proofs.YtpcoonnfaoakhaaGreatDoor
namespace Go.Proofs.YtpcoonnfaoakhaaGreatDoor
set_option maxRecDepth 100000
open Go Go.RowKit
set_option linter.unusedVariables false

theorem dash_size : dashB.size = 1 := rfl
set_option maxHeartbeats 4000000 in
theorem newid_gen {W w : World} {y : Lyr} {l : List Lyr} {R : List Pr} {k : Nat} (h : At W y l R k w) (hn : y.n + k < maxLen) (kind : ByteArray) (hk : kind.size ≤ 100000000) (hd : (decB (numN R kind)).size ≤ 1000)
    (hf : ∀ Z, Kept w Z → Calls Tryz.prog 75 #[.int .u64 (numN R kind : Int), .int .i64 10] Z fun e w' => e = .returned (.string (decB (numN R kind))) ∧ Below Z.heap.size Z w') :
    Calls Tryz.prog 23 #[.pointer (some ⟨y.b, 0, none⟩), .string kind] w fun e w' => e = .returned (.string (newID R kind)) ∧ At W y l (newR R kind) (k + 1) w' ∧ Kept w w' := by
  have s1 : numP.size = 6 := rfl
  have z1 := kNum_size kind
  have hc1 := fun Z => txt_add numP kind (by rw [s1]; omega) Z
  have HG := Lib.hid (h.get (kNum kind) (by rw [z1]; unfold maxLen; omega))
  have HL : ((getL R (kNum kind)).getD []).length ≤ 65535 := by
    cases e : getL R (kNum kind) with
    | none => simp
    | some v => exact (h.fits e).2
  have hnn : numN R kind < 18446744073709551616 := rN_ltP _ _
  have hc2 := fun Z => txt_add kind dashB (by rw [dash_size]; omega) Z
  have hc3 := fun Z => txt_add (kind ++ dashB) (decB (numN R kind)) (by rw [ByteArray.size_append, dash_size]; omega) Z
  have HS : Hid (∀ (Z : World) (hz : Below w.heap.size w Z) (v : Value) (hr : Rd Z Z.heap.size v (be ((numN R kind + 1) % 18446744073709551616) 8)), Calls Tryz.prog 43 #[.pointer (some ⟨y.b, 0, none⟩), .string (kNum kind), v] Z fun e w' => (∃ c, e = .returned (.int .i64 c)) ∧ At W y l (setL (kNum kind) (be ((numN R kind + 1) % 18446744073709551616) 8) R) (k + 1) w' ∧ Kept Z w') :=
    Lib.hid fun Z hz v hr => ((h.up hz).set hn (kNum kind) (by rw [z1]; unfold maxLen; omega) v _ hr).mono fun e w' ⟨h1, h2, h3⟩ => ⟨⟨_, h1⟩, h2, h3⟩
  have HF := Lib.hid hf
  have hwrap : IntKind.u64.wrap ((numN R kind : Int) + 1) = (((numN R kind + 1) % 18446744073709551616 : Nat) : Int) := by
    unfold IntKind.wrap
    simp [IntKind.bits, IntKind.signed]
  have HN : Hid (∀ Z, Calls Tryz.prog 72 #[.slice none 0 0, .int .u64 (((numN R kind + 1) % 18446744073709551616 : Nat) : Int)] Z fun e w' => ∃ v', e = .returned v' ∧ Own w' Z.heap.size v' (be ((numN R kind + 1) % 18446744073709551616) 8) ∧ Below Z.heap.size Z w') := Lib.hid fun Z => by
    have := N_any (.slice none 0 0) [] ((numN R kind + 1) % 18446744073709551616) Z (Rd.nil _ _) (Nat.mod_lt _ (by decide)) (by simp)
    rwa [List.nil_append] at this
  have hfin : newR R kind = setL (kNum kind) (be ((numN R kind + 1) % 18446744073709551616) 8) R := rfl
  have hidf : newID R kind = (kind ++ dashB) ++ decB (numN R kind) := rfl
  rw [hfin, hidf]
  have hnum : numN R kind = (rN ((getL R (kNum kind)).getD []) 0).1 := rfl
  generalize setL (kNum kind) (be ((numN R kind + 1) % 18446744073709551616) 8) R = R2 at *
  generalize (kind ++ dashB) ++ decB (numN R kind) = IDv at *
  generalize decB (numN R kind) = DV at *
  generalize kind ++ dashB = kd at *
  generalize (numN R kind + 1) % 18446744073709551616 = m at *
  have hpos : kNum kind = numP ++ kind := rfl
  rw [← hpos] at hc1
  generalize kNum kind = key at *
  unfold numP at hc1
  unfold dashB at hc2
  generalize (getL R key).getD [] = L0 at *
  generalize (getL R key).isSome = B0 at *
  generalize numN R kind = n at *
  have HNUM := Lib.hid hnum
  clear hnum hfin hidf hpos hd hnn h hf z1
  go_enter Tryz.func23, Tryz.ntmps23
  go_wp2_with fail
  refine HG.out.mono ?_
  rintro e w1 ⟨v, rfl, hov, hb1⟩
  have HO := Lib.hid (open_rd v L0 w1 hov.rd (by omega))
  obtain ⟨A, c, rfl⟩ := hov.form
  generalize L0.length = n0 at *
  clear hov HG
  go_wp2_with fail
  refine HO.out.mono ?_
  rintro e w2 ⟨g, rfl, hr2, hb2⟩
  have hq2 := below_chain hb1 hb1.size hb2
  have hg := hr2.from_
  have HR := Lib.hid (rN_any hr2)
  rw [← HNUM.out] at HR
  clear HO hr2 hb2
  go_wp2_with fail
  refine HR.out.mono ?_
  rintro e w3 ⟨rfl, -, hg3⟩
  have hq3 := hq2.grown hg3 hq2.size (fun k hk => by injection hk with hk; have := hb1.size; omega)
  clear HR hg3 hg hb1 hq2
  go_wp2_with fail
  refine (HN.out _).mono ?_
  rintro e w4 ⟨v4, rfl, ho4, hb4⟩
  have hq4 := below_chain hq3 hq3.size hb4
  have HS4 := Lib.hid (HS.out _ hq4 v4 ho4.rd)
  obtain ⟨A4, c4, rfl⟩ := ho4.form
  generalize (be m 8).length = n4 at *
  clear ho4 HS HN hb4 hq3
  go_wp2_with fail
  refine HS4.out.mono ?_
  rintro e w5 ⟨⟨c5, rfl⟩, hA5, hk5⟩
  have hkk := (Kept.of_belowX hq4).transX hk5
  have HF5 := Lib.hid (HF.out _ hkk)
  clear HS4 HF
  go_wp2_with fail
  refine HF5.out.mono ?_
  rintro e w6 ⟨rfl, hb6⟩
  go_wp2_with fail
  go_ret
  exact ⟨rfl, hA5.up hb6, hkk.transX (Kept.of_belowX hb6)⟩
theorem decB_size (n : Nat) (hn : n < 10) : (decB n).size = 1 := by
  have : ∀ n : Fin 10, (decB n.val).size = 1 := by decide +kernel
  exact this ⟨n, hn⟩
theorem newid_any {W w : World} {y : Lyr} {l : List Lyr} {R : List Pr} {k : Nat} (h : At W y l R k w) (hn : y.n + k < maxLen) (kind : ByteArray) (hk : kind.size ≤ 100000000) (hs : numN R kind < 10) :
    Calls Tryz.prog 23 #[.pointer (some ⟨y.b, 0, none⟩), .string kind] w fun e w' => e = .returned (.string (newID R kind)) ∧ At W y l (newR R kind) (k + 1) w' ∧ Kept w w' :=
  newid_gen h hn kind hk (by rw [decB_size _ hs]; decide) fun Z _ => (fmt_dig _ hs Z).mono fun e w' ⟨h1, h2⟩ => ⟨h1, by rw [← h2]; exact Below.refl _ _⟩

theorem ne_lit {a s : ByteArray} {l : List UInt8} (h : ¬ a = s) (hs : s.toList = l) : (a.toList == l) = false := by
  subst hs
  exact beq_toList_ne h
set_option maxHeartbeats 4000000 in
theorem form_any (a b : ByteArray) (od : Bool) (ve : ByteArray) (w : World) (hv : ve.size ≤ 100000000) :
    Calls Tryz.prog 88 #[.string a, .string b, .bool od, .string ve] w fun e w' => e = .returned (.int .i64 (formM a b od ve)) ∧ w = w' := by
  have HI : Hid (∀ Z : World, Calls Tryz.prog 59 #[.string ve] Z fun e w' => e = .returned (.bool (identB ve)) ∧ Z = w') := Lib.hid fun Z => ident_any ve Z (by unfold maxLen; omega)
  unfold formM
  generalize identB ve = bi at *
  unfold sTransfer sControl sHost sIcs20
  go_enter Tryz.func88, Tryz.ntmps88
  by_cases h1 : a = ⟨#[116, 114, 97, 110, 115, 102, 101, 114]⟩
  · by_cases h2 : b = ⟨#[116, 114, 97, 110, 115, 102, 101, 114]⟩
    · subst h1; subst h2
      rw [if_pos ⟨rfl, rfl⟩]
      cases od
      · by_cases h3 : ve = ⟨#[105, 99, 115, 50, 48]⟩
        · subst h3
          go_wp2_with fail
          go_ret
          exact ⟨rfl, rfl⟩
        · have hne : (ve.toList == [105, 99, 115, 50, 48]) = false := ne_lit h3 (by decide +kernel)
          rw [if_neg (by simp), if_neg h3]
          clear h3
          go_wp2_with fail
          go_ret
          exact ⟨rfl, rfl⟩
      · go_wp2_with fail
        go_ret
        exact ⟨rfl, rfl⟩
    · have hne : (b.toList == [116, 114, 97, 110, 115, 102, 101, 114]) = false := ne_lit h2 (by decide +kernel)
      subst h1
      rw [if_neg (fun h => h2 h.2), if_neg (fun h => absurd h.1 (by decide))]
      clear h2
      go_wp2_with fail
      go_ret
      exact ⟨rfl, rfl⟩
  · have hne : (a.toList == [116, 114, 97, 110, 115, 102, 101, 114]) = false := ne_lit h1 (by decide +kernel)
    rw [if_neg (fun h => h1 h.1)]
    clear h1
    by_cases h4 : a = ⟨#[99, 111, 110, 116, 114, 111, 108]⟩
    · by_cases h5 : b = ⟨#[104, 111, 115, 116]⟩
      · subst h4; subst h5
        rw [if_pos ⟨rfl, rfl⟩]
        cases od
        · go_wp2_with fail
          go_ret
          exact ⟨rfl, rfl⟩
        · go_wp2_with fail
          refine (HI.out _).mono ?_
          rintro e w' ⟨rfl, rfl⟩
          cases bi <;>
            (go_wp2_with fail
             go_ret
             exact ⟨rfl, rfl⟩)
      · have hn5 : (b.toList == [104, 111, 115, 116]) = false := ne_lit h5 (by decide +kernel)
        subst h4
        rw [if_neg (fun h => h5 h.2)]
        clear h5
        go_wp2_with fail
        go_ret
        exact ⟨rfl, rfl⟩
    · have hn4 : (a.toList == [99, 111, 110, 116, 114, 111, 108]) = false := ne_lit h4 (by decide +kernel)
      rw [if_neg (fun h => h4 h.1)]
      clear h4
      go_wp2_with fail
      go_ret
      exact ⟨rfl, rfl⟩
end Go.Proofs.YtpcoonnfaoakhaaGreatDoor
namespace Go.Proofs.YtpcoonnfaoakhaaGreatDoor
set_option maxRecDepth 100000
open Go Go.RowKit
set_option linter.unusedVariables false

set_option maxHeartbeats 4000000 in
theorem chput_any {W w : World} {y : Lyr} {l : List Lyr} {R : List Pr} {k : Nat} (h : At W y l R k w) (hn : y.n + k < maxLen) (id : ByteArray) (hid : id.size ≤ 100000000) (c : ChV) (h_st : c.st < 18446744073709551616) (h_po : c.po.size ≤ maxLen) (h_cp : c.cp.size ≤ maxLen) (h_cn : c.cn.size ≤ maxLen) (h_cc : c.cc.size ≤ maxLen) (h_ve : c.ve.size ≤ maxLen) :
    Calls Tryz.prog 150 #[.pointer (some ⟨y.b, 0, none⟩), .string id, c.val] w fun e w' => e = .returned (.tuple #[]) ∧ At W y l (setL (kChn id) (chB c) R) (k + 1) w' ∧ Kept w w' := by
  have z1 := kChn_size id
  have HB : Hid (∀ Z : World, Calls Tryz.prog 32 #[c.val] Z fun e w' => ∃ v', e = .returned v' ∧ Own w' Z.heap.size v' (chB c) ∧ Below Z.heap.size Z w') := Lib.hid fun Z => chbytes_any c Z h_st h_po h_cp h_cn h_cc h_ve
  have HK : Hid (∀ Z : World, Calls Tryz.prog 34 #[.string id] Z fun e w' => e = .returned (.string (kChn id)) ∧ Z = w') := Lib.hid fun Z => chkey_any id Z hid
  have hbox := heap_alloc_new w (.cells #[.int .u64 (c.st : Int), .bool c.od, .string c.po, .string c.cp, .string c.cn, .string c.cc, .string c.ve] 59)
  have ha0 : Below w.heap.size w (w.alloc (.cells #[.int .u64 (c.st : Int), .bool c.od, .string c.po, .string c.cp, .string c.cn, .string c.cc, .string c.ve] 59)) := (Below.refl _ _).alloc (Nat.le_refl _) _
  have A0 := h.up ha0
  generalize hW0 : w.alloc (.cells #[.int .u64 (c.st : Int), .bool c.od, .string c.po, .string c.cp, .string c.cn, .string c.cc, .string c.ve] 59) = W0 at *
  have hgl := blk_lt hbox
  have HS : Hid (∀ (Z : World) (hz : Below W0.heap.size W0 Z) (v : Value) (B : Nat) (ho : Own Z B v (chB c)), Calls Tryz.prog 43 #[.pointer (some ⟨y.b, 0, none⟩), .string (kChn id), v] Z fun e w' => (∃ c, e = .returned (.int .i64 c)) ∧ At W y l (setL (kChn id) (chB c) R) (k + 1) w' ∧ Kept Z w') :=
    Lib.hid fun Z hz v B ho => ((A0.up hz).set hn (kChn id) (by rw [z1]; unfold maxLen; omega) v _ ho.rd).mono fun e w' ⟨h1, h2, h3⟩ => ⟨⟨_, h1⟩, h2, h3⟩
  have hkW : Kept w W0 := Kept.of_belowX ha0
  generalize hgg : w.heap.size = g0 at *
  have HC : Hid (∀ Z, Kept W0 Z → Z.cell? ⟨g0, 0, none⟩ = some (.int .u64 (c.st : Int)) ∧ Z.cell? ⟨g0, 1, none⟩ = some (.bool c.od) ∧ Z.cell? ⟨g0, 2, none⟩ = some (.string c.po) ∧ Z.cell? ⟨g0, 3, none⟩ = some (.string c.cp) ∧ Z.cell? ⟨g0, 4, none⟩ = some (.string c.cn) ∧ Z.cell? ⟨g0, 5, none⟩ = some (.string c.cc) ∧ Z.cell? ⟨g0, 6, none⟩ = some (.string c.ve)) := Lib.hid fun Z hz => ⟨hz.cell (blk_cell hbox 0), hz.cell (blk_cell hbox 1), hz.cell (blk_cell hbox 2), hz.cell (blk_cell hbox 3), hz.cell (blk_cell hbox 4), hz.cell (blk_cell hbox 5), hz.cell (blk_cell hbox 6)⟩
  have hkD : Below W0.heap.size W0 W0.drew := Below.drew (Below.refl _ _)
  obtain ⟨st, od, po, cp, cn, cc, ve⟩ := c
  unfold ChV.val at *
  dsimp only at *
  generalize setL (kChn id) (chB ⟨st, od, po, cp, cn, cc, ve⟩) R = R2 at *
  generalize chB ⟨st, od, po, cp, cn, cc, ve⟩ = L1 at *
  generalize kChn id = key at *
  clear hbox h A0 z1
  go_enter Tryz.func150, Tryz.ntmps150
  go_wp2_with fail
  try rw [hW0]
  clear hW0
  try rw [hgg]
  go_region_held_law (fun Z => Z.cell? ⟨g0, 0, none⟩ = some (.int .u64 (st : Int)) ∧ Z.cell? ⟨g0, 1, none⟩ = some (.bool od) ∧ Z.cell? ⟨g0, 2, none⟩ = some (.string po) ∧ Z.cell? ⟨g0, 3, none⟩ = some (.string cp) ∧ Z.cell? ⟨g0, 4, none⟩ = some (.string cn) ∧ Z.cell? ⟨g0, 5, none⟩ = some (.string cc) ∧ Z.cell? ⟨g0, 6, none⟩ = some (.string ve))
    (with_reducible first | exact HC.out _ hkF | exact HC.out _ (Kept.of_belowX hk1) | exact HC.out _ (Kept.of_belowX hkD))
    ((first
      | (go_at_call 34; refine (HK.out _).mono ?_; rintro e w9 ⟨rfl, rfl⟩)
      | (go_at_call 32; refine (HB.out _).mono ?_; rintro e w1 ⟨v1, rfl, ho1, hb1⟩; have hk1 := below_chain hkD hkD.size hb1)
      | (go_at_call 43; refine (HS.out _ hk1 _ _ ho1).mono ?_; rintro e w2 ⟨⟨c2, rfl⟩, AS, hkS⟩; have hkF := (Kept.of_belowX hk1).transX hkS)))
  all_goals
    have hfin := hkW.transX hkF
    go_wp2_with fail
    go_end0
    exact ⟨rfl, AS, hfin⟩
def CnV.cells (v : CnV) : Array Value := #[.int .u64 (v.st : Int), .string v.cl, .string v.cc, .string v.ct]
/-- a connection that is wanted open -/
def openV (R : List Pr) (via : ByteArray) : CnV := if openE R via = 0 then (getCn R via).getD CnV.none else CnV.none
set_option maxHeartbeats 4000000 in
theorem chopen_any {W w : World} {y : Lyr} {l : List Lyr} {R : List Pr} {k : Nat} (h : At W y l R k w) (via : ByteArray) (hv : via.size ≤ 100000000) :
    Calls Tryz.prog 87 #[.pointer (some ⟨y.b, 0, none⟩), .string via] w fun e w' => e = .returned (.tuple #[(openV R via).val, .int .i64 (openE R via)]) ∧ Below w.heap.size w w' := by
  have hk0 := heap_alloc_new w (.cells #[.int .u64 0, .string ⟨#[]⟩, .string ⟨#[]⟩, .string ⟨#[]⟩] 62)
  have ha0 : Below w.heap.size w (w.alloc (.cells #[.int .u64 0, .string ⟨#[]⟩, .string ⟨#[]⟩, .string ⟨#[]⟩] 62)) := (Below.refl _ _).alloc (Nat.le_refl _) _
  have HG := Lib.hid (cnget_any (h.up ha0) via hv)
  generalize hW0 : w.alloc (.cells #[.int .u64 0, .string ⟨#[]⟩, .string ⟨#[]⟩, .string ⟨#[]⟩] 62) = w0 at *
  obtain ⟨B, hB⟩ : ∃ B : Addr, B = ⟨y.b, 0, none⟩ := ⟨_, rfl⟩
  rw [← hB] at HG ⊢
  clear hB h
  obtain ⟨V, hV⟩ : ∃ V, V = (Value.tuple #[(openV R via).val, .int .i64 (openE R via)]) := ⟨_, rfl⟩
  rw [← hV]
  unfold openV openE at hV
  generalize getCn R via = o at *
  have HO := Lib.hid hV
  clear hV
  go_enter Tryz.func87, Tryz.ntmps87
  cases o with
  | none =>
    have hv : V = .tuple #[CnV.none.val, .int .i64 110] := by rw [HO.out]; rfl
    unfold cnV CnV.val CnV.none at HG
    dsimp only at HG
    clear HO
    go_wp2_with fail
    try rw [hW0]
    clear hW0
    refine HG.out.mono ?_
    rintro e w1 ⟨rfl, hb1⟩
    have q1' := below_chain ha0 ha0.size hb1
    have k1 := (hb1.block _ (blk_lt hk0)).trans hk0
    have q2' := q1'.alloc q1'.size (.cells #[.int .u64 0, .string ⟨#[]⟩, .string ⟨#[]⟩, .string ⟨#[]⟩] 62)
    replace k1 := (Below.heap_alloc w1 (.cells #[.int .u64 0, .string ⟨#[]⟩, .string ⟨#[]⟩, .string ⟨#[]⟩] 62) _ (blk_lt k1)).trans k1
    clear HG hk0 ha0 hb1 q1'
    have r0 := blk_cell k1 0
    have q0 := blk_free k1 0
    have r1 := blk_cell k1 1
    have q1 := blk_free k1 1
    have r2 := blk_cell k1 2
    have q2 := blk_free k1 2
    have r3 := blk_cell k1 3
    have q3 := blk_free k1 3
    have hk7 := set4P k1 (.int .u64 0) (.string ⟨#[]⟩) (.string ⟨#[]⟩) (.string ⟨#[]⟩)
    have hb7 := below_set4P q2' (Nat.le_refl _) (.int .u64 0) (.string ⟨#[]⟩) (.string ⟨#[]⟩) (.string ⟨#[]⟩)
    have HD := Lib.hid (And.intro (blk_cell hk7 0) (And.intro (blk_cell hk7 1) (And.intro (blk_cell hk7 2) (blk_cell hk7 3))))
    have HVV := Lib.hid hv
    clear hk7 hv
    go_wp2_with fail
    obtain ⟨d0, d1, d2, d3⟩ := HD.out
    refine bodyPost_ret (v := V) ?_ rfl ⟨rfl, hb7⟩
    rw [HVV.out]
    simp at d0 d1 d2 d3
    simp [results, Tryz.results87, go_sem, d0, d1, d2, d3, CnV.val, CnV.none]
  | some c =>
    obtain ⟨st, cl, cc, ct⟩ := c
    unfold cnV CnV.val at HG
    dsimp only at HG
    go_wp2_with fail
    try rw [hW0]
    clear hW0
    refine HG.out.mono ?_
    rintro e w1 ⟨rfl, hb1⟩
    have q1' := below_chain ha0 ha0.size hb1
    have k1 := (hb1.block _ (blk_lt hk0)).trans hk0
    have q2' := q1'.alloc q1'.size (.cells #[.int .u64 (st : Int), .string cl, .string cc, .string ct] 62)
    replace k1 := (Below.heap_alloc w1 (.cells #[.int .u64 (st : Int), .string cl, .string cc, .string ct] 62) _ (blk_lt k1)).trans k1
    have m1 := heap_alloc_new w1 (.cells #[.int .u64 (st : Int), .string cl, .string cc, .string ct] 62)
    clear HG hk0 ha0 hb1 q1'
    have r0 := blk_cell k1 0
    have q0 := blk_free k1 0
    have r1 := blk_cell k1 1
    have q1 := blk_free k1 1
    have r2 := blk_cell k1 2
    have q2 := blk_free k1 2
    have r3 := blk_cell k1 3
    have q3 := blk_free k1 3
    have s0 := blk_cell m1 0
    have s1 := blk_cell m1 1
    have s2 := blk_cell m1 2
    have s3 := blk_cell m1 3
    by_cases h3 : st = 3
    · have hv : V = .tuple #[.agg #[.int .u64 (st : Int), .string cl, .string cc, .string ct], .int .i64 0] := by
        rw [HO.out]
        simp only [if_pos h3]
        rfl
      have hne : ((st : Int) == 3) = true := by
        simp
        omega
      clear HO h3
      have hk7 := set4P k1 (.int .u64 (st : Int)) (.string cl) (.string cc) (.string ct)
      have hb7 := below_set4P q2' (Nat.le_refl _) (.int .u64 (st : Int)) (.string cl) (.string cc) (.string ct)
      have HD := Lib.hid (And.intro (blk_cell hk7 0) (And.intro (blk_cell hk7 1) (And.intro (blk_cell hk7 2) (blk_cell hk7 3))))
      have HVV := Lib.hid hv
      clear hk7 hv
      go_wp2_with fail
      obtain ⟨d0, d1, d2, d3⟩ := HD.out
      refine bodyPost_ret (v := V) ?_ rfl ⟨rfl, hb7⟩
      rw [HVV.out]
      simp at d0 d1 d2 d3
      simp [results, Tryz.results87, go_sem, d0, d1, d2, d3, CnV.val, CnV.none]
    · have hv : V = .tuple #[CnV.none.val, .int .i64 111] := by
        rw [HO.out]
        simp only [if_neg h3]
        rfl
      have hne : ((st : Int) == 3) = false := by
        simp
        omega
      clear HO h3
      have hk7 := set4P k1 (.int .u64 0) (.string ⟨#[]⟩) (.string ⟨#[]⟩) (.string ⟨#[]⟩)
      have hb7 := below_set4P q2' (Nat.le_refl _) (.int .u64 0) (.string ⟨#[]⟩) (.string ⟨#[]⟩) (.string ⟨#[]⟩)
      have HD := Lib.hid (And.intro (blk_cell hk7 0) (And.intro (blk_cell hk7 1) (And.intro (blk_cell hk7 2) (blk_cell hk7 3))))
      have HVV := Lib.hid hv
      clear hk7 hv
      go_wp2_with fail
      obtain ⟨d0, d1, d2, d3⟩ := HD.out
      refine bodyPost_ret (v := V) ?_ rfl ⟨rfl, hb7⟩
      rw [HVV.out]
      simp at d0 d1 d2 d3
      simp [results, Tryz.results87, go_sem, d0, d1, d2, d3, CnV.val, CnV.none]
end Go.Proofs.YtpcoonnfaoakhaaGreatDoor
namespace Go.Proofs.YtpcoonnfaoakhaaGreatDoor
set_option maxRecDepth 100000
open Go Go.RowKit
set_option linter.unusedVariables false

theorem chnext_any (a : ByteArray) (w : World) (ha : a.size ≤ 100000000) : Calls Tryz.prog 36 #[.string a] w fun e w' => e = .returned (.string (nextP ++ a)) ∧ w = w' := by
  have s1 : nextP.size = 9 := rfl
  have h1 := fun W => txt_add nextP a (by rw [s1]; omega) W
  unfold nextP at *
  go_enter Tryz.func36, Tryz.ntmps36
  go_wp2
  go_ret
  exact ⟨rfl, rfl⟩
theorem chrecv_any (a : ByteArray) (w : World) (ha : a.size ≤ 100000000) : Calls Tryz.prog 38 #[.string a] w fun e w' => e = .returned (.string (recvP ++ a)) ∧ w = w' := by
  have s1 : recvP.size = 9 := rfl
  have h1 := fun W => txt_add recvP a (by rw [s1]; omega) W
  unfold recvP at *
  go_enter Tryz.func38, Tryz.ntmps38
  go_wp2
  go_ret
  exact ⟨rfl, rfl⟩
theorem chacked_any (a : ByteArray) (w : World) (ha : a.size ≤ 100000000) : Calls Tryz.prog 40 #[.string a] w fun e w' => e = .returned (.string (ackedP ++ a)) ∧ w = w' := by
  have s1 : ackedP.size = 10 := rfl
  have h1 := fun W => txt_add ackedP a (by rw [s1]; omega) W
  unfold ackedP at *
  go_enter Tryz.func40, Tryz.ntmps40
  go_wp2
  go_ret
  exact ⟨rfl, rfl⟩

/-- the numbers that a channel begins with -/
def oneR (ks : List ByteArray) (R : List Pr) : List Pr := ks.foldl (fun R s => setL s (be 1 8) R) R
theorem oneR_next (ks : List ByteArray) (R : List Pr) (j : Nat) (h : j < ks.length) : oneR (ks.take (j + 1)) R = setL ks[j] (be 1 8) (oneR (ks.take j) R) := by
  unfold oneR
  rw [← List.take_append_getElem h, List.foldl_append]
  rfl
theorem numN_small (R : List Pr) (kind : ByteArray) (h : numN R kind < 10) : (newID R kind).size = kind.size + 2 := by
  unfold newID
  rw [ByteArray.size_append, ByteArray.size_append, dash_size, decB_size _ h]
set_option maxHeartbeats 8000000 in
theorem chmade_any {W w : World} {y : Lyr} {l : List Lyr} {R : List Pr} {k : Nat} (h : At W y l R k w) (hn : y.n + k + 5 ≤ maxLen) (hs : numN R sChan < 10) (c : ChV) (h_st : c.st < 18446744073709551616) (h_po : c.po.size ≤ maxLen) (h_cp : c.cp.size ≤ maxLen) (h_cn : c.cn.size ≤ maxLen) (h_cc : c.cc.size ≤ maxLen) (h_ve : c.ve.size ≤ maxLen) :
    Calls Tryz.prog 89 #[.pointer (some ⟨y.b, 0, none⟩), c.val] w fun e w' => e = .returned (.string (newID R sChan)) ∧ At W y l (madeCh R c) (k + 5) w' ∧ Kept w w' := by
  have hbox := heap_alloc_new w (.cells #[.int .u64 (c.st : Int), .bool c.od, .string c.po, .string c.cp, .string c.cn, .string c.cc, .string c.ve] 59)
  have ha0 : Below w.heap.size w (w.alloc (.cells #[.int .u64 (c.st : Int), .bool c.od, .string c.po, .string c.cp, .string c.cn, .string c.cc, .string c.ve] 59)) := (Below.refl _ _).alloc (Nat.le_refl _) _
  have A0 := h.up ha0
  generalize hW0 : w.alloc (.cells #[.int .u64 (c.st : Int), .bool c.od, .string c.po, .string c.cp, .string c.cn, .string c.cc, .string c.ve] 59) = W0 at *
  have HN := Lib.hid (newid_any A0 (by omega) sChan (by decide +kernel) hs)
  have zid := numN_small R sChan hs
  have z4 : sChan.size = 4 := rfl
  have hid : (newID R sChan).size ≤ 100 := by omega
  have HP : Hid (∀ Z, At W y l (newR R sChan) (k + 1) Z → Calls Tryz.prog 150 #[.pointer (some ⟨y.b, 0, none⟩), .string (newID R sChan), c.val] Z fun e w' => e = .returned (.tuple #[]) ∧ At W y l (setL (kChn (newID R sChan)) (chB c) (newR R sChan)) (k + 1 + 1) w' ∧ Kept Z w') :=
    Lib.hid fun Z hz => chput_any hz (by omega) _ (by omega) c h_st h_po h_cp h_cn h_cc h_ve
  have hmade : madeCh R c = oneR [nextP ++ newID R sChan, recvP ++ newID R sChan, ackedP ++ newID R sChan] (setL (kChn (newID R sChan)) (chB c) (newR R sChan)) := rfl
  rw [hmade]
  generalize setL (kChn (newID R sChan)) (chB c) (newR R sChan) = R2 at *
  generalize newR R sChan = R1 at *
  generalize newID R sChan = id at *
  have HK1 := Lib.hid (fun Z : World => chnext_any id Z (by omega))
  have HK2 := Lib.hid (fun Z : World => chrecv_any id Z (by omega))
  have HK3 := Lib.hid (fun Z : World => chacked_any id Z (by omega))
  have y1 : (nextP ++ id).size ≤ maxLen := by rw [ByteArray.size_append, show nextP.size = 9 from rfl]; unfold maxLen; omega
  have y2 : (recvP ++ id).size ≤ maxLen := by rw [ByteArray.size_append, show recvP.size = 9 from rfl]; unfold maxLen; omega
  have y3 : (ackedP ++ id).size ≤ maxLen := by rw [ByteArray.size_append, show ackedP.size = 10 from rfl]; unfold maxLen; omega
  generalize nextP ++ id = k1 at *
  generalize recvP ++ id = k2 at *
  generalize ackedP ++ id = k3 at *
  have HNW : Hid (∀ Z : World, Calls Tryz.prog 72 #[.slice none 0 0, .int .u64 1] Z fun e w' => ∃ v', e = .returned v' ∧ Own w' Z.heap.size v' (be 1 8) ∧ Below Z.heap.size Z w') := Lib.hid fun Z => by
    have := N_any (.slice none 0 0) [] 1 Z (Rd.nil _ _) (by decide) (by simp)
    rwa [List.nil_append] at this
  have HSZ := Lib.hid hn
  have HY := Lib.hid (And.intro y1 (And.intro y2 y3))
  have hkW : Kept w W0 := Kept.of_belowX ha0
  obtain ⟨st, od, po, cp, cn, cc, ve⟩ := c
  unfold ChV.val at *
  dsimp only at *
  have HBX := Lib.hid hbox
  clear hmade hid zid z4 hs h A0 hn y1 y2 y3 ha0 h_st h_po h_cp h_cn h_cc h_ve hbox
  unfold sChan at HN
  go_enter Tryz.func89, Tryz.ntmps89
  go_wp2_with fail
  try rw [hW0]
  clear hW0
  refine HN.out.mono ?_
  rintro e w1 ⟨rfl, A1, hk1⟩
  have HP1 := Lib.hid (HP.out _ A1)
  have b0 := hk1.cell (blk_cell HBX.out 0)
  have b1 := hk1.cell (blk_cell HBX.out 1)
  have b2 := hk1.cell (blk_cell HBX.out 2)
  have b3 := hk1.cell (blk_cell HBX.out 3)
  have b4 := hk1.cell (blk_cell HBX.out 4)
  have b5 := hk1.cell (blk_cell HBX.out 5)
  have b6 := hk1.cell (blk_cell HBX.out 6)
  have hkk := hkW.transX hk1
  clear HN HP A1 hkW hk1
  go_wp2_with fail
  refine HP1.out.mono ?_
  rintro e w2 ⟨rfl, A2, hk2⟩
  have hkk2 := hkk.transX hk2
  clear HP1 b0 b1 b2 b3 b4 b5 b6 hkk hk2 HBX
  go_wp2_with fail
  refine (HK1.out _).mono ?_
  rintro e w3 ⟨rfl, rfl⟩
  go_wp2_with fail
  refine (HK2.out _).mono ?_
  rintro e w3 ⟨rfl, rfl⟩
  go_wp2_with fail
  refine (HK3.out _).mono ?_
  rintro e w3 ⟨rfl, rfl⟩
  clear HK1 HK2 HK3
  have hrow := heap_alloc_new w2 (.cells #[.string k1, .string k2, .string k3] 9)
  have hb3 : Below w2.heap.size w2 (w2.alloc (.cells #[.string k1, .string k2, .string k3] 9)) := (Below.refl _ _).alloc (Nat.le_refl _) _
  have A3 := A2.up hb3
  have hkk3 := hkk2.transX (Kept.of_belowX hb3)
  clear A2 hkk2 hb3
  go_wp2_with fail
  generalize w2.alloc (.cells #[.string k1, .string k2, .string k3] 9) = w3 at *
  generalize w2.heap.size = gs at *
  have HR : Hid (∀ Z, Kept w3 Z → ∀ j (hj : j < 3), Z.cell? ⟨gs, j, none⟩ = some (.string ([k1, k2, k3][j])) ∧ ([k1, k2, k3][j]).size ≤ maxLen) := Lib.hid fun Z hz j hj => by
    obtain ⟨y1, y2, y3⟩ := HY.out
    match j, hj with
    | 0, _ => exact ⟨hz.cell (blk_cell hrow 0), y1⟩
    | 1, _ => exact ⟨hz.cell (blk_cell hrow 1), y2⟩
    | 2, _ => exact ⟨hz.cell (blk_cell hrow 2), y3⟩
  clear hrow HY
  have HA3 := Lib.hid (And.intro A3 hkk3)
  clear A3 hkk3
  go_loopw [7, 22] (fun _ i Z => ∃ j : Nat, j ≤ 3 ∧ i = .int .i64 (j : Int) ∧ Hid (At W y l (oneR ([k1, k2, k3].take j) R2) (k + 1 + 1 + j) Z ∧ Kept w3 Z))
    (fun _ i _ => 3 - (intOf i).toNat)
  case atStart => exact ⟨0, by omega, rfl, Lib.hid ⟨HA3.out.1, Kept.refl _⟩⟩
  case round =>
    obtain ⟨j, hj, rfl, HX⟩ := hrel
    by_cases hlt : j < 3
    · obtain ⟨c1, hsz⟩ := HR.out _ HX.out.2 j hlt
      have hst := oneR_next [k1, k2, k3] R2 j hlt
      have i1 : (0 : Int) ≤ (j : Int) := by omega
      have i2 : (j : Int) < 3 := by omega
      have HS := Lib.hid (fun (Z : World) (hz : Below wr.heap.size wr Z) (v : Value) (B : Nat) (ho : Own Z B v (be 1 8)) => (HX.out.1.up hz).set (by have := HSZ.out; omega) ([k1, k2, k3][j]) hsz v _ ho.rd)
      generalize [k1, k2, k3][j] = key at *
      have HST := Lib.hid hst
      clear hst hsz
      go_wp2_with fail
      refine (HNW.out _).mono ?_
      rintro e w4 ⟨v4, rfl, ho4, hb4⟩
      have HS4 : Hid (Calls Tryz.prog 43 #[.pointer (some ⟨y.b, 0, none⟩), .string key, v4] w4 fun e w' => (∃ c, e = .returned (.int .i64 c)) ∧ At W y l (setL key (be 1 8) (oneR ([k1, k2, k3].take j) R2)) (k + 1 + 1 + j + 1) w' ∧ Kept w4 w') :=
        Lib.hid ((HS.out _ hb4 v4 _ ho4).mono fun e w' ⟨h1, h2, h3⟩ => ⟨⟨_, h1⟩, h2, h3⟩)
      obtain ⟨A4, c4, rfl⟩ := ho4.form
      generalize (be 1 8).length = n4 at *
      clear HS ho4
      go_wp2_with fail
      refine HS4.out.mono ?_
      rintro e w5 ⟨⟨c5, rfl⟩, A5, hk5⟩
      have hkr := (HX.out.2.transX (Kept.of_belowX hb4)).transX hk5
      go_wp2_with fail
      refine ⟨⟨j + 1, by omega, ?_, Lib.hid ⟨?_, hkr⟩⟩, ?_⟩
      · simp
      · rw [HST.out]; exact A5
      · simp [intOf]; omega
    · have i2 : ¬ (j : Int) < 3 := by omega
      obtain rfl : j = 3 := by omega
      have hk5 := HX.out.2
      have A5 : At W y l (oneR [k1, k2, k3] R2) (k + 5) wr := HX.out.1
      have hkf := HA3.out.2.transX hk5
      clear HX HR HNW
      go_wp2_with fail
      go_ret
      exact ⟨rfl, A5, hkf⟩
end Go.Proofs.YtpcoonnfaoakhaaGreatDoor
namespace Go.Proofs.YtpcoonnfaoakhaaGreatDoor
set_option maxRecDepth 100000
open Go Go.RowKit
set_option linter.unusedVariables false

def inStE (R : List Pr) (id : ByteArray) (st : Nat) : Int := match getCh R id with
  | none => 120
  | some c => if c.st = st then 0 else 111
def inStV (R : List Pr) (id : ByteArray) (st : Nat) : ChV := if inStE R id st = 0 then (getCh R id).getD ChV.none else ChV.none
set_option maxHeartbeats 4000000 in
theorem instate_any {W w : World} {y : Lyr} {l : List Lyr} {R : List Pr} {k : Nat} (h : At W y l R k w) (id : ByteArray) (hv : id.size ≤ 100000000) (want : Nat) :
    Calls Tryz.prog 149 #[.pointer (some ⟨y.b, 0, none⟩), .string id, .int .u64 (want : Int)] w fun e w' => e = .returned (.tuple #[(inStV R id want).val, .int .i64 (inStE R id want)]) ∧ Below w.heap.size w w' := by
  have hk0 := heap_alloc_new w (.cells #[.int .u64 0, .bool false, .string ⟨#[]⟩, .string ⟨#[]⟩, .string ⟨#[]⟩, .string ⟨#[]⟩, .string ⟨#[]⟩] 59)
  have ha0 : Below w.heap.size w (w.alloc (.cells #[.int .u64 0, .bool false, .string ⟨#[]⟩, .string ⟨#[]⟩, .string ⟨#[]⟩, .string ⟨#[]⟩, .string ⟨#[]⟩] 59)) := (Below.refl _ _).alloc (Nat.le_refl _) _
  have HG := Lib.hid (chget_any (h.up ha0) id hv)
  generalize hW0 : w.alloc (.cells #[.int .u64 0, .bool false, .string ⟨#[]⟩, .string ⟨#[]⟩, .string ⟨#[]⟩, .string ⟨#[]⟩, .string ⟨#[]⟩] 59) = w0 at *
  obtain ⟨B, hB⟩ : ∃ B : Addr, B = ⟨y.b, 0, none⟩ := ⟨_, rfl⟩
  rw [← hB] at HG ⊢
  clear hB h
  obtain ⟨V, hV⟩ : ∃ V, V = (Value.tuple #[(inStV R id want).val, .int .i64 (inStE R id want)]) := ⟨_, rfl⟩
  rw [← hV]
  unfold inStV inStE at hV
  generalize getCh R id = o at *
  have HO := Lib.hid hV
  clear hV
  go_enter Tryz.func149, Tryz.ntmps149
  cases o with
  | none =>
    have hv : V = .tuple #[ChV.none.val, .int .i64 120] := by rw [HO.out]; rfl
    unfold chV ChV.val ChV.none at HG
    dsimp only at HG
    clear HO
    go_wp2_with fail
    try rw [hW0]
    clear hW0
    refine HG.out.mono ?_
    rintro e w1 ⟨rfl, hb1⟩
    have q1' := below_chain ha0 ha0.size hb1
    have k1 := (hb1.block _ (blk_lt hk0)).trans hk0
    have q2' := q1'.alloc q1'.size (.cells #[.int .u64 0, .bool false, .string ⟨#[]⟩, .string ⟨#[]⟩, .string ⟨#[]⟩, .string ⟨#[]⟩, .string ⟨#[]⟩] 59)
    replace k1 := (Below.heap_alloc w1 (.cells #[.int .u64 0, .bool false, .string ⟨#[]⟩, .string ⟨#[]⟩, .string ⟨#[]⟩, .string ⟨#[]⟩, .string ⟨#[]⟩] 59) _ (blk_lt k1)).trans k1
    clear HG hk0 ha0 hb1 q1'
    have r0 := blk_cell k1 0
    have q0 := blk_free k1 0
    have r1 := blk_cell k1 1
    have q1 := blk_free k1 1
    have r2 := blk_cell k1 2
    have q2 := blk_free k1 2
    have r3 := blk_cell k1 3
    have q3 := blk_free k1 3
    have r4 := blk_cell k1 4
    have q4 := blk_free k1 4
    have r5 := blk_cell k1 5
    have q5 := blk_free k1 5
    have r6 := blk_cell k1 6
    have q6 := blk_free k1 6
    have hk7 := set7P k1 (.int .u64 0) (.bool false) (.string ⟨#[]⟩) (.string ⟨#[]⟩) (.string ⟨#[]⟩) (.string ⟨#[]⟩) (.string ⟨#[]⟩)
    have hb7 := below_set7P q2' (Nat.le_refl _) (.int .u64 0) (.bool false) (.string ⟨#[]⟩) (.string ⟨#[]⟩) (.string ⟨#[]⟩) (.string ⟨#[]⟩) (.string ⟨#[]⟩)
    have HD := Lib.hid (And.intro (blk_cell hk7 0) (And.intro (blk_cell hk7 1) (And.intro (blk_cell hk7 2) (And.intro (blk_cell hk7 3) (And.intro (blk_cell hk7 4) (And.intro (blk_cell hk7 5) (blk_cell hk7 6)))))))
    have HVV := Lib.hid hv
    clear hk7 hv
    go_wp2_with fail
    obtain ⟨d0, d1, d2, d3, d4, d5, d6⟩ := HD.out
    refine bodyPost_ret (v := V) ?_ rfl ⟨rfl, hb7⟩
    rw [HVV.out]
    simp at d0 d1 d2 d3 d4 d5 d6
    simp [results, Tryz.results149, go_sem, d0, d1, d2, d3, d4, d5, d6, ChV.val, ChV.none]
  | some c =>
    obtain ⟨st, od, po, cp, cn, cc, ve⟩ := c
    unfold chV ChV.val at HG
    dsimp only at HG
    go_wp2_with fail
    try rw [hW0]
    clear hW0
    refine HG.out.mono ?_
    rintro e w1 ⟨rfl, hb1⟩
    have q1' := below_chain ha0 ha0.size hb1
    have k1 := (hb1.block _ (blk_lt hk0)).trans hk0
    have q2' := q1'.alloc q1'.size (.cells #[.int .u64 (st : Int), .bool od, .string po, .string cp, .string cn, .string cc, .string ve] 59)
    replace k1 := (Below.heap_alloc w1 (.cells #[.int .u64 (st : Int), .bool od, .string po, .string cp, .string cn, .string cc, .string ve] 59) _ (blk_lt k1)).trans k1
    have m1 := heap_alloc_new w1 (.cells #[.int .u64 (st : Int), .bool od, .string po, .string cp, .string cn, .string cc, .string ve] 59)
    clear HG hk0 ha0 hb1 q1'
    have r0 := blk_cell k1 0
    have q0 := blk_free k1 0
    have r1 := blk_cell k1 1
    have q1 := blk_free k1 1
    have r2 := blk_cell k1 2
    have q2 := blk_free k1 2
    have r3 := blk_cell k1 3
    have q3 := blk_free k1 3
    have r4 := blk_cell k1 4
    have q4 := blk_free k1 4
    have r5 := blk_cell k1 5
    have q5 := blk_free k1 5
    have r6 := blk_cell k1 6
    have q6 := blk_free k1 6
    have s0 := blk_cell m1 0
    have s1 := blk_cell m1 1
    have s2 := blk_cell m1 2
    have s3 := blk_cell m1 3
    have s4 := blk_cell m1 4
    have s5 := blk_cell m1 5
    have s6 := blk_cell m1 6
    by_cases h3 : st = want
    · have hv : V = .tuple #[.agg #[.int .u64 (st : Int), .bool od, .string po, .string cp, .string cn, .string cc, .string ve], .int .i64 0] := by
        rw [HO.out]
        simp only [if_pos h3]
        rfl
      have hne : ((st : Int) == (want : Int)) = true := by
        simp
        omega
      clear HO h3
      have hk7 := set7P k1 (.int .u64 (st : Int)) (.bool od) (.string po) (.string cp) (.string cn) (.string cc) (.string ve)
      have hb7 := below_set7P q2' (Nat.le_refl _) (.int .u64 (st : Int)) (.bool od) (.string po) (.string cp) (.string cn) (.string cc) (.string ve)
      have HD := Lib.hid (And.intro (blk_cell hk7 0) (And.intro (blk_cell hk7 1) (And.intro (blk_cell hk7 2) (And.intro (blk_cell hk7 3) (And.intro (blk_cell hk7 4) (And.intro (blk_cell hk7 5) (blk_cell hk7 6)))))))
      have HVV := Lib.hid hv
      clear hk7 hv
      go_wp2_with fail
      obtain ⟨d0, d1, d2, d3, d4, d5, d6⟩ := HD.out
      refine bodyPost_ret (v := V) ?_ rfl ⟨rfl, hb7⟩
      rw [HVV.out]
      simp at d0 d1 d2 d3 d4 d5 d6
      simp [results, Tryz.results149, go_sem, d0, d1, d2, d3, d4, d5, d6, ChV.val, ChV.none]
    · have hv : V = .tuple #[ChV.none.val, .int .i64 111] := by
        rw [HO.out]
        simp only [if_neg h3]
        rfl
      have hne : ((st : Int) == (want : Int)) = false := by
        simp
        omega
      clear HO h3
      have hk7 := set7P k1 (.int .u64 0) (.bool false) (.string ⟨#[]⟩) (.string ⟨#[]⟩) (.string ⟨#[]⟩) (.string ⟨#[]⟩) (.string ⟨#[]⟩)
      have hb7 := below_set7P q2' (Nat.le_refl _) (.int .u64 0) (.bool false) (.string ⟨#[]⟩) (.string ⟨#[]⟩) (.string ⟨#[]⟩) (.string ⟨#[]⟩) (.string ⟨#[]⟩)
      have HD := Lib.hid (And.intro (blk_cell hk7 0) (And.intro (blk_cell hk7 1) (And.intro (blk_cell hk7 2) (And.intro (blk_cell hk7 3) (And.intro (blk_cell hk7 4) (And.intro (blk_cell hk7 5) (blk_cell hk7 6)))))))
      have HVV := Lib.hid hv
      clear hk7 hv
      go_wp2_with fail
      obtain ⟨d0, d1, d2, d3, d4, d5, d6⟩ := HD.out
      refine bodyPost_ret (v := V) ?_ rfl ⟨rfl, hb7⟩
      rw [HVV.out]
      simp at d0 d1 d2 d3 d4 d5 d6
      simp [results, Tryz.results149, go_sem, d0, d1, d2, d3, d4, d5, d6, ChV.val, ChV.none]
set_option maxHeartbeats 4000000 in
theorem chclose_no {W w : World} {y : Lyr} {l : List Lyr} {R : List Pr} {k : Nat} (h : At W y l R k w) (id : ByteArray) (hv : id.size ≤ 100000000) (hne : inStE R id 3 ≠ 0) :
    Calls Tryz.prog 86 #[.pointer (some ⟨y.b, 0, none⟩), .string id] w fun e w' => e = .returned (.int .i64 (inStE R id 3)) ∧ Below w.heap.size w w' := by
  have HI := Lib.hid (instate_any h id hv 3)
  generalize inStV R id 3 = V at *
  generalize inStE R id 3 = E at *
  obtain ⟨st, od, po, cp, cn, cc, ve⟩ := V
  unfold ChV.val at HI
  dsimp only at HI
  have he : (E != 0) = true := by simpa using hne
  clear h hne
  go_enter Tryz.func86, Tryz.ntmps86
  go_wp2_with fail
  refine HI.out.mono ?_
  rintro e w1 ⟨rfl, hb1⟩
  have hb2 := hb1.alloc hb1.size (.cells #[.int .u64 (st : Int), .bool od, .string po, .string cp, .string cn, .string cc, .string ve] 59)
  go_wp2_with fail
  go_ret
  exact ⟨rfl, hb2⟩
set_option maxHeartbeats 4000000 in
theorem chbegin_any {W w : World} {y : Lyr} {l : List Lyr} {R : List Pr} {k : Nat} (h : At W y l R k w) (hn : y.n + k + 5 ≤ maxLen) (hs : numN R sChan < 10) (via po cp : ByteArray) (od : Bool) (ve : ByteArray) (h_via : via.size ≤ 100000000) (h_po : po.size ≤ 100000000) (h_cp : cp.size ≤ 100000000) (h_ve : ve.size ≤ 100000000) :
    Calls Tryz.prog 28 #[.pointer (some ⟨y.b, 0, none⟩), .string via, .string po, .string cp, .bool od, .string ve] w fun e w' => e = .returned (.tuple #[.string (beginI R via po cp od ve), .int .i64 (beginE R via po cp od ve)]) ∧ At W y l (beginR R via po cp od ve) (k + 5) w' ∧ Kept w w' := by
  have HO := Lib.hid (chopen_any h via h_via)
  have HF := Lib.hid (fun Z : World => form_any po cp od ve Z h_ve)
  have HM : Hid (∀ Z, Below w.heap.size w Z → Calls Tryz.prog 89 #[.pointer (some ⟨y.b, 0, none⟩), .agg #[.int .u64 1, .bool od, .string po, .string cp, .string via, .string ⟨#[]⟩, .string ve]] Z fun e w' => e = .returned (.string (newID R sChan)) ∧ At W y l (madeCh R ⟨1, od, po, cp, via, ⟨#[]⟩, ve⟩) (k + 5) w' ∧ Kept Z w') :=
    Lib.hid fun Z hz => chmade_any (h.up hz) hn hs ⟨1, od, po, cp, via, ⟨#[]⟩, ve⟩ (by show 1 < _; decide) (by show po.size ≤ _; unfold maxLen; omega) (by show cp.size ≤ _; unfold maxLen; omega) (by show via.size ≤ _; unfold maxLen; omega) (by show 0 ≤ _; omega) (by show ve.size ≤ _; unfold maxLen; omega)
  have HA := Lib.hid (fun (Z : World) (hz : Below w.heap.size w Z) => (h.up hz).more (show k ≤ k + 5 by omega))
  unfold beginI beginR beginE
  generalize madeCh R ⟨1, od, po, cp, via, ⟨#[]⟩, ve⟩ = R2 at *
  generalize newID R sChan = id at *
  generalize formM po cp od ve = F at *
  generalize openV R via = V at *
  generalize openE R via = E at *
  obtain ⟨st, cl, cc, ct⟩ := V
  unfold CnV.val at HO
  dsimp only at HO
  clear h hn hs h_via h_po h_cp h_ve
  have he0 : ∀ E : Int, E ≠ 0 → (E != 0) = true := fun E h => by simpa using h
  by_cases hE : E = 0
  · subst hE
    by_cases hF : F = 0
    · subst hF
      rw [if_pos rfl, if_pos rfl]
      simp only [if_true]
      clear he0
      go_enter Tryz.func28, Tryz.ntmps28
      go_wp2_with fail
      refine HO.out.mono ?_
      rintro e w1 ⟨rfl, hb1⟩
      have hb2 := hb1.alloc hb1.size (.cells #[.int .u64 (st : Int), .string cl, .string cc, .string ct] 62)
      clear hb1 HO
      go_wp2_with fail
      generalize w1.alloc (.cells #[.int .u64 (st : Int), .string cl, .string cc, .string ct] 62) = w2 at *
      refine (HF.out _).mono ?_
      rintro e w3 ⟨rfl, rfl⟩
      have HM2 := Lib.hid (HM.out _ hb2)
      have hk2 := Kept.of_belowX hb2
      clear HF HA HM hb2
      go_wp2_with fail
      refine HM2.out.mono ?_
      rintro e w4 ⟨rfl, A4, hk4⟩
      have hkf := hk2.transX hk4
      go_wp2_with fail
      go_ret2
      exact ⟨rfl, A4, hkf⟩
    · have he := he0 F hF
      simp only [if_true, if_neg hF]
      clear he0 hF
      go_enter Tryz.func28, Tryz.ntmps28
      go_wp2_with fail
      refine HO.out.mono ?_
      rintro e w1 ⟨rfl, hb1⟩
      have hb2 := hb1.alloc hb1.size (.cells #[.int .u64 (st : Int), .string cl, .string cc, .string ct] 62)
      clear hb1 HO
      go_wp2_with fail
      generalize w1.alloc (.cells #[.int .u64 (st : Int), .string cl, .string cc, .string ct] 62) = w2 at *
      refine (HF.out _).mono ?_
      rintro e w3 ⟨rfl, rfl⟩
      have A2 := HA.out _ hb2
      have hk2 := Kept.of_belowX hb2
      clear HF HA HM hb2
      go_wp2_with fail
      go_ret2
      exact ⟨rfl, A2, hk2⟩
  · have he := he0 E hE
    simp only [if_neg hE]
    clear he0 hE
    go_enter Tryz.func28, Tryz.ntmps28
    go_wp2_with fail
    refine HO.out.mono ?_
    rintro e w1 ⟨rfl, hb1⟩
    have hb2 := hb1.alloc hb1.size (.cells #[.int .u64 (st : Int), .string cl, .string cc, .string ct] 62)
    clear hb1 HO
    have A2 := HA.out _ hb2
    have hk2 := Kept.of_belowX hb2
    clear HF HA HM hb2
    go_wp2_with fail
    go_ret2
    exact ⟨rfl, A2, hk2⟩
end Go.Proofs.YtpcoonnfaoakhaaGreatDoor
namespace Go.Proofs.YtpcoonnfaoakhaaGreatDoor
set_option maxRecDepth 100000
open Go Go.RowKit
set_option linter.unusedVariables false

def sClient0 : ByteArray := ⟨#[99, 108, 105, 101, 110, 116, 45, 48]⟩
def sClient1 : ByteArray := ⟨#[99, 108, 105, 101, 110, 116, 45, 49]⟩
def sConn5 : ByteArray := ⟨#[99, 111, 110, 110, 45, 53]⟩
def sConn0 : ByteArray := ⟨#[99, 111, 110, 110, 45, 48]⟩
def sChan0 : ByteArray := ⟨#[99, 104, 97, 110, 45, 48]⟩
def fixCn : CnV := ⟨3, sClient0, sClient1, sConn5⟩
def fixCnR : List Pr := [(kConn sConn0, cnB fixCn)]
def fixChR : List Pr := beginR fixCnR sConn0 sTransfer sTransfer false sIcs20
theorem fixCh1 : beginE fixCnR sConn0 sTransfer sTransfer false sIcs20 = 0 := by decide +kernel
theorem fixCh2 : beginI fixCnR sConn0 sTransfer sTransfer false sIcs20 = sChan0 := by decide +kernel
theorem fixCh3 : beginE fixChR sConn0 sTransfer sTransfer true sIcs20 = 122 := by decide +kernel
theorem fixCh4 : beginE fixChR sConn0 sHost sTransfer true sIcs20 = 121 := by decide +kernel
theorem beginR_no {R : List Pr} {via po cp : ByteArray} {od : Bool} {ve : ByteArray} (h : beginE R via po cp od ve ≠ 0) : beginR R via po cp od ve = R := by unfold beginR; rw [if_neg h]
theorem fixCh5 : getCh fixChR sChan0 = some ⟨1, false, sTransfer, sTransfer, sConn0, ⟨#[]⟩, sIcs20⟩ := by kernel_rfl
theorem fixCh6 : inStE fixChR sChan0 3 = 111 := by decide +kernel
theorem fixCh7 : numN fixCnR sChan < 10 := by decide +kernel
theorem fixCh8 : numN fixChR sChan < 10 := by decide +kernel
theorem fixKey : kConn sConn0 = ⟨#[105, 98, 99, 47, 99, 111, 110, 110, 47, 99, 111, 110, 110, 45, 48]⟩ := by decide +kernel
theorem fixSmallCn : ∀ p ∈ fixCnR, p.1.size ≤ maxLen := by decide +kernel
/-- one pair, its value in a row of its own -/
theorem rdp_one (w : World) (s : ByteArray) (v : Value) (l : List UInt8) (hr : Rd w w.heap.size v l) : RdP (w.alloc (.cells #[.string s, v] 48)) (w.alloc (.cells #[.string s, v] 48)).heap.size (.slice (some ⟨w.heap.size, 0, none⟩) 1 1) [(s, l)] := by
  have hb : Below w.heap.size w (w.alloc (.cells #[.string s, v] 48)) := (Below.refl _ _).alloc (Nat.le_refl _) _
  have hg := heap_alloc_new w (.cells #[.string s, v] 48)
  refine ⟨_, _, rfl, Nat.le_refl _, by simp [maxLen], fun _ => ⟨w.heap.size, 0, rfl, blk_lt hg, fun j hj => ?_⟩⟩
  rcases j with _ | j
  · exact ⟨blk_cell hg 0, _, blk_cell hg 1, (hr.below hb).more hb.size⟩
  · simp at hj
set_option maxHeartbeats 8000000 in
theorem chfixed_any (w : World) : Calls Tryz.prog 27 #[] w fun e w' => e = .returned (.bool true) ∧ Below w.heap.size w w' := by
  have HB := Lib.hid (cnbytes_any fixCn w (by show 3 < _; decide) (by decide +kernel) (by decide +kernel) (by decide +kernel))
  have HN : Hid (∀ (Z : World) (v : Value) (B : Nat), Own Z B v (cnB fixCn) → Calls Tryz.prog 7 #[.slice (some ⟨Z.heap.size, 0, none⟩) 1 1] (Z.alloc (.cells #[.string (kConn sConn0), v] 48)) fun e w' => ∃ y : Lyr, e = .returned (.tuple #[.pointer (some ⟨y.b, 0, none⟩), .int .i64 0]) ∧ Z.heap.size ≤ y.m ∧ y.n = 1 ∧ At w' y [] fixCnR 0 w' ∧ Below Z.heap.size (Z.alloc (.cells #[.string (kConn sConn0), v] 48)) w') := Lib.hid fun Z v B ho => by
    refine (new_any _ _ fixCnR (rdp_one Z (kConn sConn0) v _ ho.rd) fixSmallCn).mono ?_
    rintro e w' ⟨⟨h, -⟩ | ⟨-, y, he, h1, h2, h3, h4, h5, h6⟩, hb⟩
    · exact absurd h (by decide +kernel)
    · have hs : Z.heap.size ≤ (Z.alloc (.cells #[.string (kConn sConn0), v] 48)).heap.size := ((Below.refl Z.heap.size Z).alloc (Nat.le_refl _) _).size
      exact ⟨y, he, Nat.le_trans hs h2, h3, At.made h6 h4 h5 fixSmallCn, hb.mono hs⟩
  rw [fixKey] at HN
  have h0 : ∀ Z v, Below Z.heap.size Z (Z.alloc (.cells #[.string ⟨#[105, 98, 99, 47, 99, 111, 110, 110, 47, 99, 111, 110, 110, 45, 48]⟩, v] 48)) := fun Z v => (Below.refl _ _).alloc (Nat.le_refl _) _
  unfold CnV.val at HB
  generalize cnB fixCn = LB at *
  unfold fixCn sClient0 sClient1 sConn5 at HB
  dsimp only at HB
  go_enter Tryz.func27, Tryz.ntmps27
  go_wp2_with fail
  refine HB.out.mono ?_
  rintro e w1 ⟨v1, rfl, ho1, hb1⟩
  have HN1 := Lib.hid (HN.out w1 v1 _ ho1)
  have q0 := h0 w1 v1
  obtain ⟨A1, c1, rfl⟩ := ho1.form
  generalize LB.length = n1 at *
  clear HB HN ho1 h0
  go_wp2_with fail
  refine HN1.out.mono ?_
  rintro e w2 ⟨y, rfl, hym, hyn, A2, hb2⟩
  have q2 : Below w.heap.size w w2 := hb1.trans ((q0.mono hb1.size).trans (hb2.mono hb1.size))
  have hym2 : w.heap.size ≤ y.m := Nat.le_trans hb1.size hym
  obtain ⟨yb, ym, yn, yf⟩ := y
  dsimp only at hyn hym2 ⊢
  subst hyn
  have HG1 := Lib.hid (chbegin_any A2 (show 1 + 0 + 5 ≤ maxLen by unfold maxLen; decide) fixCh7 sConn0 sTransfer sTransfer false sIcs20 (by decide +kernel) (by decide +kernel) (by decide +kernel) (by decide +kernel))
  rw [fixCh1, fixCh2, show beginR fixCnR sConn0 sTransfer sTransfer false sIcs20 = fixChR from rfl] at HG1
  have HQ := Lib.hid (And.intro q2 hym2)
  clear HN1 q0 hb1 hb2 hym q2 hym2 A2
  unfold sConn0 sTransfer sIcs20 sChan0 at HG1
  go_wp2_with fail
  refine HG1.out.mono ?_
  rintro e w3 ⟨rfl, A3, -⟩
  have HG2 := Lib.hid (chbegin_any A3 (show 1 + (0 + 5) + 5 ≤ maxLen by unfold maxLen; decide) fixCh8 sConn0 sTransfer sTransfer true sIcs20 (by decide +kernel) (by decide +kernel) (by decide +kernel) (by decide +kernel))
  rw [show beginI fixChR sConn0 sTransfer sTransfer true sIcs20 = ⟨#[]⟩ by unfold beginI; rw [fixCh3]; rfl, beginR_no (by rw [fixCh3]; decide), fixCh3] at HG2
  clear HG1 A3
  unfold sConn0 sTransfer sIcs20 at HG2
  go_wp2_with fail
  refine HG2.out.mono ?_
  rintro e w4 ⟨rfl, A4, -⟩
  have HG3 := Lib.hid (chbegin_any A4 (show 1 + (0 + 5 + 5) + 5 ≤ maxLen by unfold maxLen; decide) fixCh8 sConn0 sHost sTransfer true sIcs20 (by decide +kernel) (by decide +kernel) (by decide +kernel) (by decide +kernel))
  rw [show beginI fixChR sConn0 sHost sTransfer true sIcs20 = ⟨#[]⟩ by unfold beginI; rw [fixCh4]; rfl, beginR_no (by rw [fixCh4]; decide), fixCh4] at HG3
  clear HG2 A4
  unfold sConn0 sTransfer sHost sIcs20 at HG3
  go_wp2_with fail
  refine HG3.out.mono ?_
  rintro e w5 ⟨rfl, A5, -⟩
  have HG4 := Lib.hid (chget_any A5 sChan0 (by decide +kernel))
  rw [fixCh5] at HG4
  unfold chV ChV.val sChan0 sTransfer sConn0 sIcs20 at HG4
  dsimp only at HG4
  have HA5 := Lib.hid A5
  clear HG3 A5
  go_wp2_with fail
  refine HG4.out.mono ?_
  rintro e w6 ⟨rfl, hb6⟩
  have A6 := HA5.out.up (hb6.alloc hb6.size (.cells #[.int .u64 1, .bool false, .string ⟨#[116, 114, 97, 110, 115, 102, 101, 114]⟩, .string ⟨#[116, 114, 97, 110, 115, 102, 101, 114]⟩, .string ⟨#[99, 111, 110, 110, 45, 48]⟩, .string ⟨#[]⟩, .string ⟨#[105, 99, 115, 50, 48]⟩] 59))
  have HG5 := Lib.hid (chclose_no A6 sChan0 (by decide +kernel) (by rw [fixCh6]; decide))
  rw [fixCh6] at HG5
  unfold sChan0 at HG5
  have HA6 := Lib.hid A6
  clear HG4 HA5 A6 hb6
  go_wp2_with fail
  refine HG5.out.mono ?_
  rintro e w7 ⟨rfl, hb7⟩
  have A7 := HA6.out.up hb7
  have hq := HQ.out.1.trans (A7.below HQ.out.2 HQ.out.1.size)
  go_wp2_with fail
  go_ret
  exact ⟨rfl, hq⟩
end Go.Proofs.YtpcoonnfaoakhaaGreatDoor
namespace Go.Proofs.YtpcoonnfaoakhaaGreatDoor
set_option maxRecDepth 100000
open Go Go.RowKit
set_option linter.unusedVariables false

def icaP : ByteArray := ⟨#[105, 99, 97, 46]⟩
def dotB : ByteArray := ⟨#[46]⟩
def actP : ByteArray := ⟨#[105, 99, 97, 47, 97, 99, 116, 105, 118, 101, 47]⟩
/-- an owner's account; where the channel is kept that an owner asked for last -/
def kIca (a b : ByteArray) : ByteArray := ((icaP ++ a) ++ dotB) ++ b
def kAct (a b : ByteArray) : ByteArray := ((actP ++ a) ++ slB) ++ b
/-- is there a channel of that owner's already, that isn't closed? -/
def busyB (R : List Pr) (via owner : ByteArray) : Bool := match getL R (kAct via owner) with
  | none => false
  | some l => match getCh R ⟨l.toArray⟩ with
    | none => false
    | some c => !decide (c.st = 4)
def regE (R : List Pr) (owner via : ByteArray) : Int := if identB owner = true then (if identB via = true then (if busyB R via owner = true then 111 else beginE R via sControl sHost true owner) else 160) else 160
def regI (R : List Pr) (owner via : ByteArray) : ByteArray := if regE R owner via = 0 then newID R sChan else ⟨#[]⟩
def regR (R : List Pr) (owner via : ByteArray) : List Pr := if regE R owner via = 0 then setL (kAct via owner) (strBytes (newID R sChan)) (beginR R via sControl sHost true owner) else R
end Go.Proofs.YtpcoonnfaoakhaaGreatDoor
namespace Go.Proofs.YtpcoonnfaoakhaaGreatDoor
set_option maxRecDepth 100000
open Go Go.RowKit
set_option linter.unusedVariables false

def sAnn : ByteArray := ⟨#[97, 110, 110]⟩
def sBob : ByteArray := ⟨#[98, 111, 98]⟩
def fixIcaR : List Pr := regR fixCnR sAnn sConn0
end Go.Proofs.YtpcoonnfaoakhaaGreatDoor
