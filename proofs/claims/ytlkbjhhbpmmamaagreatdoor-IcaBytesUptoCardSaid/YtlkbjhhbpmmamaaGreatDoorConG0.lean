
/- The walks of connections and channels being read. The walks of connections and channels in bytes. -/
import Derived.Test.YtlkbjhhbpmmamaaGreatDoorCliM
namespace Go.Proofs.YtlkbjhhbpmmamaaGreatDoor
set_option maxRecDepth 100000
open Go Go.RowKit
set_option linter.unusedVariables false

theorem cnkey_any (a : ByteArray) (w : World) (ha : a.size ≤ 100000000) : Calls Tryz.prog 213 #[.string a] w fun e w' => e = .returned (.string (kConn a)) ∧ w = w' := by
  have s1 : connP.size = 9 := rfl
  have h1 := fun W => txt_add connP a (by rw [s1]; omega) W
  unfold kConn
  unfold connP at *
  go_enter Tryz.func213, Tryz.ntmps213
  go_wp2
  go_ret
  exact ⟨rfl, rfl⟩
theorem chkey_any (a : ByteArray) (w : World) (ha : a.size ≤ 100000000) : Calls Tryz.prog 43 #[.string a] w fun e w' => e = .returned (.string (kChn a)) ∧ w = w' := by
  have s1 : chanP.size = 9 := rfl
  have h1 := fun W => txt_add chanP a (by rw [s1]; omega) W
  unfold kChn
  unfold chanP at *
  go_enter Tryz.func43, Tryz.ntmps43
  go_wp2
  go_ret
  exact ⟨rfl, rfl⟩
set_option maxHeartbeats 8000000 in
theorem cnget_any {W w : World} {y : Lyr} {l : List Lyr} {R : List Pr} {k : Nat} (h : At W y l R k w) (a : ByteArray) (ha : a.size ≤ 100000000) :
    Calls Tryz.prog 176 #[.pointer (some ⟨y.b, 0, none⟩), .string a] w fun e w' => e = .returned (cnV (getCn R a)) ∧ Below w.heap.size w w' := by
  have HG := Lib.hid (fun (Z : World) (hz : Below w.heap.size w Z) => (h.up hz).get (kConn a) (by rw [kConn_size]; unfold maxLen; omega))
  have HFT : Hid (∀ v, getL R (kConn a) = some v → v.length ≤ 2000000) := Lib.hid (fun v e => Nat.le_trans (h.fits (key := kConn a) (v := v) e).2 (by decide))
  obtain ⟨B, hB⟩ : ∃ B : Addr, B = ⟨y.b, 0, none⟩ := ⟨_, rfl⟩
  rw [← hB] at HG ⊢
  clear hB h
  have HK := Lib.hid (fun W => (cnkey_any a W ha).mono fun e w' ⟨h1, h2⟩ => (⟨h1, h2.symm⟩ : _ ∧ w' = W))
  have HI : Hid (∀ Z : World, Calls Tryz.prog 82 #[.string a] Z fun e w' => e = .returned (.bool (identB a)) ∧ Z = w') := Lib.hid fun Z => ident_any a Z (by unfold maxLen; omega)
  obtain ⟨V, hV⟩ : ∃ V, V = cnV (getCn R a) := ⟨_, rfl⟩
  rw [← hV]
  unfold getCn at hV
  generalize getL R (kConn a) = o at *
  generalize kConn a = key at *
  generalize identB a = bi at *
  have hk0 := heap_alloc_new w (.cells #[.int .u64 0, .string ⟨#[]⟩, .string ⟨#[]⟩, .string ⟨#[]⟩] 85)
  have ha0 : Below w.heap.size w (w.alloc (.cells #[.int .u64 0, .string ⟨#[]⟩, .string ⟨#[]⟩, .string ⟨#[]⟩] 85)) := (Below.refl _ _).alloc (Nat.le_refl _) _
  go_enter Tryz.func176, Tryz.ntmps176
  go_wp2_with fail
  generalize w.alloc (.cells #[.int .u64 0, .string ⟨#[]⟩, .string ⟨#[]⟩, .string ⟨#[]⟩] 85) = w0 at *
  refine (HK.out _).mono ?_
  rintro e w9 ⟨rfl, rfl⟩
  go_wp2_with fail
  refine (HG.out _ ha0).mono ?_
  rintro e w1 ⟨v, rfl, hov, hb1⟩
  have hq1 := below_chain ha0 ha0.size hb1
  have hk1 := (hb1.block _ (blk_lt hk0)).trans hk0
  have hl0 := blk_lt hk0
  obtain ⟨gr, hgr⟩ : ∃ gr, gr = w.heap.size := ⟨_, rfl⟩
  rw [← hgr] at hk1
  clear HG HK ha0 hk0 hb1
  cases o with
  | none =>
    have hv : V = .tuple #[CnV.none.val, .bool false] := by rw [hV]; cases bi <;> rfl
    obtain ⟨A, c, rfl⟩ := hov.form
    have r0 := blk_cell hk1 0
    have q0 := blk_free hk1 0
    have r1 := blk_cell hk1 1
    have q1 := blk_free hk1 1
    have r2 := blk_cell hk1 2
    have q2 := blk_free hk1 2
    have r3 := blk_cell hk1 3
    have q3 := blk_free hk1 3
    clear hov HFT hV HI
    subst hgr
    have hk7 := set4P hk1 (.int .u64 0) (.string ⟨#[]⟩) (.string ⟨#[]⟩) (.string ⟨#[]⟩)
    have hb7 := below_set4P hq1 (Nat.le_refl _) (.int .u64 0) (.string ⟨#[]⟩) (.string ⟨#[]⟩) (.string ⟨#[]⟩)
    have HD := Lib.hid (And.intro (blk_cell hk7 0) (And.intro (blk_cell hk7 1) (And.intro (blk_cell hk7 2) (blk_cell hk7 3))))
    have HVV := Lib.hid hv
    clear hk7 hv
    go_wp2_with fail
    obtain ⟨d0, d1, d2, d3⟩ := HD.out
    refine bodyPost_ret (v := V) ?_ rfl ⟨rfl, hb7⟩
    rw [HVV.out]
    simp at d0 d1 d2 d3
    simp [results, Tryz.results176, go_sem, d0, d1, d2, d3, CnV.val, CnV.none]
  | some l =>
    have hll := HFT.out l rfl
    have HO := Lib.hid (open_rd v l w1 hov.rd (by omega))
    obtain ⟨A, c, rfl⟩ := hov.form
    clear hov HFT
    go_wp2_with fail
    refine (HI.out _).mono ?_
    rintro e w9 ⟨rfl, rfl⟩
    clear HI
    cases bi with
    | false =>
      have hv : V = .tuple #[CnV.none.val, .bool false] := by rw [hV]; rfl
      have r0 := blk_cell hk1 0
      have q0 := blk_free hk1 0
      have r1 := blk_cell hk1 1
      have q1 := blk_free hk1 1
      have r2 := blk_cell hk1 2
      have q2 := blk_free hk1 2
      have r3 := blk_cell hk1 3
      have q3 := blk_free hk1 3
      clear hV HO
      subst hgr
      have hk7 := set4P hk1 (.int .u64 0) (.string ⟨#[]⟩) (.string ⟨#[]⟩) (.string ⟨#[]⟩)
      have hb7 := below_set4P hq1 (Nat.le_refl _) (.int .u64 0) (.string ⟨#[]⟩) (.string ⟨#[]⟩) (.string ⟨#[]⟩)
      have HD := Lib.hid (And.intro (blk_cell hk7 0) (And.intro (blk_cell hk7 1) (And.intro (blk_cell hk7 2) (blk_cell hk7 3))))
      have HVV := Lib.hid hv
      clear hk7 hv
      go_wp2_with fail
      obtain ⟨d0, d1, d2, d3⟩ := HD.out
      refine bodyPost_ret (v := V) ?_ rfl ⟨rfl, hb7⟩
      rw [HVV.out]
      simp at d0 d1 d2 d3
      simp [results, Tryz.results176, go_sem, d0, d1, d2, d3, CnV.val, CnV.none]
    | true =>
      have HV := Lib.hid (show V = cnV (readCn l) from hV)
      unfold cnV readCn at HV
      clear hV
      go_wp2_with fail
      refine HO.out.mono ?_
      rintro e w2 ⟨g, rfl, hr2, hb2⟩
      have hq2 := below_chain hq1 hq1.size hb2
      have hk2 := (hb2.block _ (blk_lt hk1)).trans hk1
      have hgl := hr2.lt
      have hlo := blk_lt hk1
      generalize w1.heap.size = lo at *
      clear HO hb2 hk1 hq1
      have hgi := hr2.from_
      obtain ⟨gd, hgd⟩ : ∃ gd, gd = w2.heap.size := ⟨_, rfl⟩
      have P1 : PZ 180 w gr gd lo g 85 85 #[.int .u64 0, .string ⟨#[]⟩, .string ⟨#[]⟩, .string ⟨#[]⟩] #[.int .u64 0, .string ⟨#[]⟩, .string ⟨#[]⟩, .string ⟨#[]⟩] l 0 (w2.alloc (.cells #[.int .u64 0, .string ⟨#[]⟩, .string ⟨#[]⟩, .string ⟨#[]⟩] 85)) :=
        ⟨hq2.alloc hq2.size _, by omega, by have := hq2.size; omega, (Below.heap_alloc w2 _ _ (blk_lt hk2)).trans hk2, by rw [hgd]; exact heap_alloc_new w2 _, hr2.below ((Below.refl _ _).alloc (Nat.le_refl _) _), by omega, by omega⟩
      clear hq2 hk2 hr2 hgl hlo hgi
      go_wp2_with fail
      rw [← hgd]
      generalize w2.alloc (.cells #[.int .u64 0, .string ⟨#[]⟩, .string ⟨#[]⟩, .string ⟨#[]⟩] 85) = wz at *
      clear hgd
      refine (rN_any P1.rd).mono ?_
      rintro e wa1 ⟨rfl, hr, hg⟩
      replace P1 := P1.call hg hr
      clear hr hg
      have b_xa := rN_ltP l 0
      generalize rN l 0 = Q at *
      obtain ⟨xa, l_xa, f_xa⟩ := Q
      dsimp only at P1 HV b_xa ⊢
      have z0 := blk_cell P1.loc 0
      have f0 := blk_free P1.loc 0
      have P2 : PZ 180 w gr gd lo g _ 85 _ #[.int .u64 (xa : Int), .string ⟨#[]⟩, .string ⟨#[]⟩, .string ⟨#[]⟩] l_xa f_xa ((wa1).setCell ⟨gd, 0, none⟩ (.int .u64 (xa : Int))) := (P1.set 0 (.int .u64 (xa : Int)))
      clear P1
      go_wp2_with fail
      generalize (wa1).setCell ⟨gd, 0, none⟩ (.int .u64 (xa : Int)) = wb1 at *
      refine (rdT_any P2.rd).mono ?_
      rintro e wa2 ⟨rfl, hr, hg⟩
      replace P2 := P2.call hg hr
      clear hr hg
      have b_xb := rB_le l_xa f_xa
      generalize rB l_xa f_xa = Q at *
      obtain ⟨xb, l_xb, f_xb⟩ := Q
      dsimp only at P2 HV b_xb ⊢
      have z0 := blk_cell P2.loc 1
      have f0 := blk_free P2.loc 1
      have P3 : PZ 180 w gr gd lo g _ 85 _ #[.int .u64 (xa : Int), .string ⟨xb.toArray⟩, .string ⟨#[]⟩, .string ⟨#[]⟩] l_xb f_xb ((wa2).setCell ⟨gd, 1, none⟩ (.string ⟨xb.toArray⟩)) := (P2.set 1 (.string ⟨xb.toArray⟩))
      clear P2
      go_wp2_with fail
      generalize (wa2).setCell ⟨gd, 1, none⟩ (.string ⟨xb.toArray⟩) = wb2 at *
      refine (rdT_any P3.rd).mono ?_
      rintro e wa3 ⟨rfl, hr, hg⟩
      replace P3 := P3.call hg hr
      clear hr hg
      have b_xc := rB_le l_xb f_xb
      generalize rB l_xb f_xb = Q at *
      obtain ⟨xc, l_xc, f_xc⟩ := Q
      dsimp only at P3 HV b_xc ⊢
      have z0 := blk_cell P3.loc 2
      have f0 := blk_free P3.loc 2
      have P4 : PZ 180 w gr gd lo g _ 85 _ #[.int .u64 (xa : Int), .string ⟨xb.toArray⟩, .string ⟨xc.toArray⟩, .string ⟨#[]⟩] l_xc f_xc ((wa3).setCell ⟨gd, 2, none⟩ (.string ⟨xc.toArray⟩)) := (P3.set 2 (.string ⟨xc.toArray⟩))
      clear P3
      go_wp2_with fail
      generalize (wa3).setCell ⟨gd, 2, none⟩ (.string ⟨xc.toArray⟩) = wb3 at *
      refine (rdT_any P4.rd).mono ?_
      rintro e wa4 ⟨rfl, hr, hg⟩
      replace P4 := P4.call hg hr
      clear hr hg
      have b_xd := rB_le l_xc f_xc
      generalize rB l_xc f_xc = Q at *
      obtain ⟨xd, l_xd, f_xd⟩ := Q
      dsimp only at P4 HV b_xd ⊢
      have z0 := blk_cell P4.loc 3
      have f0 := blk_free P4.loc 3
      have P5 : PZ 180 w gr gd lo g _ 85 _ #[.int .u64 (xa : Int), .string ⟨xb.toArray⟩, .string ⟨xc.toArray⟩, .string ⟨xd.toArray⟩] l_xd f_xd ((wa4).setCell ⟨gd, 3, none⟩ (.string ⟨xd.toArray⟩)) := (P4.set 3 (.string ⟨xd.toArray⟩))
      clear P4
      go_wp2_with fail
      generalize (wa4).setCell ⟨gd, 3, none⟩ (.string ⟨xd.toArray⟩) = wb4 at *
      refine (rdEnd_any P5.rd).mono ?_
      rintro e w7 ⟨rfl, rfl⟩
      generalize rEnd l_xd f_xd = E at *
      subst hgr
      by_cases hE : E = 0
      · subst hE
        have hv := HV.out
        rw [if_pos rfl] at hv
        (try dsimp only at hv)
        clear HV
        have r0 := blk_cell P5.res 0
        have q0 := blk_free P5.res 0
        have r1 := blk_cell P5.res 1
        have q1 := blk_free P5.res 1
        have r2 := blk_cell P5.res 2
        have q2 := blk_free P5.res 2
        have r3 := blk_cell P5.res 3
        have q3 := blk_free P5.res 3
        have s0 := blk_cell P5.loc 0
        have s1 := blk_cell P5.loc 1
        have s2 := blk_cell P5.loc 2
        have s3 := blk_cell P5.loc 3
        have hk7 := set4P P5.res (.int .u64 (xa : Int)) (.string ⟨xb.toArray⟩) (.string ⟨xc.toArray⟩) (.string ⟨xd.toArray⟩)
        have hb7 := below_set4P P5.below P5.hr (.int .u64 (xa : Int)) (.string ⟨xb.toArray⟩) (.string ⟨xc.toArray⟩) (.string ⟨xd.toArray⟩)
        have HD := Lib.hid (And.intro (blk_cell hk7 0) (And.intro (blk_cell hk7 1) (And.intro (blk_cell hk7 2) (blk_cell hk7 3))))
        have HVV := Lib.hid hv
        clear hk7 hv
        go_wp2_with fail
        obtain ⟨d0, d1, d2, d3⟩ := HD.out
        refine bodyPost_ret (v := V) ?_ rfl ⟨rfl, hb7⟩
        rw [HVV.out]
        simp at d0 d1 d2 d3
        simp [results, Tryz.results176, go_sem, d0, d1, d2, d3, CnV.val, CnV.none]
      · have hne : (E != 0) = true := by simpa using hE
        have hv := HV.out
        rw [if_neg hE] at hv
        (try dsimp only at hv)
        clear HV
        have r0 := blk_cell P5.res 0
        have q0 := blk_free P5.res 0
        have r1 := blk_cell P5.res 1
        have q1 := blk_free P5.res 1
        have r2 := blk_cell P5.res 2
        have q2 := blk_free P5.res 2
        have r3 := blk_cell P5.res 3
        have q3 := blk_free P5.res 3
        have hk7 := set4P P5.res (.int .u64 0) (.string ⟨#[]⟩) (.string ⟨#[]⟩) (.string ⟨#[]⟩)
        have hb7 := below_set4P P5.below P5.hr (.int .u64 0) (.string ⟨#[]⟩) (.string ⟨#[]⟩) (.string ⟨#[]⟩)
        have HD := Lib.hid (And.intro (blk_cell hk7 0) (And.intro (blk_cell hk7 1) (And.intro (blk_cell hk7 2) (blk_cell hk7 3))))
        have HVV := Lib.hid hv
        clear hk7 hv
        go_wp2_with fail
        obtain ⟨d0, d1, d2, d3⟩ := HD.out
        refine bodyPost_ret (v := V) ?_ rfl ⟨rfl, hb7⟩
        rw [HVV.out]
        simp at d0 d1 d2 d3
        simp [results, Tryz.results176, go_sem, d0, d1, d2, d3, CnV.val, CnV.none]
set_option maxHeartbeats 8000000 in
theorem chget_any {W w : World} {y : Lyr} {l : List Lyr} {R : List Pr} {k : Nat} (h : At W y l R k w) (a : ByteArray) (ha : a.size ≤ 100000000) :
    Calls Tryz.prog 116 #[.pointer (some ⟨y.b, 0, none⟩), .string a] w fun e w' => e = .returned (chV (getCh R a)) ∧ Below w.heap.size w w' := by
  have HG := Lib.hid (fun (Z : World) (hz : Below w.heap.size w Z) => (h.up hz).get (kChn a) (by rw [kChn_size]; unfold maxLen; omega))
  have HFT : Hid (∀ v, getL R (kChn a) = some v → v.length ≤ 2000000) := Lib.hid (fun v e => Nat.le_trans (h.fits (key := kChn a) (v := v) e).2 (by decide))
  obtain ⟨B, hB⟩ : ∃ B : Addr, B = ⟨y.b, 0, none⟩ := ⟨_, rfl⟩
  rw [← hB] at HG ⊢
  clear hB h
  have HK := Lib.hid (fun W => (chkey_any a W ha).mono fun e w' ⟨h1, h2⟩ => (⟨h1, h2.symm⟩ : _ ∧ w' = W))
  have HI : Hid (∀ Z : World, Calls Tryz.prog 82 #[.string a] Z fun e w' => e = .returned (.bool (identB a)) ∧ Z = w') := Lib.hid fun Z => ident_any a Z (by unfold maxLen; omega)
  obtain ⟨V, hV⟩ : ∃ V, V = chV (getCh R a) := ⟨_, rfl⟩
  rw [← hV]
  unfold getCh at hV
  generalize getL R (kChn a) = o at *
  generalize kChn a = key at *
  generalize identB a = bi at *
  have hk0 := heap_alloc_new w (.cells #[.int .u64 0, .bool false, .string ⟨#[]⟩, .string ⟨#[]⟩, .string ⟨#[]⟩, .string ⟨#[]⟩, .string ⟨#[]⟩] 82)
  have ha0 : Below w.heap.size w (w.alloc (.cells #[.int .u64 0, .bool false, .string ⟨#[]⟩, .string ⟨#[]⟩, .string ⟨#[]⟩, .string ⟨#[]⟩, .string ⟨#[]⟩] 82)) := (Below.refl _ _).alloc (Nat.le_refl _) _
  go_enter Tryz.func116, Tryz.ntmps116
  go_wp2_with fail
  generalize w.alloc (.cells #[.int .u64 0, .bool false, .string ⟨#[]⟩, .string ⟨#[]⟩, .string ⟨#[]⟩, .string ⟨#[]⟩, .string ⟨#[]⟩] 82) = w0 at *
  refine (HK.out _).mono ?_
  rintro e w9 ⟨rfl, rfl⟩
  go_wp2_with fail
  refine (HG.out _ ha0).mono ?_
  rintro e w1 ⟨v, rfl, hov, hb1⟩
  have hq1 := below_chain ha0 ha0.size hb1
  have hk1 := (hb1.block _ (blk_lt hk0)).trans hk0
  have hl0 := blk_lt hk0
  obtain ⟨gr, hgr⟩ : ∃ gr, gr = w.heap.size := ⟨_, rfl⟩
  rw [← hgr] at hk1
  clear HG HK ha0 hk0 hb1
  cases o with
  | none =>
    have hv : V = .tuple #[ChV.none.val, .bool false] := by rw [hV]; cases bi <;> rfl
    obtain ⟨A, c, rfl⟩ := hov.form
    have r0 := blk_cell hk1 0
    have q0 := blk_free hk1 0
    have r1 := blk_cell hk1 1
    have q1 := blk_free hk1 1
    have r2 := blk_cell hk1 2
    have q2 := blk_free hk1 2
    have r3 := blk_cell hk1 3
    have q3 := blk_free hk1 3
    have r4 := blk_cell hk1 4
    have q4 := blk_free hk1 4
    have r5 := blk_cell hk1 5
    have q5 := blk_free hk1 5
    have r6 := blk_cell hk1 6
    have q6 := blk_free hk1 6
    clear hov HFT hV HI
    subst hgr
    have hk7 := set7P hk1 (.int .u64 0) (.bool false) (.string ⟨#[]⟩) (.string ⟨#[]⟩) (.string ⟨#[]⟩) (.string ⟨#[]⟩) (.string ⟨#[]⟩)
    have hb7 := below_set7P hq1 (Nat.le_refl _) (.int .u64 0) (.bool false) (.string ⟨#[]⟩) (.string ⟨#[]⟩) (.string ⟨#[]⟩) (.string ⟨#[]⟩) (.string ⟨#[]⟩)
    have HD := Lib.hid (And.intro (blk_cell hk7 0) (And.intro (blk_cell hk7 1) (And.intro (blk_cell hk7 2) (And.intro (blk_cell hk7 3) (And.intro (blk_cell hk7 4) (And.intro (blk_cell hk7 5) (blk_cell hk7 6)))))))
    have HVV := Lib.hid hv
    clear hk7 hv
    go_wp2_with fail
    obtain ⟨d0, d1, d2, d3, d4, d5, d6⟩ := HD.out
    refine bodyPost_ret (v := V) ?_ rfl ⟨rfl, hb7⟩
    rw [HVV.out]
    simp at d0 d1 d2 d3 d4 d5 d6
    simp [results, Tryz.results116, go_sem, d0, d1, d2, d3, d4, d5, d6, ChV.val, ChV.none]
  | some l =>
    have hll := HFT.out l rfl
    have HO := Lib.hid (open_rd v l w1 hov.rd (by omega))
    obtain ⟨A, c, rfl⟩ := hov.form
    clear hov HFT
    go_wp2_with fail
    refine (HI.out _).mono ?_
    rintro e w9 ⟨rfl, rfl⟩
    clear HI
    cases bi with
    | false =>
      have hv : V = .tuple #[ChV.none.val, .bool false] := by rw [hV]; rfl
      have r0 := blk_cell hk1 0
      have q0 := blk_free hk1 0
      have r1 := blk_cell hk1 1
      have q1 := blk_free hk1 1
      have r2 := blk_cell hk1 2
      have q2 := blk_free hk1 2
      have r3 := blk_cell hk1 3
      have q3 := blk_free hk1 3
      have r4 := blk_cell hk1 4
      have q4 := blk_free hk1 4
      have r5 := blk_cell hk1 5
      have q5 := blk_free hk1 5
      have r6 := blk_cell hk1 6
      have q6 := blk_free hk1 6
      clear hV HO
      subst hgr
      have hk7 := set7P hk1 (.int .u64 0) (.bool false) (.string ⟨#[]⟩) (.string ⟨#[]⟩) (.string ⟨#[]⟩) (.string ⟨#[]⟩) (.string ⟨#[]⟩)
      have hb7 := below_set7P hq1 (Nat.le_refl _) (.int .u64 0) (.bool false) (.string ⟨#[]⟩) (.string ⟨#[]⟩) (.string ⟨#[]⟩) (.string ⟨#[]⟩) (.string ⟨#[]⟩)
      have HD := Lib.hid (And.intro (blk_cell hk7 0) (And.intro (blk_cell hk7 1) (And.intro (blk_cell hk7 2) (And.intro (blk_cell hk7 3) (And.intro (blk_cell hk7 4) (And.intro (blk_cell hk7 5) (blk_cell hk7 6)))))))
      have HVV := Lib.hid hv
      clear hk7 hv
      go_wp2_with fail
      obtain ⟨d0, d1, d2, d3, d4, d5, d6⟩ := HD.out
      refine bodyPost_ret (v := V) ?_ rfl ⟨rfl, hb7⟩
      rw [HVV.out]
      simp at d0 d1 d2 d3 d4 d5 d6
      simp [results, Tryz.results116, go_sem, d0, d1, d2, d3, d4, d5, d6, ChV.val, ChV.none]
    | true =>
      have HV := Lib.hid (show V = chV (readCh l) from hV)
      unfold chV readCh at HV
      clear hV
      go_wp2_with fail
      refine HO.out.mono ?_
      rintro e w2 ⟨g, rfl, hr2, hb2⟩
      have hq2 := below_chain hq1 hq1.size hb2
      have hk2 := (hb2.block _ (blk_lt hk1)).trans hk1
      have hgl := hr2.lt
      have hlo := blk_lt hk1
      generalize w1.heap.size = lo at *
      clear HO hb2 hk1 hq1
      have hgi := hr2.from_
      obtain ⟨gd, hgd⟩ : ∃ gd, gd = w2.heap.size := ⟨_, rfl⟩
      have P1 : PZ 180 w gr gd lo g 82 82 #[.int .u64 0, .bool false, .string ⟨#[]⟩, .string ⟨#[]⟩, .string ⟨#[]⟩, .string ⟨#[]⟩, .string ⟨#[]⟩] #[.int .u64 0, .bool false, .string ⟨#[]⟩, .string ⟨#[]⟩, .string ⟨#[]⟩, .string ⟨#[]⟩, .string ⟨#[]⟩] l 0 (w2.alloc (.cells #[.int .u64 0, .bool false, .string ⟨#[]⟩, .string ⟨#[]⟩, .string ⟨#[]⟩, .string ⟨#[]⟩, .string ⟨#[]⟩] 82)) :=
        ⟨hq2.alloc hq2.size _, by omega, by have := hq2.size; omega, (Below.heap_alloc w2 _ _ (blk_lt hk2)).trans hk2, by rw [hgd]; exact heap_alloc_new w2 _, hr2.below ((Below.refl _ _).alloc (Nat.le_refl _) _), by omega, by omega⟩
      clear hq2 hk2 hr2 hgl hlo hgi
      go_wp2_with fail
      rw [← hgd]
      generalize w2.alloc (.cells #[.int .u64 0, .bool false, .string ⟨#[]⟩, .string ⟨#[]⟩, .string ⟨#[]⟩, .string ⟨#[]⟩, .string ⟨#[]⟩] 82) = wz at *
      clear hgd
      refine (rN_any P1.rd).mono ?_
      rintro e wa1 ⟨rfl, hr, hg⟩
      replace P1 := P1.call hg hr
      clear hr hg
      have b_xa := rN_ltP l 0
      generalize rN l 0 = Q at *
      obtain ⟨xa, l_xa, f_xa⟩ := Q
      dsimp only at P1 HV b_xa ⊢
      have z0 := blk_cell P1.loc 0
      have f0 := blk_free P1.loc 0
      have P2 : PZ 180 w gr gd lo g _ 82 _ #[.int .u64 (xa : Int), .bool false, .string ⟨#[]⟩, .string ⟨#[]⟩, .string ⟨#[]⟩, .string ⟨#[]⟩, .string ⟨#[]⟩] l_xa f_xa ((wa1).setCell ⟨gd, 0, none⟩ (.int .u64 (xa : Int))) := (P1.set 0 (.int .u64 (xa : Int)))
      clear P1
      go_wp2_with fail
      generalize (wa1).setCell ⟨gd, 0, none⟩ (.int .u64 (xa : Int)) = wb1 at *
      refine (rdF_any P2.rd).mono ?_
      rintro e wa2 ⟨rfl, hr, hg⟩
      replace P2 := P2.call hg hr
      clear hr hg
      generalize rF l_xa f_xa = Q at *
      obtain ⟨xb, l_xb, f_xb⟩ := Q
      dsimp only at P2 HV ⊢
      have z0 := blk_cell P2.loc 1
      have f0 := blk_free P2.loc 1
      have P3 : PZ 180 w gr gd lo g _ 82 _ #[.int .u64 (xa : Int), .bool xb, .string ⟨#[]⟩, .string ⟨#[]⟩, .string ⟨#[]⟩, .string ⟨#[]⟩, .string ⟨#[]⟩] l_xb f_xb ((wa2).setCell ⟨gd, 1, none⟩ (.bool xb)) := (P2.set 1 (.bool xb))
      clear P2
      go_wp2_with fail
      generalize (wa2).setCell ⟨gd, 1, none⟩ (.bool xb) = wb2 at *
      refine (rdT_any P3.rd).mono ?_
      rintro e wa3 ⟨rfl, hr, hg⟩
      replace P3 := P3.call hg hr
      clear hr hg
      have b_xc := rB_le l_xb f_xb
      generalize rB l_xb f_xb = Q at *
      obtain ⟨xc, l_xc, f_xc⟩ := Q
      dsimp only at P3 HV b_xc ⊢
      have z0 := blk_cell P3.loc 2
      have f0 := blk_free P3.loc 2
      have P4 : PZ 180 w gr gd lo g _ 82 _ #[.int .u64 (xa : Int), .bool xb, .string ⟨xc.toArray⟩, .string ⟨#[]⟩, .string ⟨#[]⟩, .string ⟨#[]⟩, .string ⟨#[]⟩] l_xc f_xc ((wa3).setCell ⟨gd, 2, none⟩ (.string ⟨xc.toArray⟩)) := (P3.set 2 (.string ⟨xc.toArray⟩))
      clear P3
      go_wp2_with fail
      generalize (wa3).setCell ⟨gd, 2, none⟩ (.string ⟨xc.toArray⟩) = wb3 at *
      refine (rdT_any P4.rd).mono ?_
      rintro e wa4 ⟨rfl, hr, hg⟩
      replace P4 := P4.call hg hr
      clear hr hg
      have b_xd := rB_le l_xc f_xc
      generalize rB l_xc f_xc = Q at *
      obtain ⟨xd, l_xd, f_xd⟩ := Q
      dsimp only at P4 HV b_xd ⊢
      have z0 := blk_cell P4.loc 3
      have f0 := blk_free P4.loc 3
      have P5 : PZ 180 w gr gd lo g _ 82 _ #[.int .u64 (xa : Int), .bool xb, .string ⟨xc.toArray⟩, .string ⟨xd.toArray⟩, .string ⟨#[]⟩, .string ⟨#[]⟩, .string ⟨#[]⟩] l_xd f_xd ((wa4).setCell ⟨gd, 3, none⟩ (.string ⟨xd.toArray⟩)) := (P4.set 3 (.string ⟨xd.toArray⟩))
      clear P4
      go_wp2_with fail
      generalize (wa4).setCell ⟨gd, 3, none⟩ (.string ⟨xd.toArray⟩) = wb4 at *
      refine (rdT_any P5.rd).mono ?_
      rintro e wa5 ⟨rfl, hr, hg⟩
      replace P5 := P5.call hg hr
      clear hr hg
      have b_xe := rB_le l_xd f_xd
      generalize rB l_xd f_xd = Q at *
      obtain ⟨xe, l_xe, f_xe⟩ := Q
      dsimp only at P5 HV b_xe ⊢
      have z0 := blk_cell P5.loc 4
      have f0 := blk_free P5.loc 4
      have P6 : PZ 180 w gr gd lo g _ 82 _ #[.int .u64 (xa : Int), .bool xb, .string ⟨xc.toArray⟩, .string ⟨xd.toArray⟩, .string ⟨xe.toArray⟩, .string ⟨#[]⟩, .string ⟨#[]⟩] l_xe f_xe ((wa5).setCell ⟨gd, 4, none⟩ (.string ⟨xe.toArray⟩)) := (P5.set 4 (.string ⟨xe.toArray⟩))
      clear P5
      go_wp2_with fail
      generalize (wa5).setCell ⟨gd, 4, none⟩ (.string ⟨xe.toArray⟩) = wb5 at *
      refine (rdT_any P6.rd).mono ?_
      rintro e wa6 ⟨rfl, hr, hg⟩
      replace P6 := P6.call hg hr
      clear hr hg
      have b_xf := rB_le l_xe f_xe
      generalize rB l_xe f_xe = Q at *
      obtain ⟨xf, l_xf, f_xf⟩ := Q
      dsimp only at P6 HV b_xf ⊢
      have z0 := blk_cell P6.loc 5
      have f0 := blk_free P6.loc 5
      have P7 : PZ 180 w gr gd lo g _ 82 _ #[.int .u64 (xa : Int), .bool xb, .string ⟨xc.toArray⟩, .string ⟨xd.toArray⟩, .string ⟨xe.toArray⟩, .string ⟨xf.toArray⟩, .string ⟨#[]⟩] l_xf f_xf ((wa6).setCell ⟨gd, 5, none⟩ (.string ⟨xf.toArray⟩)) := (P6.set 5 (.string ⟨xf.toArray⟩))
      clear P6
      go_wp2_with fail
      generalize (wa6).setCell ⟨gd, 5, none⟩ (.string ⟨xf.toArray⟩) = wb6 at *
      refine (rdT_any P7.rd).mono ?_
      rintro e wa7 ⟨rfl, hr, hg⟩
      replace P7 := P7.call hg hr
      clear hr hg
      have b_xg := rB_le l_xf f_xf
      generalize rB l_xf f_xf = Q at *
      obtain ⟨xg, l_xg, f_xg⟩ := Q
      dsimp only at P7 HV b_xg ⊢
      have z0 := blk_cell P7.loc 6
      have f0 := blk_free P7.loc 6
      have P8 : PZ 180 w gr gd lo g _ 82 _ #[.int .u64 (xa : Int), .bool xb, .string ⟨xc.toArray⟩, .string ⟨xd.toArray⟩, .string ⟨xe.toArray⟩, .string ⟨xf.toArray⟩, .string ⟨xg.toArray⟩] l_xg f_xg ((wa7).setCell ⟨gd, 6, none⟩ (.string ⟨xg.toArray⟩)) := (P7.set 6 (.string ⟨xg.toArray⟩))
      clear P7
      go_wp2_with fail
      generalize (wa7).setCell ⟨gd, 6, none⟩ (.string ⟨xg.toArray⟩) = wb7 at *
      refine (rdEnd_any P8.rd).mono ?_
      rintro e w7 ⟨rfl, rfl⟩
      generalize rEnd l_xg f_xg = E at *
      subst hgr
      by_cases hE : E = 0
      · subst hE
        have hv := HV.out
        rw [if_pos rfl] at hv
        (try dsimp only at hv)
        clear HV
        have r0 := blk_cell P8.res 0
        have q0 := blk_free P8.res 0
        have r1 := blk_cell P8.res 1
        have q1 := blk_free P8.res 1
        have r2 := blk_cell P8.res 2
        have q2 := blk_free P8.res 2
        have r3 := blk_cell P8.res 3
        have q3 := blk_free P8.res 3
        have r4 := blk_cell P8.res 4
        have q4 := blk_free P8.res 4
        have r5 := blk_cell P8.res 5
        have q5 := blk_free P8.res 5
        have r6 := blk_cell P8.res 6
        have q6 := blk_free P8.res 6
        have s0 := blk_cell P8.loc 0
        have s1 := blk_cell P8.loc 1
        have s2 := blk_cell P8.loc 2
        have s3 := blk_cell P8.loc 3
        have s4 := blk_cell P8.loc 4
        have s5 := blk_cell P8.loc 5
        have s6 := blk_cell P8.loc 6
        have hk7 := set7P P8.res (.int .u64 (xa : Int)) (.bool xb) (.string ⟨xc.toArray⟩) (.string ⟨xd.toArray⟩) (.string ⟨xe.toArray⟩) (.string ⟨xf.toArray⟩) (.string ⟨xg.toArray⟩)
        have hb7 := below_set7P P8.below P8.hr (.int .u64 (xa : Int)) (.bool xb) (.string ⟨xc.toArray⟩) (.string ⟨xd.toArray⟩) (.string ⟨xe.toArray⟩) (.string ⟨xf.toArray⟩) (.string ⟨xg.toArray⟩)
        have HD := Lib.hid (And.intro (blk_cell hk7 0) (And.intro (blk_cell hk7 1) (And.intro (blk_cell hk7 2) (And.intro (blk_cell hk7 3) (And.intro (blk_cell hk7 4) (And.intro (blk_cell hk7 5) (blk_cell hk7 6)))))))
        have HVV := Lib.hid hv
        clear hk7 hv
        go_wp2_with fail
        obtain ⟨d0, d1, d2, d3, d4, d5, d6⟩ := HD.out
        refine bodyPost_ret (v := V) ?_ rfl ⟨rfl, hb7⟩
        rw [HVV.out]
        simp at d0 d1 d2 d3 d4 d5 d6
        simp [results, Tryz.results116, go_sem, d0, d1, d2, d3, d4, d5, d6, ChV.val, ChV.none]
      · have hne : (E != 0) = true := by simpa using hE
        have hv := HV.out
        rw [if_neg hE] at hv
        (try dsimp only at hv)
        clear HV
        have r0 := blk_cell P8.res 0
        have q0 := blk_free P8.res 0
        have r1 := blk_cell P8.res 1
        have q1 := blk_free P8.res 1
        have r2 := blk_cell P8.res 2
        have q2 := blk_free P8.res 2
        have r3 := blk_cell P8.res 3
        have q3 := blk_free P8.res 3
        have r4 := blk_cell P8.res 4
        have q4 := blk_free P8.res 4
        have r5 := blk_cell P8.res 5
        have q5 := blk_free P8.res 5
        have r6 := blk_cell P8.res 6
        have q6 := blk_free P8.res 6
        have hk7 := set7P P8.res (.int .u64 0) (.bool false) (.string ⟨#[]⟩) (.string ⟨#[]⟩) (.string ⟨#[]⟩) (.string ⟨#[]⟩) (.string ⟨#[]⟩)
        have hb7 := below_set7P P8.below P8.hr (.int .u64 0) (.bool false) (.string ⟨#[]⟩) (.string ⟨#[]⟩) (.string ⟨#[]⟩) (.string ⟨#[]⟩) (.string ⟨#[]⟩)
        have HD := Lib.hid (And.intro (blk_cell hk7 0) (And.intro (blk_cell hk7 1) (And.intro (blk_cell hk7 2) (And.intro (blk_cell hk7 3) (And.intro (blk_cell hk7 4) (And.intro (blk_cell hk7 5) (blk_cell hk7 6)))))))
        have HVV := Lib.hid hv
        clear hk7 hv
        go_wp2_with fail
        obtain ⟨d0, d1, d2, d3, d4, d5, d6⟩ := HD.out
        refine bodyPost_ret (v := V) ?_ rfl ⟨rfl, hb7⟩
        rw [HVV.out]
        simp at d0 d1 d2 d3 d4 d5 d6
        simp [results, Tryz.results116, go_sem, d0, d1, d2, d3, d4, d5, d6, ChV.val, ChV.none]
end Go.Proofs.YtlkbjhhbpmmamaaGreatDoor
namespace Go.Proofs.YtlkbjhhbpmmamaaGreatDoor
set_option maxRecDepth 100000
open Go Go.RowKit
set_option linter.unusedVariables false

set_option maxHeartbeats 8000000 in
theorem cnbytes_any (c : CnV) (w : World) (h_st : c.st < 18446744073709551616) (h_cl : c.cl.size ≤ maxLen) (h_cc : c.cc.size ≤ maxLen) (h_ct : c.ct.size ≤ maxLen) :
    Calls Tryz.prog 35 #[c.val] w fun e w' => ∃ v', e = .returned v' ∧ Own w' w.heap.size v' (cnB c) ∧ Below w.heap.size w w' := by
  obtain ⟨st, cl, cc, ct⟩ := c
  dsimp only at h_st h_cl h_cc h_ct
  unfold CnV.val cnB
  dsimp only
  have hbox := heap_alloc_new w (.cells #[.int .u64 (st : Int), .string cl, .string cc, .string ct] 85)
  have ha0 : Below w.heap.size w (w.alloc (.cells #[.int .u64 (st : Int), .string cl, .string cc, .string ct] 85)) := (Below.refl _ _).alloc (Nat.le_refl _) _
  generalize hW0 : w.alloc (.cells #[.int .u64 (st : Int), .string cl, .string cc, .string ct] 85) = W0 at *
  have hgl := blk_lt hbox
  generalize hgg : w.heap.size = g0 at *
  have HC : Hid (∀ Z, Below W0.heap.size W0 Z → Z.cell? ⟨g0, 0, none⟩ = some (.int .u64 (st : Int)) ∧ Z.cell? ⟨g0, 1, none⟩ = some (.string cl) ∧ Z.cell? ⟨g0, 2, none⟩ = some (.string cc) ∧ Z.cell? ⟨g0, 3, none⟩ = some (.string ct)) := Lib.hid fun Z hz => ⟨blk_cell ((hz.block _ hgl).trans hbox) 0, blk_cell ((hz.block _ hgl).trans hbox) 1, blk_cell ((hz.block _ hgl).trans hbox) 2, blk_cell ((hz.block _ hgl).trans hbox) 3⟩
  have hkD : Below W0.heap.size W0 W0.drew := Below.drew (Below.refl _ _)
  have l_cl : (encS cl).length ≤ 65539 := encB_lenP (strBytes cl)
  have l_cc : (encS cc).length ≤ 65539 := encB_lenP (strBytes cc)
  have l_ct : (encS ct).length ≤ 65539 := encB_lenP (strBytes ct)
  have H1 : Hid (∀ (Z : World), Calls Tryz.prog 67 #[.slice none 0 0, .int .u64 (st : Int)] Z fun e w' => ∃ v', e = .returned v' ∧ Own w' Z.heap.size v' (be st 8) ∧ Below Z.heap.size Z w') :=
    Lib.hid fun Z => N_any (.slice none 0 0) _ st Z (Rd.nil _ _) h_st (by simp [be_length]; try omega)
  have H2 : Hid (∀ (v : Value) (Z : World) (B : Nat), Own Z B v (be st 8) → Calls Tryz.prog 69 #[v, .string cl] Z fun e w' => ∃ v', e = .returned v' ∧ Own w' Z.heap.size v' (be st 8 ++ encS cl) ∧ Below Z.heap.size Z w') :=
    Lib.hid fun v Z B ho => TS0 v cl _ Z ho.rd h_cl (by simp [be_length]; try omega)
  have H3 : Hid (∀ (v : Value) (Z : World) (B : Nat), Own Z B v (be st 8 ++ encS cl) → Calls Tryz.prog 69 #[v, .string cc] Z fun e w' => ∃ v', e = .returned v' ∧ Own w' Z.heap.size v' ((be st 8 ++ encS cl) ++ encS cc) ∧ Below Z.heap.size Z w') :=
    Lib.hid fun v Z B ho => TS0 v cc _ Z ho.rd h_cc (by simp [be_length]; try omega)
  have H4 : Hid (∀ (v : Value) (Z : World) (B : Nat), Own Z B v ((be st 8 ++ encS cl) ++ encS cc) → Calls Tryz.prog 69 #[v, .string ct] Z fun e w' => ∃ v', e = .returned v' ∧ Own w' Z.heap.size v' (((be st 8 ++ encS cl) ++ encS cc) ++ encS ct) ∧ Below Z.heap.size Z w') :=
    Lib.hid fun v Z B ho => TS0 v ct _ Z ho.rd h_ct (by simp [be_length]; try omega)
  generalize ((be st 8 ++ encS cl) ++ encS cc) ++ encS ct = L4 at *
  generalize (be st 8 ++ encS cl) ++ encS cc = L3 at *
  generalize be st 8 ++ encS cl = L2 at *
  generalize be st 8 = L1 at *
  clear hbox h_st h_cl h_cc h_ct l_cl l_cc l_ct
  go_enter Tryz.func35, Tryz.ntmps35
  go_wp2_with fail
  try rw [hW0]
  clear hW0
  try rw [hgg]
  go_region_held_law (fun Z => Z.cell? ⟨g0, 0, none⟩ = some (.int .u64 (st : Int)) ∧ Z.cell? ⟨g0, 1, none⟩ = some (.string cl) ∧ Z.cell? ⟨g0, 2, none⟩ = some (.string cc) ∧ Z.cell? ⟨g0, 3, none⟩ = some (.string ct))
    (with_reducible first | exact HC.out _ hk4 | exact HC.out _ hk3 | exact HC.out _ hk2 | exact HC.out _ hk1 | exact HC.out _ hkD)
    ((first
      | (go_at_call 67; first
        | (refine (H1.out _).mono ?_; rintro e w1 ⟨v1, rfl, ho1, hb1⟩; have hk1 := below_chain hkD hkD.size hb1))
      | (go_at_call 69; first
        | (refine (H4.out _ _ _ ho3).mono ?_; rintro e w4 ⟨v4, rfl, ho4, hb4⟩; have hk4 := below_chain hk3 hk3.size hb4)
        | (refine (H3.out _ _ _ ho2).mono ?_; rintro e w3 ⟨v3, rfl, ho3, hb3⟩; have hk3 := below_chain hk2 hk2.size hb3)
        | (refine (H2.out _ _ _ ho1).mono ?_; rintro e w2 ⟨v2, rfl, ho2, hb2⟩; have hk2 := below_chain hk1 hk1.size hb2))))
  all_goals
    obtain ⟨A4, c4, rfl⟩ := ho4.form
    go_wp2_with fail
    subst hgg
    have hsF := Nat.le_trans ha0.size hk3.size
    have hfin := below_chain ha0 ha0.size hk4
    go_ret
    exact ⟨_, rfl, ho4.more hsF, hfin⟩
set_option maxHeartbeats 8000000 in
theorem chbytes_any (c : ChV) (w : World) (h_st : c.st < 18446744073709551616) (h_po : c.po.size ≤ maxLen) (h_cp : c.cp.size ≤ maxLen) (h_cn : c.cn.size ≤ maxLen) (h_cc : c.cc.size ≤ maxLen) (h_ve : c.ve.size ≤ maxLen) :
    Calls Tryz.prog 41 #[c.val] w fun e w' => ∃ v', e = .returned v' ∧ Own w' w.heap.size v' (chB c) ∧ Below w.heap.size w w' := by
  obtain ⟨st, od, po, cp, cn, cc, ve⟩ := c
  dsimp only at h_st h_po h_cp h_cn h_cc h_ve
  unfold ChV.val chB
  dsimp only
  have hbox := heap_alloc_new w (.cells #[.int .u64 (st : Int), .bool od, .string po, .string cp, .string cn, .string cc, .string ve] 82)
  have ha0 : Below w.heap.size w (w.alloc (.cells #[.int .u64 (st : Int), .bool od, .string po, .string cp, .string cn, .string cc, .string ve] 82)) := (Below.refl _ _).alloc (Nat.le_refl _) _
  generalize hW0 : w.alloc (.cells #[.int .u64 (st : Int), .bool od, .string po, .string cp, .string cn, .string cc, .string ve] 82) = W0 at *
  have hgl := blk_lt hbox
  generalize hgg : w.heap.size = g0 at *
  have HC : Hid (∀ Z, Below W0.heap.size W0 Z → Z.cell? ⟨g0, 0, none⟩ = some (.int .u64 (st : Int)) ∧ Z.cell? ⟨g0, 1, none⟩ = some (.bool od) ∧ Z.cell? ⟨g0, 2, none⟩ = some (.string po) ∧ Z.cell? ⟨g0, 3, none⟩ = some (.string cp) ∧ Z.cell? ⟨g0, 4, none⟩ = some (.string cn) ∧ Z.cell? ⟨g0, 5, none⟩ = some (.string cc) ∧ Z.cell? ⟨g0, 6, none⟩ = some (.string ve)) := Lib.hid fun Z hz => ⟨blk_cell ((hz.block _ hgl).trans hbox) 0, blk_cell ((hz.block _ hgl).trans hbox) 1, blk_cell ((hz.block _ hgl).trans hbox) 2, blk_cell ((hz.block _ hgl).trans hbox) 3, blk_cell ((hz.block _ hgl).trans hbox) 4, blk_cell ((hz.block _ hgl).trans hbox) 5, blk_cell ((hz.block _ hgl).trans hbox) 6⟩
  have hkD : Below W0.heap.size W0 W0.drew := Below.drew (Below.refl _ _)
  have l_po : (encS po).length ≤ 65539 := encB_lenP (strBytes po)
  have l_cp : (encS cp).length ≤ 65539 := encB_lenP (strBytes cp)
  have l_cn : (encS cn).length ≤ 65539 := encB_lenP (strBytes cn)
  have l_cc : (encS cc).length ≤ 65539 := encB_lenP (strBytes cc)
  have l_ve : (encS ve).length ≤ 65539 := encB_lenP (strBytes ve)
  have H1 : Hid (∀ (Z : World), Calls Tryz.prog 67 #[.slice none 0 0, .int .u64 (st : Int)] Z fun e w' => ∃ v', e = .returned v' ∧ Own w' Z.heap.size v' (be st 8) ∧ Below Z.heap.size Z w') :=
    Lib.hid fun Z => N_any (.slice none 0 0) _ st Z (Rd.nil _ _) h_st (by simp [be_length]; try omega)
  have H2 : Hid (∀ (v : Value) (Z : World) (B : Nat), Own Z B v (be st 8) → Calls Tryz.prog 127 #[v, .bool od] Z fun e w' => ∃ v', e = .returned v' ∧ Own w' Z.heap.size v' (be st 8 ++ [fb od]) ∧ Below Z.heap.size Z w') :=
    Lib.hid fun v Z B ho => F_any v od _ Z ho.rd (by simp [be_length]; try omega)
  have H3 : Hid (∀ (v : Value) (Z : World) (B : Nat), Own Z B v (be st 8 ++ [fb od]) → Calls Tryz.prog 69 #[v, .string po] Z fun e w' => ∃ v', e = .returned v' ∧ Own w' Z.heap.size v' ((be st 8 ++ [fb od]) ++ encS po) ∧ Below Z.heap.size Z w') :=
    Lib.hid fun v Z B ho => TS0 v po _ Z ho.rd h_po (by simp [be_length]; try omega)
  have H4 : Hid (∀ (v : Value) (Z : World) (B : Nat), Own Z B v ((be st 8 ++ [fb od]) ++ encS po) → Calls Tryz.prog 69 #[v, .string cp] Z fun e w' => ∃ v', e = .returned v' ∧ Own w' Z.heap.size v' (((be st 8 ++ [fb od]) ++ encS po) ++ encS cp) ∧ Below Z.heap.size Z w') :=
    Lib.hid fun v Z B ho => TS0 v cp _ Z ho.rd h_cp (by simp [be_length]; try omega)
  have H5 : Hid (∀ (v : Value) (Z : World) (B : Nat), Own Z B v (((be st 8 ++ [fb od]) ++ encS po) ++ encS cp) → Calls Tryz.prog 69 #[v, .string cn] Z fun e w' => ∃ v', e = .returned v' ∧ Own w' Z.heap.size v' ((((be st 8 ++ [fb od]) ++ encS po) ++ encS cp) ++ encS cn) ∧ Below Z.heap.size Z w') :=
    Lib.hid fun v Z B ho => TS0 v cn _ Z ho.rd h_cn (by simp [be_length]; try omega)
  have H6 : Hid (∀ (v : Value) (Z : World) (B : Nat), Own Z B v ((((be st 8 ++ [fb od]) ++ encS po) ++ encS cp) ++ encS cn) → Calls Tryz.prog 69 #[v, .string cc] Z fun e w' => ∃ v', e = .returned v' ∧ Own w' Z.heap.size v' (((((be st 8 ++ [fb od]) ++ encS po) ++ encS cp) ++ encS cn) ++ encS cc) ∧ Below Z.heap.size Z w') :=
    Lib.hid fun v Z B ho => TS0 v cc _ Z ho.rd h_cc (by simp [be_length]; try omega)
  have H7 : Hid (∀ (v : Value) (Z : World) (B : Nat), Own Z B v (((((be st 8 ++ [fb od]) ++ encS po) ++ encS cp) ++ encS cn) ++ encS cc) → Calls Tryz.prog 69 #[v, .string ve] Z fun e w' => ∃ v', e = .returned v' ∧ Own w' Z.heap.size v' ((((((be st 8 ++ [fb od]) ++ encS po) ++ encS cp) ++ encS cn) ++ encS cc) ++ encS ve) ∧ Below Z.heap.size Z w') :=
    Lib.hid fun v Z B ho => TS0 v ve _ Z ho.rd h_ve (by simp [be_length]; try omega)
  generalize (((((be st 8 ++ [fb od]) ++ encS po) ++ encS cp) ++ encS cn) ++ encS cc) ++ encS ve = L7 at *
  generalize ((((be st 8 ++ [fb od]) ++ encS po) ++ encS cp) ++ encS cn) ++ encS cc = L6 at *
  generalize (((be st 8 ++ [fb od]) ++ encS po) ++ encS cp) ++ encS cn = L5 at *
  generalize ((be st 8 ++ [fb od]) ++ encS po) ++ encS cp = L4 at *
  generalize (be st 8 ++ [fb od]) ++ encS po = L3 at *
  generalize be st 8 ++ [fb od] = L2 at *
  generalize be st 8 = L1 at *
  clear hbox h_st h_po h_cp h_cn h_cc h_ve l_po l_cp l_cn l_cc l_ve
  go_enter Tryz.func41, Tryz.ntmps41
  go_wp2_with fail
  try rw [hW0]
  clear hW0
  try rw [hgg]
  go_region_held_law (fun Z => Z.cell? ⟨g0, 0, none⟩ = some (.int .u64 (st : Int)) ∧ Z.cell? ⟨g0, 1, none⟩ = some (.bool od) ∧ Z.cell? ⟨g0, 2, none⟩ = some (.string po) ∧ Z.cell? ⟨g0, 3, none⟩ = some (.string cp) ∧ Z.cell? ⟨g0, 4, none⟩ = some (.string cn) ∧ Z.cell? ⟨g0, 5, none⟩ = some (.string cc) ∧ Z.cell? ⟨g0, 6, none⟩ = some (.string ve))
    (with_reducible first | exact HC.out _ hk2 | exact HC.out _ hk1 | exact HC.out _ hkD)
    ((first
      | (go_at_call 67; first
        | (refine (H1.out _).mono ?_; rintro e w1 ⟨v1, rfl, ho1, hb1⟩; have hk1 := below_chain hkD hkD.size hb1))
      | (go_at_call 127; first
        | (refine (H2.out _ _ _ ho1).mono ?_; rintro e w2 ⟨v2, rfl, ho2, hb2⟩; have hk2 := below_chain hk1 hk1.size hb2))))
  all_goals
    have hkE1 := Below.drew hk2
    have hoE1 : Own w2.drew _ v2 L2 := ho2
    obtain ⟨A2, c2, rfl⟩ := ho2.form
    generalize L2.length = n2 at *
    clear ho1 ho2
    go_wp2_with fail
    go_region_held_law (fun Z => Z.cell? ⟨g0, 0, none⟩ = some (.int .u64 (st : Int)) ∧ Z.cell? ⟨g0, 1, none⟩ = some (.bool od) ∧ Z.cell? ⟨g0, 2, none⟩ = some (.string po) ∧ Z.cell? ⟨g0, 3, none⟩ = some (.string cp) ∧ Z.cell? ⟨g0, 4, none⟩ = some (.string cn) ∧ Z.cell? ⟨g0, 5, none⟩ = some (.string cc) ∧ Z.cell? ⟨g0, 6, none⟩ = some (.string ve))
      (with_reducible first | exact HC.out _ hk4 | exact HC.out _ hk3 | exact HC.out _ hkE1)
      ((first
        | (go_at_call 69; first
          | (refine (H4.out _ _ _ ho3).mono ?_; rintro e w4 ⟨v4, rfl, ho4, hb4⟩; have hk4 := below_chain hk3 hk3.size hb4)
          | (refine (H3.out _ _ _ hoE1).mono ?_; rintro e w3 ⟨v3, rfl, ho3, hb3⟩; have hk3 := below_chain hkE1 hkE1.size hb3))))
    all_goals
      have hkE2 := Below.drew hk4
      have hoE2 : Own w4.drew _ v4 L4 := ho4
      obtain ⟨A4, c4, rfl⟩ := ho4.form
      generalize L4.length = n4 at *
      clear ho3 ho4
      go_wp2_with fail
      go_region_held_law (fun Z => Z.cell? ⟨g0, 0, none⟩ = some (.int .u64 (st : Int)) ∧ Z.cell? ⟨g0, 1, none⟩ = some (.bool od) ∧ Z.cell? ⟨g0, 2, none⟩ = some (.string po) ∧ Z.cell? ⟨g0, 3, none⟩ = some (.string cp) ∧ Z.cell? ⟨g0, 4, none⟩ = some (.string cn) ∧ Z.cell? ⟨g0, 5, none⟩ = some (.string cc) ∧ Z.cell? ⟨g0, 6, none⟩ = some (.string ve))
        (with_reducible first | exact HC.out _ hk7 | exact HC.out _ hk6 | exact HC.out _ hk5 | exact HC.out _ hkE2)
        ((first
          | (go_at_call 69; first
            | (refine (H7.out _ _ _ ho6).mono ?_; rintro e w7 ⟨v7, rfl, ho7, hb7⟩; have hk7 := below_chain hk6 hk6.size hb7)
            | (refine (H6.out _ _ _ ho5).mono ?_; rintro e w6 ⟨v6, rfl, ho6, hb6⟩; have hk6 := below_chain hk5 hk5.size hb6)
            | (refine (H5.out _ _ _ hoE2).mono ?_; rintro e w5 ⟨v5, rfl, ho5, hb5⟩; have hk5 := below_chain hkE2 hkE2.size hb5))))
      all_goals
        obtain ⟨A7, c7, rfl⟩ := ho7.form
        go_wp2_with fail
        subst hgg
        have hsF := Nat.le_trans ha0.size hk6.size
        have hfin := below_chain ha0 ha0.size hk7
        go_ret
        exact ⟨_, rfl, ho7.more hsF, hfin⟩
end Go.Proofs.YtlkbjhhbpmmamaaGreatDoor
