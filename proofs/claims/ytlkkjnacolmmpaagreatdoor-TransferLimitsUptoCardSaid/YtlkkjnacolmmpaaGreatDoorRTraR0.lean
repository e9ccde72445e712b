
/- The walk of a packet's data being parsed, the document's. The walk of a refund, the document's. Refunds over the program's store and the document's side by side. The walk of the law: what a packet's data say is refunded as the document says. -/
import Derived.Test.YtlkkjnacolmmpaaGreatDoorTraP0
import Derived.Test.YtlkkjnacolmmpaaGreatDoorWireDoc0
import Derived.Test.YtlkkjnacolmmpaaGreatDoorRBankA1
import Derived.Test.YtlkkjnacolmmpaaGreatDoorNameE0
import Derived.Test.YtlkkjnacolmmpaaGreatDoorRBankC0
import Derived.Test.YtlkkjnacolmmpaaGreatDoorBankP0
namespace Go.Proofs.YtlkkjnacolmmpaaGreatDoor
set_option maxRecDepth 100000
open Go Go.RowKit
set_option linter.unusedVariables false

set_option maxHeartbeats 8000000 in
theorem rtparse_any (v : Value) (l : List UInt8) (w : World) (hr : Rd w w.heap.size v l) (hl : l.length ≤ 140737488355320) :
    Calls Tryz.prog 39 #[v] w fun e w' => e = .returned (parseV l) ∧ Below w.heap.size w w' := by
  have ha0 : Below w.heap.size w (w.alloc (.cells #[.string ⟨#[]⟩, .string ⟨#[]⟩, .string ⟨#[]⟩, .int .u64 0, .int .u64 0, .int .u64 0, .int .u64 0] 81)) := (Below.refl _ _).alloc (Nat.le_refl _) _
  have hk0 := heap_alloc_new w (.cells #[.string ⟨#[]⟩, .string ⟨#[]⟩, .string ⟨#[]⟩, .int .u64 0, .int .u64 0, .int .u64 0, .int .u64 0] 81)
  have HO := Lib.hid (open_dd v l _ (hr.up (Nat.le_refl _) ha0) hl)
  obtain ⟨A, c, rfl⟩ := hr.form
  clear hr
  obtain ⟨V, hV⟩ : ∃ V, V = parseV l := ⟨_, rfl⟩
  rw [← hV]
  unfold parseV readD at hV
  have HV := Lib.hid hV
  clear hV
  go_enter Tryz.func39, Tryz.ntmps39
  go_wp2_with fail
  refine HO.out.mono ?_
  rintro e w1 ⟨g, rfl, hr1, hb1⟩
  have hq1 := below_chain ha0 ha0.size hb1
  have hk1 := (hb1.block _ (blk_lt hk0)).trans hk0
  have hg1 := hr1.from_
  have hg2 := hr1.lt
  have hgs : w.heap.size < (w.alloc (.cells #[.string ⟨#[]⟩, .string ⟨#[]⟩, .string ⟨#[]⟩, .int .u64 0, .int .u64 0, .int .u64 0, .int .u64 0] 81)).heap.size := blk_lt hk0
  generalize (w.alloc (.cells #[.string ⟨#[]⟩, .string ⟨#[]⟩, .string ⟨#[]⟩, .int .u64 0, .int .u64 0, .int .u64 0, .int .u64 0] 81)).heap.size = lo at *
  obtain ⟨gr, hgr⟩ : ∃ gr, gr = w.heap.size := ⟨_, rfl⟩
  obtain ⟨gd, hgd⟩ : ∃ gd, gd = w1.heap.size := ⟨_, rfl⟩
  have P1 : PZ 181 w gr gd lo g 81 81 #[.string ⟨#[]⟩, .string ⟨#[]⟩, .string ⟨#[]⟩, .int .u64 0, .int .u64 0, .int .u64 0, .int .u64 0] #[.string ⟨#[]⟩, .string ⟨#[]⟩, .string ⟨#[]⟩, .int .u64 0, .int .u64 0, .int .u64 0, .int .u64 0] l 0 (w1.alloc (.cells #[.string ⟨#[]⟩, .string ⟨#[]⟩, .string ⟨#[]⟩, .int .u64 0, .int .u64 0, .int .u64 0, .int .u64 0] 81)) :=
    ⟨hq1.alloc hq1.size _, by omega, by have := hq1.size; omega, by rw [hgr]; exact (Below.heap_alloc w1 _ _ (blk_lt hk1)).trans hk1, by rw [hgd]; exact heap_alloc_new w1 _, hr1.below ((Below.refl _ _).alloc (Nat.le_refl _) _), by omega, by omega⟩
  clear hq1 hk1 hg1 hg2 hgs hr1 hb1 HO hk0 ha0
  go_wp2_with fail
  rw [← hgd]
  rw [← hgr]
  generalize w1.alloc (.cells #[.string ⟨#[]⟩, .string ⟨#[]⟩, .string ⟨#[]⟩, .int .u64 0, .int .u64 0, .int .u64 0, .int .u64 0] 81) = wz at *
  clear hgr hgd
  refine (dT_any P1.rd).mono ?_
  rintro e wa1 ⟨rfl, hr, hg⟩
  replace P1 := P1.call hg hr
  clear hr hg
  have b_d := rB_le l 0
  generalize rB l 0 = Q at *
  obtain ⟨d, l_d, f_d⟩ := Q
  dsimp only at P1 HV b_d ⊢
  have z0 := blk_cell P1.loc 0
  have f0 := blk_free P1.loc 0
  have P2 : PZ 181 w gr gd lo g _ 81 _ #[.string ⟨d.toArray⟩, .string ⟨#[]⟩, .string ⟨#[]⟩, .int .u64 0, .int .u64 0, .int .u64 0, .int .u64 0] l_d f_d (wa1.setCell ⟨gd, 0, none⟩ (.string ⟨d.toArray⟩)) := P1.set 0 _
  clear P1
  go_wp2_with fail
  generalize wa1.setCell ⟨gd, 0, none⟩ (.string ⟨d.toArray⟩) = wb1 at *
  refine (dT_any P2.rd).mono ?_
  rintro e wa2 ⟨rfl, hr, hg⟩
  replace P2 := P2.call hg hr
  clear hr hg
  have b_f := rB_le l_d f_d
  generalize rB l_d f_d = Q at *
  obtain ⟨f, l_f, f_f⟩ := Q
  dsimp only at P2 HV b_f ⊢
  have z0 := blk_cell P2.loc 1
  have f0 := blk_free P2.loc 1
  have P3 : PZ 181 w gr gd lo g _ 81 _ #[.string ⟨d.toArray⟩, .string ⟨f.toArray⟩, .string ⟨#[]⟩, .int .u64 0, .int .u64 0, .int .u64 0, .int .u64 0] l_f f_f (wa2.setCell ⟨gd, 1, none⟩ (.string ⟨f.toArray⟩)) := P2.set 1 _
  clear P2
  go_wp2_with fail
  generalize wa2.setCell ⟨gd, 1, none⟩ (.string ⟨f.toArray⟩) = wb2 at *
  refine (dT_any P3.rd).mono ?_
  rintro e wa3 ⟨rfl, hr, hg⟩
  replace P3 := P3.call hg hr
  clear hr hg
  have b_t := rB_le l_f f_f
  generalize rB l_f f_f = Q at *
  obtain ⟨t, l_t, f_t⟩ := Q
  dsimp only at P3 HV b_t ⊢
  have z0 := blk_cell P3.loc 2
  have f0 := blk_free P3.loc 2
  have P4 : PZ 181 w gr gd lo g _ 81 _ #[.string ⟨d.toArray⟩, .string ⟨f.toArray⟩, .string ⟨t.toArray⟩, .int .u64 0, .int .u64 0, .int .u64 0, .int .u64 0] l_t f_t (wa3.setCell ⟨gd, 2, none⟩ (.string ⟨t.toArray⟩)) := P3.set 2 _
  clear P3
  go_wp2_with fail
  generalize wa3.setCell ⟨gd, 2, none⟩ (.string ⟨t.toArray⟩) = wb3 at *
  refine (dB_any P4.rd).mono ?_
  rintro e w4 ⟨vB, rfl, hoB, hr, hg⟩
  replace P4 := P4.call hg hr
  clear hr hg
  generalize rB l_t f_t = Q at *
  obtain ⟨b, l_b, f_b⟩ := Q
  dsimp only at P4 HV hoB ⊢
  have HF := Lib.hid (rfrom_any vB b _ hoB.rd)
  obtain ⟨AB, cB, rfl⟩ := hoB.form
  go_wp2_with fail
  refine HF.out.mono ?_
  rintro e w5 ⟨rfl, hb5⟩
  replace P4 := P4.up hb5
  clear hb5 HF hoB
  have hux := fromU_ok b
  generalize fromU b = Q at *
  obtain ⟨x, fe⟩ := Q
  dsimp only at P4 HV hux ⊢
  unfold U4.val U4.cells
  have P5 := P4.alloc (.cells #[.int .u64 (x.a : Int), .int .u64 (x.b : Int), .int .u64 (x.c : Int), .int .u64 (x.d : Int)] 74)
  have hu5 := heap_alloc_new w5 (.cells #[.int .u64 (x.a : Int), .int .u64 (x.b : Int), .int .u64 (x.c : Int), .int .u64 (x.d : Int)] 74)
  have u0 := blk_cell hu5 0
  have u1 := blk_cell hu5 1
  have u2 := blk_cell hu5 2
  have u3 := blk_cell hu5 3
  have z3 := blk_cell P5.loc 3
  have z4 := blk_cell P5.loc 4
  have z5 := blk_cell P5.loc 5
  have z6 := blk_cell P5.loc 6
  have f3 := blk_free P5.loc 3
  have f4 := blk_free P5.loc 4
  have f5 := blk_free P5.loc 5
  have f6 := blk_free P5.loc 6
  have P6 := (((P5.set 3 (.int .u64 (x.a : Int))).set 4 (.int .u64 (x.b : Int))).set 5 (.int .u64 (x.c : Int))).set 6 (.int .u64 (x.d : Int))
  clear P4
  go_wp2_with fail
  have hU6 : P6.rd.from_ = P6.rd.from_ := rfl
  clear hU6
  generalize hW6 : (((((w5.alloc (.cells #[.int .u64 (x.a : Int), .int .u64 (x.b : Int), .int .u64 (x.c : Int), .int .u64 (x.d : Int)] 74)).setCell ⟨gd, 3, none⟩ (.int .u64 (x.a : Int))).setCell ⟨gd, 4, none⟩ (.int .u64 (x.b : Int))).setCell ⟨gd, 5, none⟩ (.int .u64 (x.c : Int))).setCell ⟨gd, 6, none⟩ (.int .u64 (x.d : Int))) = w6 at *
  clear hW6 P5 hu5 u0 u1 u2 u3 z3 z4 z5 z6 f3 f4 f5 f6
  refine (dEnd_any P6.rd).mono ?_
  rintro e w7 ⟨rfl, rfl⟩
  generalize rEnd l_b f_b = E at *
  by_cases hE : E = 0
  · subst hE
    by_cases hF : fe = 0
    · subst hF
      have HR := Lib.hid (rright_any ⟨f.toArray⟩ ⟨d.toArray⟩ x w6 (by show f.length ≤ _; unfold maxLen; omega) (by show d.length ≤ _; unfold maxLen; omega))
      have HI := Lib.hid (fun W : World => rident_any ⟨t.toArray⟩ W (by show t.length ≤ _; unfold maxLen; omega))
      unfold U4.val U4.cells at HR
      have s0 := blk_cell P6.loc 0
      have s1 := blk_cell P6.loc 1
      have s2 := blk_cell P6.loc 2
      have s3 := blk_cell P6.loc 3
      have s4 := blk_cell P6.loc 4
      have s5 := blk_cell P6.loc 5
      have s6 := blk_cell P6.loc 6
      go_wp2_with fail
      refine HR.out.mono ?_
      rintro e w8 ⟨rfl, hb8⟩
      replace P6 := P6.up hb8
      clear HR hb8 s0 s1 s2 s3 s4 s5 s6
      generalize rightM ⟨f.toArray⟩ ⟨d.toArray⟩ x = R at *
      have s0 := blk_cell P6.loc 0
      have s1 := blk_cell P6.loc 1
      have s2 := blk_cell P6.loc 2
      have s3 := blk_cell P6.loc 3
      have s4 := blk_cell P6.loc 4
      have s5 := blk_cell P6.loc 5
      have s6 := blk_cell P6.loc 6
      have r0 := blk_cell P6.res 0
      have q0 := blk_free P6.res 0
      have r1 := blk_cell P6.res 1
      have q1 := blk_free P6.res 1
      have r2 := blk_cell P6.res 2
      have q2 := blk_free P6.res 2
      have r3 := blk_cell P6.res 3
      have q3 := blk_free P6.res 3
      have r4 := blk_cell P6.res 4
      have q4 := blk_free P6.res 4
      have r5 := blk_cell P6.res 5
      have q5 := blk_free P6.res 5
      have r6 := blk_cell P6.res 6
      have q6 := blk_free P6.res 6
      by_cases hR : R = 0
      · subst hR
        go_wp2_with fail
        refine (HI.out _).mono ?_
        rintro e w9 ⟨rfl, rfl⟩
        change Hid (V = match (if True ∧ True ∧ True ∧ identL (⟨t.toArray⟩ : ByteArray).data.toList = true then some (DataV.mk ⟨d.toArray⟩ ⟨f.toArray⟩ ⟨t.toArray⟩ x) else none) with | some v => .tuple #[v.val, .int .i64 0] | none => .tuple #[DataV.none.val, .int .i64 140]) at HV
        generalize identL (⟨t.toArray⟩ : ByteArray).data.toList = ib at *
        cases ib
        · have hv := HV.out
          rw [if_neg (by simp)] at hv
          dsimp only at hv
          clear HV
          have hk7 := set7P P6.res (.string ⟨#[]⟩) (.string ⟨#[]⟩) (.string ⟨#[]⟩) (.int .u64 0) (.int .u64 0) (.int .u64 0) (.int .u64 0)
          have hb7 := below_set7P P6.below P6.hr (.string ⟨#[]⟩) (.string ⟨#[]⟩) (.string ⟨#[]⟩) (.int .u64 0) (.int .u64 0) (.int .u64 0) (.int .u64 0)
          have HD := Lib.hid (And.intro (blk_cell hk7 0) (And.intro (blk_cell hk7 1) (And.intro (blk_cell hk7 2) (And.intro (blk_cell hk7 3) (And.intro (blk_cell hk7 4) (And.intro (blk_cell hk7 5) (blk_cell hk7 6)))))))
          have HVV := Lib.hid hv
          clear hk7 hv
          go_wp2_with fail
          obtain ⟨d0, d1, d2, d3, d4, d5, d6⟩ := HD.out
          refine bodyPost_ret (v := V) ?_ rfl ⟨rfl, hb7⟩
          rw [HVV.out]
          simp at d0 d1 d2 d3 d4 d5 d6
          simp [results, Tryz.results39, go_sem, d0, d1, d2, d3, d4, d5, d6, DataV.val, DataV.none, U4.zero]
        · have hv := HV.out
          rw [if_pos (by simp)] at hv
          dsimp only at hv
          clear HV
          have hk7 := set7P P6.res (.string ⟨d.toArray⟩) (.string ⟨f.toArray⟩) (.string ⟨t.toArray⟩) (.int .u64 (x.a : Int)) (.int .u64 (x.b : Int)) (.int .u64 (x.c : Int)) (.int .u64 (x.d : Int))
          have hb7 := below_set7P P6.below P6.hr (.string ⟨d.toArray⟩) (.string ⟨f.toArray⟩) (.string ⟨t.toArray⟩) (.int .u64 (x.a : Int)) (.int .u64 (x.b : Int)) (.int .u64 (x.c : Int)) (.int .u64 (x.d : Int))
          have HD := Lib.hid (And.intro (blk_cell hk7 0) (And.intro (blk_cell hk7 1) (And.intro (blk_cell hk7 2) (And.intro (blk_cell hk7 3) (And.intro (blk_cell hk7 4) (And.intro (blk_cell hk7 5) (blk_cell hk7 6)))))))
          have HVV := Lib.hid hv
          clear hk7 hv
          go_wp2_with fail
          obtain ⟨d0, d1, d2, d3, d4, d5, d6⟩ := HD.out
          refine bodyPost_ret (v := V) ?_ rfl ⟨rfl, hb7⟩
          rw [HVV.out]
          simp at d0 d1 d2 d3 d4 d5 d6
          simp [results, Tryz.results39, go_sem, d0, d1, d2, d3, d4, d5, d6, DataV.val]
      · have hne : (R != 0) = true := by simpa using hR
        have hv := HV.out
        rw [if_neg (by simp [hR])] at hv
        dsimp only at hv
        clear HV HI
        have hk7 := set7P P6.res (.string ⟨#[]⟩) (.string ⟨#[]⟩) (.string ⟨#[]⟩) (.int .u64 0) (.int .u64 0) (.int .u64 0) (.int .u64 0)
        have hb7 := below_set7P P6.below P6.hr (.string ⟨#[]⟩) (.string ⟨#[]⟩) (.string ⟨#[]⟩) (.int .u64 0) (.int .u64 0) (.int .u64 0) (.int .u64 0)
        have HD := Lib.hid (And.intro (blk_cell hk7 0) (And.intro (blk_cell hk7 1) (And.intro (blk_cell hk7 2) (And.intro (blk_cell hk7 3) (And.intro (blk_cell hk7 4) (And.intro (blk_cell hk7 5) (blk_cell hk7 6)))))))
        have HVV := Lib.hid hv
        clear hk7 hv
        go_wp2_with fail
        obtain ⟨d0, d1, d2, d3, d4, d5, d6⟩ := HD.out
        refine bodyPost_ret (v := V) ?_ rfl ⟨rfl, hb7⟩
        rw [HVV.out]
        simp at d0 d1 d2 d3 d4 d5 d6
        simp [results, Tryz.results39, go_sem, d0, d1, d2, d3, d4, d5, d6, DataV.val, DataV.none, U4.zero]
    · have hne : (fe != 0) = true := by simpa using hF
      have hv := HV.out
      rw [if_neg (by simp [hF])] at hv
      dsimp only at hv
      clear HV
      have r0 := blk_cell P6.res 0
      have q0 := blk_free P6.res 0
      have r1 := blk_cell P6.res 1
      have q1 := blk_free P6.res 1
      have r2 := blk_cell P6.res 2
      have q2 := blk_free P6.res 2
      have r3 := blk_cell P6.res 3
      have q3 := blk_free P6.res 3
      have r4 := blk_cell P6.res 4
      have q4 := blk_free P6.res 4
      have r5 := blk_cell P6.res 5
      have q5 := blk_free P6.res 5
      have r6 := blk_cell P6.res 6
      have q6 := blk_free P6.res 6
      have hk7 := set7P P6.res (.string ⟨#[]⟩) (.string ⟨#[]⟩) (.string ⟨#[]⟩) (.int .u64 0) (.int .u64 0) (.int .u64 0) (.int .u64 0)
      have hb7 := below_set7P P6.below P6.hr (.string ⟨#[]⟩) (.string ⟨#[]⟩) (.string ⟨#[]⟩) (.int .u64 0) (.int .u64 0) (.int .u64 0) (.int .u64 0)
      have HD := Lib.hid (And.intro (blk_cell hk7 0) (And.intro (blk_cell hk7 1) (And.intro (blk_cell hk7 2) (And.intro (blk_cell hk7 3) (And.intro (blk_cell hk7 4) (And.intro (blk_cell hk7 5) (blk_cell hk7 6)))))))
      have HVV := Lib.hid hv
      clear hk7 hv
      go_wp2_with fail
      obtain ⟨d0, d1, d2, d3, d4, d5, d6⟩ := HD.out
      refine bodyPost_ret (v := V) ?_ rfl ⟨rfl, hb7⟩
      rw [HVV.out]
      simp at d0 d1 d2 d3 d4 d5 d6
      simp [results, Tryz.results39, go_sem, d0, d1, d2, d3, d4, d5, d6, DataV.val, DataV.none, U4.zero]
  · have hne : (E != 0) = true := by simpa using hE
    have hv := HV.out
    rw [if_neg (by simp [hE])] at hv
    dsimp only at hv
    clear HV
    have r0 := blk_cell P6.res 0
    have q0 := blk_free P6.res 0
    have r1 := blk_cell P6.res 1
    have q1 := blk_free P6.res 1
    have r2 := blk_cell P6.res 2
    have q2 := blk_free P6.res 2
    have r3 := blk_cell P6.res 3
    have q3 := blk_free P6.res 3
    have r4 := blk_cell P6.res 4
    have q4 := blk_free P6.res 4
    have r5 := blk_cell P6.res 5
    have q5 := blk_free P6.res 5
    have r6 := blk_cell P6.res 6
    have q6 := blk_free P6.res 6
    have hk7 := set7P P6.res (.string ⟨#[]⟩) (.string ⟨#[]⟩) (.string ⟨#[]⟩) (.int .u64 0) (.int .u64 0) (.int .u64 0) (.int .u64 0)
    have hb7 := below_set7P P6.below P6.hr (.string ⟨#[]⟩) (.string ⟨#[]⟩) (.string ⟨#[]⟩) (.int .u64 0) (.int .u64 0) (.int .u64 0) (.int .u64 0)
    have HD := Lib.hid (And.intro (blk_cell hk7 0) (And.intro (blk_cell hk7 1) (And.intro (blk_cell hk7 2) (And.intro (blk_cell hk7 3) (And.intro (blk_cell hk7 4) (And.intro (blk_cell hk7 5) (blk_cell hk7 6)))))))
    have HVV := Lib.hid hv
    clear hk7 hv
    go_wp2_with fail
    obtain ⟨d0, d1, d2, d3, d4, d5, d6⟩ := HD.out
    refine bodyPost_ret (v := V) ?_ rfl ⟨rfl, hb7⟩
    rw [HVV.out]
    simp at d0 d1 d2 d3 d4 d5 d6
    simp [results, Tryz.results39, go_sem, d0, d1, d2, d3, d4, d5, d6, DataV.val, DataV.none, U4.zero]

end Go.Proofs.YtlkkjnacolmmpaaGreatDoor
namespace Go.Proofs.YtlkkjnacolmmpaaGreatDoor
set_option maxRecDepth 100000
open Go Go.RowKit
set_option linter.unusedVariables false

theorem rtesc_any (a : ByteArray) (w : World) (ha : a.size ≤ 100000000) : Calls Tryz.prog 48 #[.string a] w fun e w' => e = .returned (.string (kEsc a)) ∧ w = w' := by
  have s1 : escP.size = 7 := rfl
  have h1 := fun W => txt_add escP a (by rw [s1]; omega) W
  unfold kEsc
  unfold escP at *
  go_enter Tryz.func48, Tryz.ntmps48
  go_wp2
  go_ret
  exact ⟨rfl, rfl⟩
set_option maxHeartbeats 16000000 in
theorem rtrefund_any {W' : World} {b N : Nat} {R : List Pr} (h : Doc W' b R N W') (hN : N + 2 ≤ 100000000) (src dst : ByteArray) (seq ht tm : Nat) (vd : Value) (l : List UInt8) (hr : Rd W' W'.heap.size vd l) (hl : l.length ≤ 140737488355320) (hs : src.size ≤ 10000000) :
    Calls Tryz.prog 46 #[.pointer (some ⟨b, 0, none⟩), .agg #[.string src, .string dst, .int .u64 (seq : Int), vd, .int .u64 (ht : Int), .int .u64 (tm : Int)]] W' fun e w' => e = .returned (.int .i64 (refundM R src l).1) ∧ Doc W' b (refundM R src l).2 (N + 2) w' := by
  have hbox := heap_alloc_new W' (.cells #[.string src, .string dst, .int .u64 (seq : Int), vd, .int .u64 (ht : Int), .int .u64 (tm : Int)] 91)
  have ha0 : Below W'.heap.size W' (W'.alloc (.cells #[.string src, .string dst, .int .u64 (seq : Int), vd, .int .u64 (ht : Int), .int .u64 (tm : Int)] 91)) := (Below.refl _ _).alloc (Nat.le_refl _) _
  have HP := Lib.hid (rtparse_any vd l _ (hr.up (Nat.le_refl _) ha0) hl)
  have D0 := h.up ha0
  obtain ⟨A, c, rfl⟩ := hr.form
  clear hr h
  generalize hW0 : W'.alloc (.cells #[.string src, .string dst, .int .u64 (seq : Int), .slice A l.length c, .int .u64 (ht : Int), .int .u64 (tm : Int)] 91) = W0 at *
  unfold parseV at HP
  unfold refundM
  have hfm := @readD_form l
  have b0 := blk_cell hbox 0
  have b3 := blk_cell hbox 3
  cases hrd : readD l with
  | none =>
    rw [hrd] at HP
    clear hrd hfm
    dsimp only at HP ⊢
    unfold DataV.none DataV.val U4.zero at HP
    dsimp only at HP
    generalize l.length = n at *
    go_enter Tryz.func46, Tryz.ntmps46
    go_wp2_with fail
    try rw [hW0]
    refine HP.out.mono ?_
    rintro e w1 ⟨rfl, hb1⟩
    have hb2 := hb1.alloc hb1.size (.cells #[.string ⟨#[]⟩, .string ⟨#[]⟩, .string ⟨#[]⟩, .int .u64 0, .int .u64 0, .int .u64 0, .int .u64 0] 81)
    have D2 := (D0.up hb2).more (show N ≤ N + 2 by omega)
    clear D0 hbox
    go_wp2_with fail
    go_ret
    exact ⟨rfl, D2⟩
  | some v =>
    rw [hrd] at HP
    obtain ⟨-, vok, vd1, vf1, vt1⟩ := hfm hrd
    clear hrd hfm
    obtain ⟨d, f, t, x⟩ := v
    dsimp only at HP vok vd1 vf1 vt1 ⊢
    unfold DataV.val at HP
    dsimp only at HP
    have HT := Lib.hid (fun W : World => rhop_any d W (by unfold maxLen; omega))
    have HE := Lib.hid (fun W : World => (rtesc_any src W (by omega)).mono fun e w' ⟨h1, h2⟩ => (⟨h1, h2.symm⟩ : _ ∧ w' = W))
    have HD : Hid (∀ Z, Below W0.heap.size W0 Z → Doc W' b R N Z) := Lib.hid fun Z hz => D0.up hz
    have HM : Hid (∀ Z, Below W0.heap.size W0 Z → Calls Tryz.prog 116 #[.pointer (some ⟨b, 0, none⟩), .string f, .string d, x.val] Z fun e w' => e = .returned (.int .i64 (mintM R f d x).1) ∧ Doc W' b (mintM R f d x).2 (N + 2) w' ∧ Chg Z w' (fun k => k = b)) :=
      Lib.hid fun Z hz => by
        have D := HD.out Z hz
        exact (rmint_any ⟨D.s, D.n, D.v, Chg.refl _ _⟩ hN f d x vok (by omega) (by omega)).mono fun e w' ⟨h1, h2⟩ => ⟨h1, ⟨h2.s, h2.n, h2.v, D.c.trans' h2.c⟩, h2.c⟩
    have HS : Hid (∀ Z, Below W0.heap.size W0 Z → Calls Tryz.prog 117 #[.pointer (some ⟨b, 0, none⟩), .string (kEsc src), .string f, .string d, x.val] Z fun e w' => e = .returned (.int .i64 (sendM R (kEsc src) f d x).1) ∧ Doc W' b (sendM R (kEsc src) f d x).2 (N + 2) w' ∧ Chg Z w' (fun k => k = b)) :=
      Lib.hid fun Z hz => by
        have D := HD.out Z hz
        exact (rsend_any ⟨D.s, D.n, D.v, Chg.refl _ _⟩ hN (kEsc src) f d x vok (by rw [kEsc_size]; omega) (by omega) (by omega)).mono fun e w' ⟨h1, h2⟩ => ⟨h1, ⟨h2.s, h2.n, h2.v, D.c.trans' h2.c⟩, h2.c⟩
    unfold U4.val U4.cells at HM HS
    cases hh : hopL d.data.toList with
    | none =>
      rw [show thruB d src = false by unfold thruB; rw [hh]]
      rw [show hopV d.data.toList = .tuple #[.string ByteArray.empty, .string ByteArray.empty, .bool false] by unfold hopV; rw [hh]] at HT
      clear hh
      generalize hmm : mintM R f d x = qm at *
      generalize hss : sendM R (kEsc src) f d x = qs at *
      generalize kEsc src = ke at *
      clear hmm hss vok vd1 vf1 vt1 hs hl hN
      generalize l.length = n at *
      go_enter Tryz.func46, Tryz.ntmps46
      go_wp2_with fail
      try rw [hW0]
      refine HP.out.mono ?_
      rintro e w1 ⟨rfl, hb1⟩
      have hb2 := hb1.alloc hb1.size (.cells #[.string d, .string f, .string t, .int .u64 (x.a : Int), .int .u64 (x.b : Int), .int .u64 (x.c : Int), .int .u64 (x.d : Int)] 81)
      have hd2 := heap_alloc_new w1 (.cells #[.string d, .string f, .string t, .int .u64 (x.a : Int), .int .u64 (x.b : Int), .int .u64 (x.c : Int), .int .u64 (x.d : Int)] 81)
      have hx2 := (hb2.block _ (blk_lt hbox)).trans hbox
      have c0 := blk_cell hx2 0
      clear D0 HP hb1
      go_wp2_with fail
      generalize w1.alloc (.cells #[.string d, .string f, .string t, .int .u64 (x.a : Int), .int .u64 (x.b : Int), .int .u64 (x.c : Int), .int .u64 (x.d : Int)] 81) = w2 at *
      generalize w1.heap.size = gd at *
      generalize W'.heap.size = gp at *
      refine (HT.out _).mono ?_
      rintro e w3 ⟨rfl, hb32⟩
      have hb3 := below_chain hb2 hb2.size hb32
      have hd3 := (hb32.block _ (blk_lt hd2)).trans hd2
      have hx3 := (hb32.block _ (blk_lt hx2)).trans hx2
      have e0 := blk_cell hd3 0
      have e1 := blk_cell hd3 1
      have e3 := blk_cell hd3 3
      have e4 := blk_cell hd3 4
      have e5 := blk_cell hd3 5
      have e6 := blk_cell hd3 6
      have p0 := blk_cell hx3 0
      have D3 := HD.out _ hb3
      have np : ¬ gp = b := DocS.ne_cell D3.s (blk_cell hx3 0) (by simp) (by simp)
      have nd : ¬ gd = b := DocS.ne_cell D3.s (blk_cell hd3 0) (by simp) (by simp)
      clear D3
      have HC : Hid (∀ Z, Chg w3 Z (fun k => k = b) → Z.cell? ⟨gp, 0, none⟩ = some (.string src) ∧ Z.cell? ⟨gd, 0, none⟩ = some (.string d) ∧ Z.cell? ⟨gd, 1, none⟩ = some (.string f) ∧ Z.cell? ⟨gd, 3, none⟩ = some (.int .u64 (x.a : Int)) ∧ Z.cell? ⟨gd, 4, none⟩ = some (.int .u64 (x.b : Int)) ∧ Z.cell? ⟨gd, 5, none⟩ = some (.int .u64 (x.c : Int)) ∧ Z.cell? ⟨gd, 6, none⟩ = some (.int .u64 (x.d : Int))) :=
        Lib.hid fun Z hz => ⟨blk_cell ((hz.block _ (blk_lt hx3) np).trans hx3) 0, blk_cell ((hz.block _ (blk_lt hd3) nd).trans hd3) 0, blk_cell ((hz.block _ (blk_lt hd3) nd).trans hd3) 1, blk_cell ((hz.block _ (blk_lt hd3) nd).trans hd3) 3, blk_cell ((hz.block _ (blk_lt hd3) nd).trans hd3) 4, blk_cell ((hz.block _ (blk_lt hd3) nd).trans hd3) 5, blk_cell ((hz.block _ (blk_lt hd3) nd).trans hd3) 6⟩
      clear hd2 hx2 hb2 hb32 c0 HT
      have HS2 := Lib.hid (HS.out _ (Below.drew hb3))
      have hkD : Chg w3 w3.drew (fun k => k = b) := .of_below (Below.drew (Below.refl _ _)) _
      go_wp2_with fail
      go_region_held_law (fun Z => Z.cell? ⟨gp, 0, none⟩ = some (.string src) ∧ Z.cell? ⟨gd, 0, none⟩ = some (.string d) ∧ Z.cell? ⟨gd, 1, none⟩ = some (.string f) ∧ Z.cell? ⟨gd, 3, none⟩ = some (.int .u64 (x.a : Int)) ∧ Z.cell? ⟨gd, 4, none⟩ = some (.int .u64 (x.b : Int)) ∧ Z.cell? ⟨gd, 5, none⟩ = some (.int .u64 (x.c : Int)) ∧ Z.cell? ⟨gd, 6, none⟩ = some (.int .u64 (x.d : Int)))
        (with_reducible first | exact HC.out _ hkF | exact HC.out _ hkD)
        ((first
          | (go_at_call 48; refine (HE.out _).mono ?_; rintro e w9 ⟨rfl, rfl⟩)
          | (go_at_call 117; refine HS2.out.mono ?_; rintro e wS ⟨rfl, AS, hkS⟩; have hkF := hkD.trans' hkS)))
      all_goals
        go_wp2_with fail
        go_ret
        exact ⟨rfl, AS⟩
    | some q =>
      obtain ⟨hp, rst⟩ := q
      rw [show hopV d.data.toList = .tuple #[.string ⟨hp.toArray⟩, .string ⟨rst.toArray⟩, .bool true] by unfold hopV; rw [hh]] at HT
      by_cases hq : hp = src.data.toList
      · rw [show thruB d src = true by unfold thruB; rw [hh]; exact decide_eq_true hq]
        rw [show (⟨hp.toArray⟩ : ByteArray) = src by rw [hq]] at HT
        clear hq
        clear hh
        generalize hmm : mintM R f d x = qm at *
        generalize hss : sendM R (kEsc src) f d x = qs at *
        generalize kEsc src = ke at *
        clear hmm hss vok vd1 vf1 vt1 hs hl hN
        generalize l.length = n at *
        go_enter Tryz.func46, Tryz.ntmps46
        go_wp2_with fail
        try rw [hW0]
        refine HP.out.mono ?_
        rintro e w1 ⟨rfl, hb1⟩
        have hb2 := hb1.alloc hb1.size (.cells #[.string d, .string f, .string t, .int .u64 (x.a : Int), .int .u64 (x.b : Int), .int .u64 (x.c : Int), .int .u64 (x.d : Int)] 81)
        have hd2 := heap_alloc_new w1 (.cells #[.string d, .string f, .string t, .int .u64 (x.a : Int), .int .u64 (x.b : Int), .int .u64 (x.c : Int), .int .u64 (x.d : Int)] 81)
        have hx2 := (hb2.block _ (blk_lt hbox)).trans hbox
        have c0 := blk_cell hx2 0
        clear D0 HP hb1
        go_wp2_with fail
        generalize w1.alloc (.cells #[.string d, .string f, .string t, .int .u64 (x.a : Int), .int .u64 (x.b : Int), .int .u64 (x.c : Int), .int .u64 (x.d : Int)] 81) = w2 at *
        generalize w1.heap.size = gd at *
        generalize W'.heap.size = gp at *
        refine (HT.out _).mono ?_
        rintro e w3 ⟨rfl, hb32⟩
        have hb3 := below_chain hb2 hb2.size hb32
        have hd3 := (hb32.block _ (blk_lt hd2)).trans hd2
        have hx3 := (hb32.block _ (blk_lt hx2)).trans hx2
        have e0 := blk_cell hd3 0
        have e1 := blk_cell hd3 1
        have e3 := blk_cell hd3 3
        have e4 := blk_cell hd3 4
        have e5 := blk_cell hd3 5
        have e6 := blk_cell hd3 6
        have p0 := blk_cell hx3 0
        have D3 := HD.out _ hb3
        have np : ¬ gp = b := DocS.ne_cell D3.s (blk_cell hx3 0) (by simp) (by simp)
        have nd : ¬ gd = b := DocS.ne_cell D3.s (blk_cell hd3 0) (by simp) (by simp)
        clear D3
        have HC : Hid (∀ Z, Chg w3 Z (fun k => k = b) → Z.cell? ⟨gp, 0, none⟩ = some (.string src) ∧ Z.cell? ⟨gd, 0, none⟩ = some (.string d) ∧ Z.cell? ⟨gd, 1, none⟩ = some (.string f) ∧ Z.cell? ⟨gd, 3, none⟩ = some (.int .u64 (x.a : Int)) ∧ Z.cell? ⟨gd, 4, none⟩ = some (.int .u64 (x.b : Int)) ∧ Z.cell? ⟨gd, 5, none⟩ = some (.int .u64 (x.c : Int)) ∧ Z.cell? ⟨gd, 6, none⟩ = some (.int .u64 (x.d : Int))) :=
          Lib.hid fun Z hz => ⟨blk_cell ((hz.block _ (blk_lt hx3) np).trans hx3) 0, blk_cell ((hz.block _ (blk_lt hd3) nd).trans hd3) 0, blk_cell ((hz.block _ (blk_lt hd3) nd).trans hd3) 1, blk_cell ((hz.block _ (blk_lt hd3) nd).trans hd3) 3, blk_cell ((hz.block _ (blk_lt hd3) nd).trans hd3) 4, blk_cell ((hz.block _ (blk_lt hd3) nd).trans hd3) 5, blk_cell ((hz.block _ (blk_lt hd3) nd).trans hd3) 6⟩
        clear hd2 hx2 hb2 hb32 c0 HT
        have HM2 := Lib.hid (HM.out _ hb3)
        go_wp2_with fail
        refine HM2.out.mono ?_
        rintro e w4 ⟨rfl, A4, -⟩
        go_wp2_with fail
        go_ret
        exact ⟨rfl, A4⟩
      · rw [show thruB d src = false by unfold thruB; rw [hh]; exact decide_eq_false hq]
        have hne : (⟨hp.toArray⟩ : ByteArray) ≠ src := fun e => hq (by rw [← e])
        generalize (⟨hp.toArray⟩ : ByteArray) = hx at *
        have hq2 : (hx.toList == src.toList) = false := by rw [beqS, decide_eq_false hne]
        clear hq hne
        clear hh
        generalize hmm : mintM R f d x = qm at *
        generalize hss : sendM R (kEsc src) f d x = qs at *
        generalize kEsc src = ke at *
        clear hmm hss vok vd1 vf1 vt1 hs hl hN
        generalize l.length = n at *
        go_enter Tryz.func46, Tryz.ntmps46
        go_wp2_with fail
        try rw [hW0]
        refine HP.out.mono ?_
        rintro e w1 ⟨rfl, hb1⟩
        have hb2 := hb1.alloc hb1.size (.cells #[.string d, .string f, .string t, .int .u64 (x.a : Int), .int .u64 (x.b : Int), .int .u64 (x.c : Int), .int .u64 (x.d : Int)] 81)
        have hd2 := heap_alloc_new w1 (.cells #[.string d, .string f, .string t, .int .u64 (x.a : Int), .int .u64 (x.b : Int), .int .u64 (x.c : Int), .int .u64 (x.d : Int)] 81)
        have hx2 := (hb2.block _ (blk_lt hbox)).trans hbox
        have c0 := blk_cell hx2 0
        clear D0 HP hb1
        go_wp2_with fail
        generalize w1.alloc (.cells #[.string d, .string f, .string t, .int .u64 (x.a : Int), .int .u64 (x.b : Int), .int .u64 (x.c : Int), .int .u64 (x.d : Int)] 81) = w2 at *
        generalize w1.heap.size = gd at *
        generalize W'.heap.size = gp at *
        refine (HT.out _).mono ?_
        rintro e w3 ⟨rfl, hb32⟩
        have hb3 := below_chain hb2 hb2.size hb32
        have hd3 := (hb32.block _ (blk_lt hd2)).trans hd2
        have hx3 := (hb32.block _ (blk_lt hx2)).trans hx2
        have e0 := blk_cell hd3 0
        have e1 := blk_cell hd3 1
        have e3 := blk_cell hd3 3
        have e4 := blk_cell hd3 4
        have e5 := blk_cell hd3 5
        have e6 := blk_cell hd3 6
        have p0 := blk_cell hx3 0
        have D3 := HD.out _ hb3
        have np : ¬ gp = b := DocS.ne_cell D3.s (blk_cell hx3 0) (by simp) (by simp)
        have nd : ¬ gd = b := DocS.ne_cell D3.s (blk_cell hd3 0) (by simp) (by simp)
        clear D3
        have HC : Hid (∀ Z, Chg w3 Z (fun k => k = b) → Z.cell? ⟨gp, 0, none⟩ = some (.string src) ∧ Z.cell? ⟨gd, 0, none⟩ = some (.string d) ∧ Z.cell? ⟨gd, 1, none⟩ = some (.string f) ∧ Z.cell? ⟨gd, 3, none⟩ = some (.int .u64 (x.a : Int)) ∧ Z.cell? ⟨gd, 4, none⟩ = some (.int .u64 (x.b : Int)) ∧ Z.cell? ⟨gd, 5, none⟩ = some (.int .u64 (x.c : Int)) ∧ Z.cell? ⟨gd, 6, none⟩ = some (.int .u64 (x.d : Int))) :=
          Lib.hid fun Z hz => ⟨blk_cell ((hz.block _ (blk_lt hx3) np).trans hx3) 0, blk_cell ((hz.block _ (blk_lt hd3) nd).trans hd3) 0, blk_cell ((hz.block _ (blk_lt hd3) nd).trans hd3) 1, blk_cell ((hz.block _ (blk_lt hd3) nd).trans hd3) 3, blk_cell ((hz.block _ (blk_lt hd3) nd).trans hd3) 4, blk_cell ((hz.block _ (blk_lt hd3) nd).trans hd3) 5, blk_cell ((hz.block _ (blk_lt hd3) nd).trans hd3) 6⟩
        clear hd2 hx2 hb2 hb32 c0 HT
        have HS2 := Lib.hid (HS.out _ (Below.drew hb3))
        have hkD : Chg w3 w3.drew (fun k => k = b) := .of_below (Below.drew (Below.refl _ _)) _
        go_wp2_with fail
        go_region_held_law (fun Z => Z.cell? ⟨gp, 0, none⟩ = some (.string src) ∧ Z.cell? ⟨gd, 0, none⟩ = some (.string d) ∧ Z.cell? ⟨gd, 1, none⟩ = some (.string f) ∧ Z.cell? ⟨gd, 3, none⟩ = some (.int .u64 (x.a : Int)) ∧ Z.cell? ⟨gd, 4, none⟩ = some (.int .u64 (x.b : Int)) ∧ Z.cell? ⟨gd, 5, none⟩ = some (.int .u64 (x.c : Int)) ∧ Z.cell? ⟨gd, 6, none⟩ = some (.int .u64 (x.d : Int)))
          (with_reducible first | exact HC.out _ hkF | exact HC.out _ hkD)
          ((first
            | (go_at_call 48; refine (HE.out _).mono ?_; rintro e w9 ⟨rfl, rfl⟩)
            | (go_at_call 117; refine HS2.out.mono ?_; rintro e wS ⟨rfl, AS, hkS⟩; have hkF := hkD.trans' hkS)))
        all_goals
          go_wp2_with fail
          go_ret
          exact ⟨rfl, AS⟩
end Go.Proofs.YtlkkjnacolmmpaaGreatDoor
namespace Go.Proofs.YtlkkjnacolmmpaaGreatDoor
set_option maxRecDepth 100000
open Go Go.RowKit
set_option linter.unusedVariables false

section
variable {B : Nat} {y : Lyr} {b k : Nat} {Rp Rd : List Pr} {W W' : World}
theorem Two.refund (h : Two B y b Rp Rd k W) (hn : y.n + k + 2 ≤ 100000000) (src dst : ByteArray) (seq ht tm : Nat) (vd : Value) (l : List UInt8) (hr : _root_.Go.Proofs.YtlkkjnacolmmpaaGreatDoor.Rd W W.heap.size vd l) (hl : l.length ≤ 140737488355320) (hs : src.size ≤ 10000000) :
    Calls Tryz.prog 45 #[.pointer (some ⟨y.b, 0, none⟩), .agg #[.string src, .string dst, .int .u64 (seq : Int), vd, .int .u64 (ht : Int), .int .u64 (tm : Int)]] W fun e w' => e = .returned (.int .i64 (refundM Rp src l).1) ∧ Two B y b (refundM Rp src l).2 Rd (k + 2) w' ∧ Chg W w' (FT y b) := by
  obtain ⟨n, f, h1, h2, h3⟩ := h.p
  have A : Acc W ⟨y.b, y.m, n, f⟩ Rp 0 W := ⟨BankS.refl h1 h2, h1⟩
  refine (trefund_any A (show n + 0 + 2 ≤ maxLen by unfold maxLen; omega) src dst seq ht tm vd l hr hl hs).mono ?_
  rintro e w' ⟨he, hq, -⟩
  exact ⟨he, h.bankS h3 h1 hq.b⟩
theorem Two.rrefund (h : Two B y b Rp Rd k W) (hn : y.n + k + 2 ≤ 100000000) (src dst : ByteArray) (seq ht tm : Nat) (vd : Value) (l : List UInt8) (hr : _root_.Go.Proofs.YtlkkjnacolmmpaaGreatDoor.Rd W W.heap.size vd l) (hl : l.length ≤ 140737488355320) (hs : src.size ≤ 10000000) :
    Calls Tryz.prog 46 #[.pointer (some ⟨b, 0, none⟩), .agg #[.string src, .string dst, .int .u64 (seq : Int), vd, .int .u64 (ht : Int), .int .u64 (tm : Int)]] W fun e w' => e = .returned (.int .i64 (refundM Rd src l).1) ∧ Two B y b Rp (refundM Rd src l).2 (k + 2) w' ∧ Chg W w' (FT y b) := by
  refine (rtrefund_any h.doc hn src dst seq ht tm vd l hr hl hs).mono ?_
  rintro e w' ⟨he, hq⟩
  exact ⟨he, h.docS hq⟩
end
end Go.Proofs.YtlkkjnacolmmpaaGreatDoor
namespace Go.Proofs.YtlkkjnacolmmpaaGreatDoor
set_option maxRecDepth 100000
open Go Go.RowKit
set_option linter.unusedVariables false

set_option maxHeartbeats 16000000 in
theorem trefunds_law (w : World) (v0 : Value) (ps : List Pr) (hps : RdP w w.heap.size v0 ps) (hnl : ∀ p ∈ ps, p.1.size ≤ maxLen) (hvl : ∀ p ∈ ps, p.2.length ≤ 2000000) (hpl : ps.length ≤ 2000000)
    (src dst : ByteArray) (seq ht tm : Nat) (vd : Value) (l : List UInt8) (hr : Rd w w.heap.size vd l) (hl : l.length ≤ 10000000) (hs : src.size ≤ 10000000) :
    Calls Tryz.prog 7 #[v0, .agg #[.string src, .string dst, .int .u64 (seq : Int), vd, .int .u64 (ht : Int), .int .u64 (tm : Int)]] w fun e w' => e = .returned (.bool true) ∧ Below w.heap.size w w' := by
  have HNA := Lib.hid (fun (W : World) (hb : Below w.heap.size w W) => new_any W v0 ps (hps.kept (Kept.of_below hb)) hnl)
  have HN1 := Lib.hid (fun (W : World) (hb : Below w.heap.size w W) => rnew_doc W v0 ps (hps.kept (Kept.of_below hb)) hnl hvl hpl)
  have HV := Lib.hid (And.intro hnl (And.intro hvl hpl))
  have HRD := Lib.hid hr
  obtain ⟨A0, c0, rfl⟩ : ∃ A c, v0 = .slice A ps.length c := RdP.form hps
  obtain ⟨Ad, cd, rfl⟩ := hr.form
  have hbox := heap_alloc_new w (.cells #[.string src, .string dst, .int .u64 (seq : Int), .slice Ad l.length cd, .int .u64 (ht : Int), .int .u64 (tm : Int)] 91)
  have ha0 : Below w.heap.size w (w.alloc (.cells #[.string src, .string dst, .int .u64 (seq : Int), .slice Ad l.length cd, .int .u64 (ht : Int), .int .u64 (tm : Int)] 91)) := (Below.refl _ _).alloc (Nat.le_refl _) _
  have HN0 := Lib.hid (HNA.out _ ha0)
  generalize hW0 : w.alloc (.cells #[.string src, .string dst, .int .u64 (seq : Int), .slice Ad l.length cd, .int .u64 (ht : Int), .int .u64 (tm : Int)] 91) = w0 at *
  have HLL := Lib.hid (And.intro hl hs)
  clear HNA hps hnl hvl hpl hr hl hs
  go_enter Tryz.func7, Tryz.ntmps7
  go_wp2_with fail
  try rw [hW0]
  clear hW0
  refine HN0.out.mono ?_
  rintro e w1 ⟨⟨hor, rfl⟩ | ⟨hor, y, rfl, hyb, hym, hyn, hly, hri, hp1⟩, hb1⟩
  · have HO := Lib.hid hor
    have hq1 := below_chain ha0 ha0.size hb1
    clear hor
    go_wp2_with fail
    refine (HN1.out _ hq1).mono ?_
    rintro e w2 ⟨⟨-, rfl⟩ | ⟨h2, -⟩, hb2⟩
    rotate_left
    · rw [HO.out] at h2; cases h2
    have hq2 := below_chain hq1 hq1.size hb2
    go_wp2_with fail
    refine (tfixed_any _).mono ?_
    rintro e w3 ⟨rfl, hb3⟩
    have hq3 := below_chain hq2 hq2.size hb3
    go_wp2_with fail
    go_ret
    exact ⟨rfl, hq3⟩
  have HO := Lib.hid hor
  obtain ⟨yb, ym, yn, yf⟩ := y
  dsimp only at hyb hym hyn ⊢
  have HY := Lib.hid (And.intro hp1 (And.intro hly hri))
  have HYN := Lib.hid (show yn = ps.length from hyn)
  have hq1 := below_chain ha0 ha0.size hb1
  have hx1 := (hb1.block _ (blk_lt hbox)).trans hbox
  clear hyb hly hri hp1 HN0 hyn hor
  go_wp2_with fail
  refine (HN1.out _ hq1).mono ?_
  rintro e w2 ⟨⟨h2, -⟩ | ⟨-, b, rfl, hbb, hds⟩, hb2⟩
  · rw [HO.out] at h2; cases h2
  have hq2 := below_chain hq1 hq1.size hb2
  have hym' : w.heap.size ≤ ym := Nat.le_trans ha0.size hym
  have T2 : Two w.heap.size ⟨yb, ym, yn, yf⟩ b ps ps 0 w2 := ⟨⟨yn, yf, HY.out.1.up hb2, seen_bot0 HY.out.2.1 HY.out.2.2 HV.out.1, Nat.le_refl _⟩, hds, Nat.le_of_eq HYN.out.symm, HV.out.2.1, hym', Nat.le_trans hq1.size hbb, hq2.size⟩
  have hx2 := (hb2.block _ (blk_lt hx1)).trans hx1
  clear hb1 hb2 hbb hds HY hym hym' HN1 hq1 hx1 hbox ha0
  go_wp2_with fail
  refine (tfixed_any _).mono ?_
  rintro e w3 ⟨rfl, hb3⟩
  have T3 := T2.up hb3
  have hq3 := below_chain hq2 hq2.size hb3
  have hx3 := (hb3.block _ (blk_lt hx2)).trans hx2
  have hny : ¬ FT ⟨yb, ym, yn, yf⟩ b w.heap.size := fun e => by
    rcases e with e | e
    · obtain ⟨n, f, h1, -, -⟩ := T3.p
      obtain ⟨es, c, e2⟩ := h1.1.maps _ rfl
      rw [show ym = w.heap.size from e.symm] at e2
      rw [hx3] at e2
      cases e2
    · exact DocS.ne_cell T3.d (blk_cell hx3 0) (by simp) (by simp) e
  have HR1 := Lib.hid (T3.refund (show yn + 0 + 2 ≤ 100000000 by have := HYN.out; have := HV.out.2.2; omega) src dst seq ht tm _ l ((Kept.of_below hq3).rd HRD.out) (by have := HLL.out.1; omega) HLL.out.2)
  have x0 := blk_cell hx3 0
  have x1 := blk_cell hx3 1
  have x2 := blk_cell hx3 2
  have x3 := blk_cell hx3 3
  have x4 := blk_cell hx3 4
  have x5 := blk_cell hx3 5
  clear T2 hq2 hb3 hx2
  have HT3 := Lib.hid T3
  clear T3
  go_wp2_with fail
  refine HR1.out.mono ?_
  rintro e w4 ⟨rfl, T4, hc4⟩
  have hq4 := hq3.trans (HT3.out.below hc4)
  have hx4 := (hc4.block _ (blk_lt hx3) hny).trans hx3
  have HR2 := Lib.hid (T4.rrefund (show yn + (0 + 2) + 2 ≤ 100000000 by have := HYN.out; have := HV.out.2.2; omega) src dst seq ht tm _ l ((Kept.of_below hq4).rd HRD.out) (by have := HLL.out.1; omega) HLL.out.2)
  have HT4 := Lib.hid T4
  clear T4 x0 x1 x2 x3 x4 x5 HR1 hc4
  generalize refundM ps src l = q at *
  obtain ⟨qe, qR⟩ := q
  dsimp only at HR2 HT4 ⊢
  have x0 := blk_cell hx4 0
  have x1 := blk_cell hx4 1
  have x2 := blk_cell hx4 2
  have x3 := blk_cell hx4 3
  have x4 := blk_cell hx4 4
  have x5 := blk_cell hx4 5
  go_wp2_with fail
  refine HR2.out.mono ?_
  rintro e w5 ⟨rfl, T5, hc5⟩
  have hb := hq4.trans (HT4.out.below hc5)
  clear x0 x1 x2 x3 x4 x5 HR2 hc5 hx4 hx3 hny
  obtain ⟨m, f, hm, hri, hA⟩ := T5.acc
  have hm' : m ≤ 100000000 := by have : m ≤ yn + (0 + 2 + 2) := hm; have := HYN.out; have := HV.out.2.2; omega
  have hsm : ∀ p ∈ qR, p.1.size ≤ maxLen := by obtain ⟨_, _, _, h2, _⟩ := T5.p; exact h2.small
  have HPA := Lib.hid (hA.pairs (show m + 0 ≤ 1000000000 by omega) ⟨#[]⟩ (by decide +kernel))
  have HPB := Lib.hid (fun (Z : World) (hz : Below w5.heap.size w5 Z) => rpairs_any ((T5.docR (show yn + (0 + 2 + 2) ≤ 100000000 by have := HYN.out; have := HV.out.2.2; omega)).up hz) ⟨#[]⟩ (by decide +kernel) hsm)
  rw [filter_all] at HPA HPB
  obtain ⟨rl, hrl⟩ : ∃ rl, rl = qR.length := ⟨_, rfl⟩
  have HRL := Lib.hid hrl
  clear T5 hm hri hA hsm hrl HT4 HT3
  go_wp2_with fail
  refine HPA.out.mono ?_
  rintro e w6 ⟨v4, rfl, ho4, hb4⟩
  have hr4 := ho4.rdP
  obtain ⟨A4, c4, hv4⟩ : ∃ A c, v4 = .slice A rl c := by rw [HRL.out]; exact ho4.form
  subst hv4
  have HV4 := Lib.hid hr4
  clear ho4 hr4
  go_wp2_with fail
  refine (HPB.out _ hb4).mono ?_
  rintro e w7 ⟨v5, rfl, hr5, hb5⟩
  have HSA := Lib.hid (samePs_any w7 (.slice A4 rl c4) v5 qR qR (HV4.out.kept (Kept.of_below hb5)) hr5)
  obtain ⟨A5, c5, hv5⟩ : ∃ A c, v5 = .slice A rl c := by rw [HRL.out]; exact RdP.form hr5
  subst hv5
  clear hr5
  go_wp2_with fail
  refine HSA.out.mono ?_
  rintro e w8 ⟨rfl, hb6⟩
  have hbb := below_chain (below_chain hb4 hb4.size hb5) (Nat.le_trans hb4.size hb5.size) hb6
  have hq := below_chain hb hb.size hbb
  simp only [decide_true]
  go_wp2_with fail
  go_ret
  exact ⟨rfl, hq⟩
end Go.Proofs.YtlkkjnacolmmpaaGreatDoor
