
/- The walk of a packet's data being parsed, the document's. The walk of a refund, the document's. Refunds over the program's store and the document's side by side. The walk of the law: what a packet's data say is refunded as the document says. The walk of a limit being read, the document's. The walk of a limit being kept, the document's. The walk of the law: a limit is kept and read back as the document says. The walk of a packet's data in bytes, the document's; data and limits are equal to themselves. The walk of the law: data and limits in bytes. -/
import Derived.Test.YtlkkjnacolmmpaaGreatDoorTraP1
import Derived.Test.YtlkkjnacolmmpaaGreatDoorWireDoc0
import Derived.Test.YtlkkjnacolmmpaaGreatDoorRBankA1
import Derived.Test.YtlkkjnacolmmpaaGreatDoorNameE0
import Derived.Test.YtlkkjnacolmmpaaGreatDoorRBankC0
import Derived.Test.YtlkkjnacolmmpaaGreatDoorBankP0
import Derived.Test.YtlkkjnacolmmpaaGreatDoorHeldBy
namespace Go.Proofs.YtlkkjnacolmmpaaGreatDoor
set_option maxRecDepth 100000
open Go Go.RowKit
set_option linter.unusedVariables false

set_option maxHeartbeats 8000000 in
theorem rtparse_any (v : Value) (l : List UInt8) (w : World) (hr : Rd w w.heap.size v l) (hl : l.length ≤ 140737488355320) :
    Calls Tryz.prog 39 #[v] w fun e w' => e = .returned (parseV l) ∧ Below w.heap.size w w' := by
  have ha0 : Below w.heap.size w (w.alloc (.cells #[.string ⟨#[]⟩, .string ⟨#[]⟩, .string ⟨#[]⟩, .int .u64 0, .int .u64 0, .int .u64 0, .int .u64 0] 81)) := (Below.refl _ _).alloc (Nat.le_refl _) _
  have hk0 := heap_alloc_new w (.cells #[.string ⟨#[]⟩, .string ⟨#[]⟩, .string ⟨#[]⟩, .int .u64 0, .int .u64 0, .int .u64 0, .int .u64 0] 81)
  have HO := Lib.hid (open_dd v l _ (hr.up (Nat.le_refl _) ha0) hl)
  obtain ⟨A, c, rfl⟩ := hr.form
  clear hr
  obtain ⟨V, hV⟩ : ∃ V, V = parseV l := ⟨_, rfl⟩
  rw [← hV]
  unfold parseV readD at hV
  have HV := Lib.hid hV
  clear hV
  go_enter Tryz.func39, Tryz.ntmps39
  go_wp2_with fail
  refine HO.out.mono ?_
  rintro e w1 ⟨g, rfl, hr1, hb1⟩
  have hq1 := below_chain ha0 ha0.size hb1
  have hk1 := (hb1.block _ (blk_lt hk0)).trans hk0
  have hg1 := hr1.from_
  have hg2 := hr1.lt
  have hgs : w.heap.size < (w.alloc (.cells #[.string ⟨#[]⟩, .string ⟨#[]⟩, .string ⟨#[]⟩, .int .u64 0, .int .u64 0, .int .u64 0, .int .u64 0] 81)).heap.size := blk_lt hk0
  generalize (w.alloc (.cells #[.string ⟨#[]⟩, .string ⟨#[]⟩, .string ⟨#[]⟩, .int .u64 0, .int .u64 0, .int .u64 0, .int .u64 0] 81)).heap.size = lo at *
  obtain ⟨gr, hgr⟩ : ∃ gr, gr = w.heap.size := ⟨_, rfl⟩
  obtain ⟨gd, hgd⟩ : ∃ gd, gd = w1.heap.size := ⟨_, rfl⟩
  have P1 : PZ 181 w gr gd lo g 81 81 #[.string ⟨#[]⟩, .string ⟨#[]⟩, .string ⟨#[]⟩, .int .u64 0, .int .u64 0, .int .u64 0, .int .u64 0] #[.string ⟨#[]⟩, .string ⟨#[]⟩, .string ⟨#[]⟩, .int .u64 0, .int .u64 0, .int .u64 0, .int .u64 0] l 0 (w1.alloc (.cells #[.string ⟨#[]⟩, .string ⟨#[]⟩, .string ⟨#[]⟩, .int .u64 0, .int .u64 0, .int .u64 0, .int .u64 0] 81)) :=
    ⟨hq1.alloc hq1.size _, by omega, by have := hq1.size; omega, by rw [hgr]; exact (Below.heap_alloc w1 _ _ (blk_lt hk1)).trans hk1, by rw [hgd]; exact heap_alloc_new w1 _, hr1.below ((Below.refl _ _).alloc (Nat.le_refl _) _), by omega, by omega⟩
  clear hq1 hk1 hg1 hg2 hgs hr1 hb1 HO hk0 ha0
  go_wp2_with fail
  rw [← hgd]
  rw [← hgr]
  generalize w1.alloc (.cells #[.string ⟨#[]⟩, .string ⟨#[]⟩, .string ⟨#[]⟩, .int .u64 0, .int .u64 0, .int .u64 0, .int .u64 0] 81) = wz at *
  clear hgr hgd
  refine (dT_any P1.rd).mono ?_
  rintro e wa1 ⟨rfl, hr, hg⟩
  replace P1 := P1.call hg hr
  clear hr hg
  have b_d := rB_le l 0
  generalize rB l 0 = Q at *
  obtain ⟨d, l_d, f_d⟩ := Q
  dsimp only at P1 HV b_d ⊢
  have z0 := blk_cell P1.loc 0
  have f0 := blk_free P1.loc 0
  have P2 : PZ 181 w gr gd lo g _ 81 _ #[.string ⟨d.toArray⟩, .string ⟨#[]⟩, .string ⟨#[]⟩, .int .u64 0, .int .u64 0, .int .u64 0, .int .u64 0] l_d f_d (wa1.setCell ⟨gd, 0, none⟩ (.string ⟨d.toArray⟩)) := P1.set 0 _
  clear P1
  go_wp2_with fail
  generalize wa1.setCell ⟨gd, 0, none⟩ (.string ⟨d.toArray⟩) = wb1 at *
  refine (dT_any P2.rd).mono ?_
  rintro e wa2 ⟨rfl, hr, hg⟩
  replace P2 := P2.call hg hr
  clear hr hg
  have b_f := rB_le l_d f_d
  generalize rB l_d f_d = Q at *
  obtain ⟨f, l_f, f_f⟩ := Q
  dsimp only at P2 HV b_f ⊢
  have z0 := blk_cell P2.loc 1
  have f0 := blk_free P2.loc 1
  have P3 : PZ 181 w gr gd lo g _ 81 _ #[.string ⟨d.toArray⟩, .string ⟨f.toArray⟩, .string ⟨#[]⟩, .int .u64 0, .int .u64 0, .int .u64 0, .int .u64 0] l_f f_f (wa2.setCell ⟨gd, 1, none⟩ (.string ⟨f.toArray⟩)) := P2.set 1 _
  clear P2
  go_wp2_with fail
  generalize wa2.setCell ⟨gd, 1, none⟩ (.string ⟨f.toArray⟩) = wb2 at *
  refine (dT_any P3.rd).mono ?_
  rintro e wa3 ⟨rfl, hr, hg⟩
  replace P3 := P3.call hg hr
  clear hr hg
  have b_t := rB_le l_f f_f
  generalize rB l_f f_f = Q at *
  obtain ⟨t, l_t, f_t⟩ := Q
  dsimp only at P3 HV b_t ⊢
  have z0 := blk_cell P3.loc 2
  have f0 := blk_free P3.loc 2
  have P4 : PZ 181 w gr gd lo g _ 81 _ #[.string ⟨d.toArray⟩, .string ⟨f.toArray⟩, .string ⟨t.toArray⟩, .int .u64 0, .int .u64 0, .int .u64 0, .int .u64 0] l_t f_t (wa3.setCell ⟨gd, 2, none⟩ (.string ⟨t.toArray⟩)) := P3.set 2 _
  clear P3
  go_wp2_with fail
  generalize wa3.setCell ⟨gd, 2, none⟩ (.string ⟨t.toArray⟩) = wb3 at *
  refine (dB_any P4.rd).mono ?_
  rintro e w4 ⟨vB, rfl, hoB, hr, hg⟩
  replace P4 := P4.call hg hr
  clear hr hg
  generalize rB l_t f_t = Q at *
  obtain ⟨b, l_b, f_b⟩ := Q
  dsimp only at P4 HV hoB ⊢
  have HF := Lib.hid (rfrom_any vB b _ hoB.rd)
  obtain ⟨AB, cB, rfl⟩ := hoB.form
  go_wp2_with fail
  refine HF.out.mono ?_
  rintro e w5 ⟨rfl, hb5⟩
  replace P4 := P4.up hb5
  clear hb5 HF hoB
  have hux := fromU_ok b
  generalize fromU b = Q at *
  obtain ⟨x, fe⟩ := Q
  dsimp only at P4 HV hux ⊢
  unfold U4.val U4.cells
  have P5 := P4.alloc (.cells #[.int .u64 (x.a : Int), .int .u64 (x.b : Int), .int .u64 (x.c : Int), .int .u64 (x.d : Int)] 74)
  have hu5 := heap_alloc_new w5 (.cells #[.int .u64 (x.a : Int), .int .u64 (x.b : Int), .int .u64 (x.c : Int), .int .u64 (x.d : Int)] 74)
  have u0 := blk_cell hu5 0
  have u1 := blk_cell hu5 1
  have u2 := blk_cell hu5 2
  have u3 := blk_cell hu5 3
  have z3 := blk_cell P5.loc 3
  have z4 := blk_cell P5.loc 4
  have z5 := blk_cell P5.loc 5
  have z6 := blk_cell P5.loc 6
  have f3 := blk_free P5.loc 3
  have f4 := blk_free P5.loc 4
  have f5 := blk_free P5.loc 5
  have f6 := blk_free P5.loc 6
  have P6 := (((P5.set 3 (.int .u64 (x.a : Int))).set 4 (.int .u64 (x.b : Int))).set 5 (.int .u64 (x.c : Int))).set 6 (.int .u64 (x.d : Int))
  clear P4
  go_wp2_with fail
  have hU6 : P6.rd.from_ = P6.rd.from_ := rfl
  clear hU6
  generalize hW6 : (((((w5.alloc (.cells #[.int .u64 (x.a : Int), .int .u64 (x.b : Int), .int .u64 (x.c : Int), .int .u64 (x.d : Int)] 74)).setCell ⟨gd, 3, none⟩ (.int .u64 (x.a : Int))).setCell ⟨gd, 4, none⟩ (.int .u64 (x.b : Int))).setCell ⟨gd, 5, none⟩ (.int .u64 (x.c : Int))).setCell ⟨gd, 6, none⟩ (.int .u64 (x.d : Int))) = w6 at *
  clear hW6 P5 hu5 u0 u1 u2 u3 z3 z4 z5 z6 f3 f4 f5 f6
  refine (dEnd_any P6.rd).mono ?_
  rintro e w7 ⟨rfl, rfl⟩
  generalize rEnd l_b f_b = E at *
  by_cases hE : E = 0
  · subst hE
    by_cases hF : fe = 0
    · subst hF
      have HR := Lib.hid (rright_any ⟨f.toArray⟩ ⟨d.toArray⟩ x w6 (by show f.length ≤ _; unfold maxLen; omega) (by show d.length ≤ _; unfold maxLen; omega))
      have HI := Lib.hid (fun W : World => rident_any ⟨t.toArray⟩ W (by show t.length ≤ _; unfold maxLen; omega))
      unfold U4.val U4.cells at HR
      have s0 := blk_cell P6.loc 0
      have s1 := blk_cell P6.loc 1
      have s2 := blk_cell P6.loc 2
      have s3 := blk_cell P6.loc 3
      have s4 := blk_cell P6.loc 4
      have s5 := blk_cell P6.loc 5
      have s6 := blk_cell P6.loc 6
      go_wp2_with fail
      refine HR.out.mono ?_
      rintro e w8 ⟨rfl, hb8⟩
      replace P6 := P6.up hb8
      clear HR hb8 s0 s1 s2 s3 s4 s5 s6
      generalize rightM ⟨f.toArray⟩ ⟨d.toArray⟩ x = R at *
      have s0 := blk_cell P6.loc 0
      have s1 := blk_cell P6.loc 1
      have s2 := blk_cell P6.loc 2
      have s3 := blk_cell P6.loc 3
      have s4 := blk_cell P6.loc 4
      have s5 := blk_cell P6.loc 5
      have s6 := blk_cell P6.loc 6
      have r0 := blk_cell P6.res 0
      have q0 := blk_free P6.res 0
      have r1 := blk_cell P6.res 1
      have q1 := blk_free P6.res 1
      have r2 := blk_cell P6.res 2
      have q2 := blk_free P6.res 2
      have r3 := blk_cell P6.res 3
      have q3 := blk_free P6.res 3
      have r4 := blk_cell P6.res 4
      have q4 := blk_free P6.res 4
      have r5 := blk_cell P6.res 5
      have q5 := blk_free P6.res 5
      have r6 := blk_cell P6.res 6
      have q6 := blk_free P6.res 6
      by_cases hR : R = 0
      · subst hR
        go_wp2_with fail
        refine (HI.out _).mono ?_
        rintro e w9 ⟨rfl, rfl⟩
        change Hid (V = match (if True ∧ True ∧ True ∧ identL (⟨t.toArray⟩ : ByteArray).data.toList = true then some (DataV.mk ⟨d.toArray⟩ ⟨f.toArray⟩ ⟨t.toArray⟩ x) else none) with | some v => .tuple #[v.val, .int .i64 0] | none => .tuple #[DataV.none.val, .int .i64 140]) at HV
        generalize identL (⟨t.toArray⟩ : ByteArray).data.toList = ib at *
        cases ib
        · have hv := HV.out
          rw [if_neg (by simp)] at hv
          dsimp only at hv
          clear HV
          have hk7 := set7P P6.res (.string ⟨#[]⟩) (.string ⟨#[]⟩) (.string ⟨#[]⟩) (.int .u64 0) (.int .u64 0) (.int .u64 0) (.int .u64 0)
          have hb7 := below_set7P P6.below P6.hr (.string ⟨#[]⟩) (.string ⟨#[]⟩) (.string ⟨#[]⟩) (.int .u64 0) (.int .u64 0) (.int .u64 0) (.int .u64 0)
          have HD := Lib.hid (And.intro (blk_cell hk7 0) (And.intro (blk_cell hk7 1) (And.intro (blk_cell hk7 2) (And.intro (blk_cell hk7 3) (And.intro (blk_cell hk7 4) (And.intro (blk_cell hk7 5) (blk_cell hk7 6)))))))
          have HVV := Lib.hid hv
          clear hk7 hv
          go_wp2_with fail
          obtain ⟨d0, d1, d2, d3, d4, d5, d6⟩ := HD.out
          refine bodyPost_ret (v := V) ?_ rfl ⟨rfl, hb7⟩
          rw [HVV.out]
          simp at d0 d1 d2 d3 d4 d5 d6
          simp [results, Tryz.results39, go_sem, d0, d1, d2, d3, d4, d5, d6, DataV.val, DataV.none, U4.zero]
        · have hv := HV.out
          rw [if_pos (by simp)] at hv
          dsimp only at hv
          clear HV
          have hk7 := set7P P6.res (.string ⟨d.toArray⟩) (.string ⟨f.toArray⟩) (.string ⟨t.toArray⟩) (.int .u64 (x.a : Int)) (.int .u64 (x.b : Int)) (.int .u64 (x.c : Int)) (.int .u64 (x.d : Int))
          have hb7 := below_set7P P6.below P6.hr (.string ⟨d.toArray⟩) (.string ⟨f.toArray⟩) (.string ⟨t.toArray⟩) (.int .u64 (x.a : Int)) (.int .u64 (x.b : Int)) (.int .u64 (x.c : Int)) (.int .u64 (x.d : Int))
          have HD := Lib.hid (And.intro (blk_cell hk7 0) (And.intro (blk_cell hk7 1) (And.intro (blk_cell hk7 2) (And.intro (blk_cell hk7 3) (And.intro (blk_cell hk7 4) (And.intro (blk_cell hk7 5) (blk_cell hk7 6)))))))
          have HVV := Lib.hid hv
          clear hk7 hv
          go_wp2_with fail
          obtain ⟨d0, d1, d2, d3, d4, d5, d6⟩ := HD.out
          refine bodyPost_ret (v := V) ?_ rfl ⟨rfl, hb7⟩
          rw [HVV.out]
          simp at d0 d1 d2 d3 d4 d5 d6
          simp [results, Tryz.results39, go_sem, d0, d1, d2, d3, d4, d5, d6, DataV.val]
      · have hne : (R != 0) = true := by simpa using hR
        have hv := HV.out
        rw [if_neg (by simp [hR])] at hv
        dsimp only at hv
        clear HV HI
        have hk7 := set7P P6.res (.string ⟨#[]⟩) (.string ⟨#[]⟩) (.string ⟨#[]⟩) (.int .u64 0) (.int .u64 0) (.int .u64 0) (.int .u64 0)
        have hb7 := below_set7P P6.below P6.hr (.string ⟨#[]⟩) (.string ⟨#[]⟩) (.string ⟨#[]⟩) (.int .u64 0) (.int .u64 0) (.int .u64 0) (.int .u64 0)
        have HD := Lib.hid (And.intro (blk_cell hk7 0) (And.intro (blk_cell hk7 1) (And.intro (blk_cell hk7 2) (And.intro (blk_cell hk7 3) (And.intro (blk_cell hk7 4) (And.intro (blk_cell hk7 5) (blk_cell hk7 6)))))))
        have HVV := Lib.hid hv
        clear hk7 hv
        go_wp2_with fail
        obtain ⟨d0, d1, d2, d3, d4, d5, d6⟩ := HD.out
        refine bodyPost_ret (v := V) ?_ rfl ⟨rfl, hb7⟩
        rw [HVV.out]
        simp at d0 d1 d2 d3 d4 d5 d6
        simp [results, Tryz.results39, go_sem, d0, d1, d2, d3, d4, d5, d6, DataV.val, DataV.none, U4.zero]
    · have hne : (fe != 0) = true := by simpa using hF
      have hv := HV.out
      rw [if_neg (by simp [hF])] at hv
      dsimp only at hv
      clear HV
      have r0 := blk_cell P6.res 0
      have q0 := blk_free P6.res 0
      have r1 := blk_cell P6.res 1
      have q1 := blk_free P6.res 1
      have r2 := blk_cell P6.res 2
      have q2 := blk_free P6.res 2
      have r3 := blk_cell P6.res 3
      have q3 := blk_free P6.res 3
      have r4 := blk_cell P6.res 4
      have q4 := blk_free P6.res 4
      have r5 := blk_cell P6.res 5
      have q5 := blk_free P6.res 5
      have r6 := blk_cell P6.res 6
      have q6 := blk_free P6.res 6
      have hk7 := set7P P6.res (.string ⟨#[]⟩) (.string ⟨#[]⟩) (.string ⟨#[]⟩) (.int .u64 0) (.int .u64 0) (.int .u64 0) (.int .u64 0)
      have hb7 := below_set7P P6.below P6.hr (.string ⟨#[]⟩) (.string ⟨#[]⟩) (.string ⟨#[]⟩) (.int .u64 0) (.int .u64 0) (.int .u64 0) (.int .u64 0)
      have HD := Lib.hid (And.intro (blk_cell hk7 0) (And.intro (blk_cell hk7 1) (And.intro (blk_cell hk7 2) (And.intro (blk_cell hk7 3) (And.intro (blk_cell hk7 4) (And.intro (blk_cell hk7 5) (blk_cell hk7 6)))))))
      have HVV := Lib.hid hv
      clear hk7 hv
      go_wp2_with fail
      obtain ⟨d0, d1, d2, d3, d4, d5, d6⟩ := HD.out
      refine bodyPost_ret (v := V) ?_ rfl ⟨rfl, hb7⟩
      rw [HVV.out]
      simp at d0 d1 d2 d3 d4 d5 d6
      simp [results, Tryz.results39, go_sem, d0, d1, d2, d3, d4, d5, d6, DataV.val, DataV.none, U4.zero]
  · have hne : (E != 0) = true := by simpa using hE
    have hv := HV.out
    rw [if_neg (by simp [hE])] at hv
    dsimp only at hv
    clear HV
    have r0 := blk_cell P6.res 0
    have q0 := blk_free P6.res 0
    have r1 := blk_cell P6.res 1
    have q1 := blk_free P6.res 1
    have r2 := blk_cell P6.res 2
    have q2 := blk_free P6.res 2
    have r3 := blk_cell P6.res 3
    have q3 := blk_free P6.res 3
    have r4 := blk_cell P6.res 4
    have q4 := blk_free P6.res 4
    have r5 := blk_cell P6.res 5
    have q5 := blk_free P6.res 5
    have r6 := blk_cell P6.res 6
    have q6 := blk_free P6.res 6
    have hk7 := set7P P6.res (.string ⟨#[]⟩) (.string ⟨#[]⟩) (.string ⟨#[]⟩) (.int .u64 0) (.int .u64 0) (.int .u64 0) (.int .u64 0)
    have hb7 := below_set7P P6.below P6.hr (.string ⟨#[]⟩) (.string ⟨#[]⟩) (.string ⟨#[]⟩) (.int .u64 0) (.int .u64 0) (.int .u64 0) (.int .u64 0)
    have HD := Lib.hid (And.intro (blk_cell hk7 0) (And.intro (blk_cell hk7 1) (And.intro (blk_cell hk7 2) (And.intro (blk_cell hk7 3) (And.intro (blk_cell hk7 4) (And.intro (blk_cell hk7 5) (blk_cell hk7 6)))))))
    have HVV := Lib.hid hv
    clear hk7 hv
    go_wp2_with fail
    obtain ⟨d0, d1, d2, d3, d4, d5, d6⟩ := HD.out
    refine bodyPost_ret (v := V) ?_ rfl ⟨rfl, hb7⟩
    rw [HVV.out]
    simp at d0 d1 d2 d3 d4 d5 d6
    simp [results, Tryz.results39, go_sem, d0, d1, d2, d3, d4, d5, d6, DataV.val, DataV.none, U4.zero]

end Go.Proofs.YtlkkjnacolmmpaaGreatDoor
namespace Go.Proofs.YtlkkjnacolmmpaaGreatDoor
set_option maxRecDepth 100000
open Go Go.RowKit
set_option linter.unusedVariables false

theorem rtesc_any (a : ByteArray) (w : World) (ha : a.size ≤ 100000000) : Calls Tryz.prog 48 #[.string a] w fun e w' => e = .returned (.string (kEsc a)) ∧ w = w' := by
  have s1 : escP.size = 7 := rfl
  have h1 := fun W => txt_add escP a (by rw [s1]; omega) W
  unfold kEsc
  unfold escP at *
  go_enter Tryz.func48, Tryz.ntmps48
  go_wp2
  go_ret
  exact ⟨rfl, rfl⟩
set_option maxHeartbeats 16000000 in
theorem rtrefund_any {W' : World} {b N : Nat} {R : List Pr} (h : Doc W' b R N W') (hN : N + 2 ≤ 100000000) (src dst : ByteArray) (seq ht tm : Nat) (vd : Value) (l : List UInt8) (hr : Rd W' W'.heap.size vd l) (hl : l.length ≤ 140737488355320) (hs : src.size ≤ 10000000) :
    Calls Tryz.prog 46 #[.pointer (some ⟨b, 0, none⟩), .agg #[.string src, .string dst, .int .u64 (seq : Int), vd, .int .u64 (ht : Int), .int .u64 (tm : Int)]] W' fun e w' => e = .returned (.int .i64 (refundM R src l).1) ∧ Doc W' b (refundM R src l).2 (N + 2) w' := by
  have hbox := heap_alloc_new W' (.cells #[.string src, .string dst, .int .u64 (seq : Int), vd, .int .u64 (ht : Int), .int .u64 (tm : Int)] 91)
  have ha0 : Below W'.heap.size W' (W'.alloc (.cells #[.string src, .string dst, .int .u64 (seq : Int), vd, .int .u64 (ht : Int), .int .u64 (tm : Int)] 91)) := (Below.refl _ _).alloc (Nat.le_refl _) _
  have HP := Lib.hid (rtparse_any vd l _ (hr.up (Nat.le_refl _) ha0) hl)
  have D0 := h.up ha0
  obtain ⟨A, c, rfl⟩ := hr.form
  clear hr h
  generalize hW0 : W'.alloc (.cells #[.string src, .string dst, .int .u64 (seq : Int), .slice A l.length c, .int .u64 (ht : Int), .int .u64 (tm : Int)] 91) = W0 at *
  unfold parseV at HP
  unfold refundM
  have hfm := @readD_form l
  have b0 := blk_cell hbox 0
  have b3 := blk_cell hbox 3
  cases hrd : readD l with
  | none =>
    rw [hrd] at HP
    clear hrd hfm
    dsimp only at HP ⊢
    unfold DataV.none DataV.val U4.zero at HP
    dsimp only at HP
    generalize l.length = n at *
    go_enter Tryz.func46, Tryz.ntmps46
    go_wp2_with fail
    try rw [hW0]
    refine HP.out.mono ?_
    rintro e w1 ⟨rfl, hb1⟩
    have hb2 := hb1.alloc hb1.size (.cells #[.string ⟨#[]⟩, .string ⟨#[]⟩, .string ⟨#[]⟩, .int .u64 0, .int .u64 0, .int .u64 0, .int .u64 0] 81)
    have D2 := (D0.up hb2).more (show N ≤ N + 2 by omega)
    clear D0 hbox
    go_wp2_with fail
    go_ret
    exact ⟨rfl, D2⟩
  | some v =>
    rw [hrd] at HP
    obtain ⟨-, vok, vd1, vf1, vt1⟩ := hfm hrd
    clear hrd hfm
    obtain ⟨d, f, t, x⟩ := v
    dsimp only at HP vok vd1 vf1 vt1 ⊢
    unfold DataV.val at HP
    dsimp only at HP
    have HT := Lib.hid (fun W : World => rhop_any d W (by unfold maxLen; omega))
    have HE := Lib.hid (fun W : World => (rtesc_any src W (by omega)).mono fun e w' ⟨h1, h2⟩ => (⟨h1, h2.symm⟩ : _ ∧ w' = W))
    have HD : Hid (∀ Z, Below W0.heap.size W0 Z → Doc W' b R N Z) := Lib.hid fun Z hz => D0.up hz
    have HM : Hid (∀ Z, Below W0.heap.size W0 Z → Calls Tryz.prog 116 #[.pointer (some ⟨b, 0, none⟩), .string f, .string d, x.val] Z fun e w' => e = .returned (.int .i64 (mintM R f d x).1) ∧ Doc W' b (mintM R f d x).2 (N + 2) w' ∧ Chg Z w' (fun k => k = b)) :=
      Lib.hid fun Z hz => by
        have D := HD.out Z hz
        exact (rmint_any ⟨D.s, D.n, D.v, Chg.refl _ _⟩ hN f d x vok (by omega) (by omega)).mono fun e w' ⟨h1, h2⟩ => ⟨h1, ⟨h2.s, h2.n, h2.v, D.c.trans' h2.c⟩, h2.c⟩
    have HS : Hid (∀ Z, Below W0.heap.size W0 Z → Calls Tryz.prog 117 #[.pointer (some ⟨b, 0, none⟩), .string (kEsc src), .string f, .string d, x.val] Z fun e w' => e = .returned (.int .i64 (sendM R (kEsc src) f d x).1) ∧ Doc W' b (sendM R (kEsc src) f d x).2 (N + 2) w' ∧ Chg Z w' (fun k => k = b)) :=
      Lib.hid fun Z hz => by
        have D := HD.out Z hz
        exact (rsend_any ⟨D.s, D.n, D.v, Chg.refl _ _⟩ hN (kEsc src) f d x vok (by rw [kEsc_size]; omega) (by omega) (by omega)).mono fun e w' ⟨h1, h2⟩ => ⟨h1, ⟨h2.s, h2.n, h2.v, D.c.trans' h2.c⟩, h2.c⟩
    unfold U4.val U4.cells at HM HS
    cases hh : hopL d.data.toList with
    | none =>
      rw [show thruB d src = false by unfold thruB; rw [hh]]
      rw [show hopV d.data.toList = .tuple #[.string ByteArray.empty, .string ByteArray.empty, .bool false] by unfold hopV; rw [hh]] at HT
      clear hh
      generalize hmm : mintM R f d x = qm at *
      generalize hss : sendM R (kEsc src) f d x = qs at *
      generalize kEsc src = ke at *
      clear hmm hss vok vd1 vf1 vt1 hs hl hN
      generalize l.length = n at *
      go_enter Tryz.func46, Tryz.ntmps46
      go_wp2_with fail
      try rw [hW0]
      refine HP.out.mono ?_
      rintro e w1 ⟨rfl, hb1⟩
      have hb2 := hb1.alloc hb1.size (.cells #[.string d, .string f, .string t, .int .u64 (x.a : Int), .int .u64 (x.b : Int), .int .u64 (x.c : Int), .int .u64 (x.d : Int)] 81)
      have hd2 := heap_alloc_new w1 (.cells #[.string d, .string f, .string t, .int .u64 (x.a : Int), .int .u64 (x.b : Int), .int .u64 (x.c : Int), .int .u64 (x.d : Int)] 81)
      have hx2 := (hb2.block _ (blk_lt hbox)).trans hbox
      have c0 := blk_cell hx2 0
      clear D0 HP hb1
      go_wp2_with fail
      generalize w1.alloc (.cells #[.string d, .string f, .string t, .int .u64 (x.a : Int), .int .u64 (x.b : Int), .int .u64 (x.c : Int), .int .u64 (x.d : Int)] 81) = w2 at *
      generalize w1.heap.size = gd at *
      generalize W'.heap.size = gp at *
      refine (HT.out _).mono ?_
      rintro e w3 ⟨rfl, hb32⟩
      have hb3 := below_chain hb2 hb2.size hb32
      have hd3 := (hb32.block _ (blk_lt hd2)).trans hd2
      have hx3 := (hb32.block _ (blk_lt hx2)).trans hx2
      have e0 := blk_cell hd3 0
      have e1 := blk_cell hd3 1
      have e3 := blk_cell hd3 3
      have e4 := blk_cell hd3 4
      have e5 := blk_cell hd3 5
      have e6 := blk_cell hd3 6
      have p0 := blk_cell hx3 0
      have D3 := HD.out _ hb3
      have np : ¬ gp = b := DocS.ne_cell D3.s (blk_cell hx3 0) (by simp) (by simp)
      have nd : ¬ gd = b := DocS.ne_cell D3.s (blk_cell hd3 0) (by simp) (by simp)
      clear D3
      have HC : Hid (∀ Z, Chg w3 Z (fun k => k = b) → Z.cell? ⟨gp, 0, none⟩ = some (.string src) ∧ Z.cell? ⟨gd, 0, none⟩ = some (.string d) ∧ Z.cell? ⟨gd, 1, none⟩ = some (.string f) ∧ Z.cell? ⟨gd, 3, none⟩ = some (.int .u64 (x.a : Int)) ∧ Z.cell? ⟨gd, 4, none⟩ = some (.int .u64 (x.b : Int)) ∧ Z.cell? ⟨gd, 5, none⟩ = some (.int .u64 (x.c : Int)) ∧ Z.cell? ⟨gd, 6, none⟩ = some (.int .u64 (x.d : Int))) :=
        Lib.hid fun Z hz => ⟨blk_cell ((hz.block _ (blk_lt hx3) np).trans hx3) 0, blk_cell ((hz.block _ (blk_lt hd3) nd).trans hd3) 0, blk_cell ((hz.block _ (blk_lt hd3) nd).trans hd3) 1, blk_cell ((hz.block _ (blk_lt hd3) nd).trans hd3) 3, blk_cell ((hz.block _ (blk_lt hd3) nd).trans hd3) 4, blk_cell ((hz.block _ (blk_lt hd3) nd).trans hd3) 5, blk_cell ((hz.block _ (blk_lt hd3) nd).trans hd3) 6⟩
      clear hd2 hx2 hb2 hb32 c0 HT
      have HS2 := Lib.hid (HS.out _ (Below.drew hb3))
      have hkD : Chg w3 w3.drew (fun k => k = b) := .of_below (Below.drew (Below.refl _ _)) _
      go_wp2_with fail
      go_region_held_law (fun Z => Z.cell? ⟨gp, 0, none⟩ = some (.string src) ∧ Z.cell? ⟨gd, 0, none⟩ = some (.string d) ∧ Z.cell? ⟨gd, 1, none⟩ = some (.string f) ∧ Z.cell? ⟨gd, 3, none⟩ = some (.int .u64 (x.a : Int)) ∧ Z.cell? ⟨gd, 4, none⟩ = some (.int .u64 (x.b : Int)) ∧ Z.cell? ⟨gd, 5, none⟩ = some (.int .u64 (x.c : Int)) ∧ Z.cell? ⟨gd, 6, none⟩ = some (.int .u64 (x.d : Int)))
        (with_reducible first | exact HC.out _ hkF | exact HC.out _ hkD)
        ((first
          | (go_at_call 48; refine (HE.out _).mono ?_; rintro e w9 ⟨rfl, rfl⟩)
          | (go_at_call 117; refine HS2.out.mono ?_; rintro e wS ⟨rfl, AS, hkS⟩; have hkF := hkD.trans' hkS)))
      all_goals
        go_wp2_with fail
        go_ret
        exact ⟨rfl, AS⟩
    | some q =>
      obtain ⟨hp, rst⟩ := q
      rw [show hopV d.data.toList = .tuple #[.string ⟨hp.toArray⟩, .string ⟨rst.toArray⟩, .bool true] by unfold hopV; rw [hh]] at HT
      by_cases hq : hp = src.data.toList
      · rw [show thruB d src = true by unfold thruB; rw [hh]; exact decide_eq_true hq]
        rw [show (⟨hp.toArray⟩ : ByteArray) = src by rw [hq]] at HT
        clear hq
        clear hh
        generalize hmm : mintM R f d x = qm at *
        generalize hss : sendM R (kEsc src) f d x = qs at *
        generalize kEsc src = ke at *
        clear hmm hss vok vd1 vf1 vt1 hs hl hN
        generalize l.length = n at *
        go_enter Tryz.func46, Tryz.ntmps46
        go_wp2_with fail
        try rw [hW0]
        refine HP.out.mono ?_
        rintro e w1 ⟨rfl, hb1⟩
        have hb2 := hb1.alloc hb1.size (.cells #[.string d, .string f, .string t, .int .u64 (x.a : Int), .int .u64 (x.b : Int), .int .u64 (x.c : Int), .int .u64 (x.d : Int)] 81)
        have hd2 := heap_alloc_new w1 (.cells #[.string d, .string f, .string t, .int .u64 (x.a : Int), .int .u64 (x.b : Int), .int .u64 (x.c : Int), .int .u64 (x.d : Int)] 81)
        have hx2 := (hb2.block _ (blk_lt hbox)).trans hbox
        have c0 := blk_cell hx2 0
        clear D0 HP hb1
        go_wp2_with fail
        generalize w1.alloc (.cells #[.string d, .string f, .string t, .int .u64 (x.a : Int), .int .u64 (x.b : Int), .int .u64 (x.c : Int), .int .u64 (x.d : Int)] 81) = w2 at *
        generalize w1.heap.size = gd at *
        generalize W'.heap.size = gp at *
        refine (HT.out _).mono ?_
        rintro e w3 ⟨rfl, hb32⟩
        have hb3 := below_chain hb2 hb2.size hb32
        have hd3 := (hb32.block _ (blk_lt hd2)).trans hd2
        have hx3 := (hb32.block _ (blk_lt hx2)).trans hx2
        have e0 := blk_cell hd3 0
        have e1 := blk_cell hd3 1
        have e3 := blk_cell hd3 3
        have e4 := blk_cell hd3 4
        have e5 := blk_cell hd3 5
        have e6 := blk_cell hd3 6
        have p0 := blk_cell hx3 0
        have D3 := HD.out _ hb3
        have np : ¬ gp = b := DocS.ne_cell D3.s (blk_cell hx3 0) (by simp) (by simp)
        have nd : ¬ gd = b := DocS.ne_cell D3.s (blk_cell hd3 0) (by simp) (by simp)
        clear D3
        have HC : Hid (∀ Z, Chg w3 Z (fun k => k = b) → Z.cell? ⟨gp, 0, none⟩ = some (.string src) ∧ Z.cell? ⟨gd, 0, none⟩ = some (.string d) ∧ Z.cell? ⟨gd, 1, none⟩ = some (.string f) ∧ Z.cell? ⟨gd, 3, none⟩ = some (.int .u64 (x.a : Int)) ∧ Z.cell? ⟨gd, 4, none⟩ = some (.int .u64 (x.b : Int)) ∧ Z.cell? ⟨gd, 5, none⟩ = some (.int .u64 (x.c : Int)) ∧ Z.cell? ⟨gd, 6, none⟩ = some (.int .u64 (x.d : Int))) :=
          Lib.hid fun Z hz => ⟨blk_cell ((hz.block _ (blk_lt hx3) np).trans hx3) 0, blk_cell ((hz.block _ (blk_lt hd3) nd).trans hd3) 0, blk_cell ((hz.block _ (blk_lt hd3) nd).trans hd3) 1, blk_cell ((hz.block _ (blk_lt hd3) nd).trans hd3) 3, blk_cell ((hz.block _ (blk_lt hd3) nd).trans hd3) 4, blk_cell ((hz.block _ (blk_lt hd3) nd).trans hd3) 5, blk_cell ((hz.block _ (blk_lt hd3) nd).trans hd3) 6⟩
        clear hd2 hx2 hb2 hb32 c0 HT
        have HM2 := Lib.hid (HM.out _ hb3)
        go_wp2_with fail
        refine HM2.out.mono ?_
        rintro e w4 ⟨rfl, A4, -⟩
        go_wp2_with fail
        go_ret
        exact ⟨rfl, A4⟩
      · rw [show thruB d src = false by unfold thruB; rw [hh]; exact decide_eq_false hq]
        have hne : (⟨hp.toArray⟩ : ByteArray) ≠ src := fun e => hq (by rw [← e])
        generalize (⟨hp.toArray⟩ : ByteArray) = hx at *
        have hq2 : (hx.toList == src.toList) = false := by rw [beqS, decide_eq_false hne]
        clear hq hne
        clear hh
        generalize hmm : mintM R f d x = qm at *
        generalize hss : sendM R (kEsc src) f d x = qs at *
        generalize kEsc src = ke at *
        clear hmm hss vok vd1 vf1 vt1 hs hl hN
        generalize l.length = n at *
        go_enter Tryz.func46, Tryz.ntmps46
        go_wp2_with fail
        try rw [hW0]
        refine HP.out.mono ?_
        rintro e w1 ⟨rfl, hb1⟩
        have hb2 := hb1.alloc hb1.size (.cells #[.string d, .string f, .string t, .int .u64 (x.a : Int), .int .u64 (x.b : Int), .int .u64 (x.c : Int), .int .u64 (x.d : Int)] 81)
        have hd2 := heap_alloc_new w1 (.cells #[.string d, .string f, .string t, .int .u64 (x.a : Int), .int .u64 (x.b : Int), .int .u64 (x.c : Int), .int .u64 (x.d : Int)] 81)
        have hx2 := (hb2.block _ (blk_lt hbox)).trans hbox
        have c0 := blk_cell hx2 0
        clear D0 HP hb1
        go_wp2_with fail
        generalize w1.alloc (.cells #[.string d, .string f, .string t, .int .u64 (x.a : Int), .int .u64 (x.b : Int), .int .u64 (x.c : Int), .int .u64 (x.d : Int)] 81) = w2 at *
        generalize w1.heap.size = gd at *
        generalize W'.heap.size = gp at *
        refine (HT.out _).mono ?_
        rintro e w3 ⟨rfl, hb32⟩
        have hb3 := below_chain hb2 hb2.size hb32
        have hd3 := (hb32.block _ (blk_lt hd2)).trans hd2
        have hx3 := (hb32.block _ (blk_lt hx2)).trans hx2
        have e0 := blk_cell hd3 0
        have e1 := blk_cell hd3 1
        have e3 := blk_cell hd3 3
        have e4 := blk_cell hd3 4
        have e5 := blk_cell hd3 5
        have e6 := blk_cell hd3 6
        have p0 := blk_cell hx3 0
        have D3 := HD.out _ hb3
        have np : ¬ gp = b := DocS.ne_cell D3.s (blk_cell hx3 0) (by simp) (by simp)
        have nd : ¬ gd = b := DocS.ne_cell D3.s (blk_cell hd3 0) (by simp) (by simp)
        clear D3
        have HC : Hid (∀ Z, Chg w3 Z (fun k => k = b) → Z.cell? ⟨gp, 0, none⟩ = some (.string src) ∧ Z.cell? ⟨gd, 0, none⟩ = some (.string d) ∧ Z.cell? ⟨gd, 1, none⟩ = some (.string f) ∧ Z.cell? ⟨gd, 3, none⟩ = some (.int .u64 (x.a : Int)) ∧ Z.cell? ⟨gd, 4, none⟩ = some (.int .u64 (x.b : Int)) ∧ Z.cell? ⟨gd, 5, none⟩ = some (.int .u64 (x.c : Int)) ∧ Z.cell? ⟨gd, 6, none⟩ = some (.int .u64 (x.d : Int))) :=
          Lib.hid fun Z hz => ⟨blk_cell ((hz.block _ (blk_lt hx3) np).trans hx3) 0, blk_cell ((hz.block _ (blk_lt hd3) nd).trans hd3) 0, blk_cell ((hz.block _ (blk_lt hd3) nd).trans hd3) 1, blk_cell ((hz.block _ (blk_lt hd3) nd).trans hd3) 3, blk_cell ((hz.block _ (blk_lt hd3) nd).trans hd3) 4, blk_cell ((hz.block _ (blk_lt hd3) nd).trans hd3) 5, blk_cell ((hz.block _ (blk_lt hd3) nd).trans hd3) 6⟩
        clear hd2 hx2 hb2 hb32 c0 HT
        have HS2 := Lib.hid (HS.out _ (Below.drew hb3))
        have hkD : Chg w3 w3.drew (fun k => k = b) := .of_below (Below.drew (Below.refl _ _)) _
        go_wp2_with fail
        go_region_held_law (fun Z => Z.cell? ⟨gp, 0, none⟩ = some (.string src) ∧ Z.cell? ⟨gd, 0, none⟩ = some (.string d) ∧ Z.cell? ⟨gd, 1, none⟩ = some (.string f) ∧ Z.cell? ⟨gd, 3, none⟩ = some (.int .u64 (x.a : Int)) ∧ Z.cell? ⟨gd, 4, none⟩ = some (.int .u64 (x.b : Int)) ∧ Z.cell? ⟨gd, 5, none⟩ = some (.int .u64 (x.c : Int)) ∧ Z.cell? ⟨gd, 6, none⟩ = some (.int .u64 (x.d : Int)))
          (with_reducible first | exact HC.out _ hkF | exact HC.out _ hkD)
          ((first
            | (go_at_call 48; refine (HE.out _).mono ?_; rintro e w9 ⟨rfl, rfl⟩)
            | (go_at_call 117; refine HS2.out.mono ?_; rintro e wS ⟨rfl, AS, hkS⟩; have hkF := hkD.trans' hkS)))
        all_goals
          go_wp2_with fail
          go_ret
          exact ⟨rfl, AS⟩
end Go.Proofs.YtlkkjnacolmmpaaGreatDoor
namespace Go.Proofs.YtlkkjnacolmmpaaGreatDoor
set_option maxRecDepth 100000
open Go Go.RowKit
set_option linter.unusedVariables false

section
variable {B : Nat} {y : Lyr} {b k : Nat} {Rp Rd : List Pr} {W W' : World}
theorem Two.refund (h : Two B y b Rp Rd k W) (hn : y.n + k + 2 ≤ 100000000) (src dst : ByteArray) (seq ht tm : Nat) (vd : Value) (l : List UInt8) (hr : _root_.Go.Proofs.YtlkkjnacolmmpaaGreatDoor.Rd W W.heap.size vd l) (hl : l.length ≤ 140737488355320) (hs : src.size ≤ 10000000) :
    Calls Tryz.prog 45 #[.pointer (some ⟨y.b, 0, none⟩), .agg #[.string src, .string dst, .int .u64 (seq : Int), vd, .int .u64 (ht : Int), .int .u64 (tm : Int)]] W fun e w' => e = .returned (.int .i64 (refundM Rp src l).1) ∧ Two B y b (refundM Rp src l).2 Rd (k + 2) w' ∧ Chg W w' (FT y b) := by
  obtain ⟨n, f, h1, h2, h3⟩ := h.p
  have A : Acc W ⟨y.b, y.m, n, f⟩ Rp 0 W := ⟨BankS.refl h1 h2, h1⟩
  refine (trefund_any A (show n + 0 + 2 ≤ maxLen by unfold maxLen; omega) src dst seq ht tm vd l hr hl hs).mono ?_
  rintro e w' ⟨he, hq, -⟩
  exact ⟨he, h.bankS h3 h1 hq.b⟩
theorem Two.rrefund (h : Two B y b Rp Rd k W) (hn : y.n + k + 2 ≤ 100000000) (src dst : ByteArray) (seq ht tm : Nat) (vd : Value) (l : List UInt8) (hr : _root_.Go.Proofs.YtlkkjnacolmmpaaGreatDoor.Rd W W.heap.size vd l) (hl : l.length ≤ 140737488355320) (hs : src.size ≤ 10000000) :
    Calls Tryz.prog 46 #[.pointer (some ⟨b, 0, none⟩), .agg #[.string src, .string dst, .int .u64 (seq : Int), vd, .int .u64 (ht : Int), .int .u64 (tm : Int)]] W fun e w' => e = .returned (.int .i64 (refundM Rd src l).1) ∧ Two B y b Rp (refundM Rd src l).2 (k + 2) w' ∧ Chg W w' (FT y b) := by
  refine (rtrefund_any h.doc hn src dst seq ht tm vd l hr hl hs).mono ?_
  rintro e w' ⟨he, hq⟩
  exact ⟨he, h.docS hq⟩
end
end Go.Proofs.YtlkkjnacolmmpaaGreatDoor
namespace Go.Proofs.YtlkkjnacolmmpaaGreatDoor
set_option maxRecDepth 100000
open Go Go.RowKit
set_option linter.unusedVariables false

set_option maxHeartbeats 16000000 in
theorem trefunds_law (w : World) (v0 : Value) (ps : List Pr) (hps : RdP w w.heap.size v0 ps) (hnl : ∀ p ∈ ps, p.1.size ≤ maxLen) (hvl : ∀ p ∈ ps, p.2.length ≤ 2000000) (hpl : ps.length ≤ 2000000)
    (src dst : ByteArray) (seq ht tm : Nat) (vd : Value) (l : List UInt8) (hr : Rd w w.heap.size vd l) (hl : l.length ≤ 10000000) (hs : src.size ≤ 10000000) :
    Calls Tryz.prog 7 #[v0, .agg #[.string src, .string dst, .int .u64 (seq : Int), vd, .int .u64 (ht : Int), .int .u64 (tm : Int)]] w fun e w' => e = .returned (.bool true) ∧ Below w.heap.size w w' := by
  have HNA := Lib.hid (fun (W : World) (hb : Below w.heap.size w W) => new_any W v0 ps (hps.kept (Kept.of_below hb)) hnl)
  have HN1 := Lib.hid (fun (W : World) (hb : Below w.heap.size w W) => rnew_doc W v0 ps (hps.kept (Kept.of_below hb)) hnl hvl hpl)
  have HV := Lib.hid (And.intro hnl (And.intro hvl hpl))
  have HRD := Lib.hid hr
  obtain ⟨A0, c0, rfl⟩ : ∃ A c, v0 = .slice A ps.length c := RdP.form hps
  obtain ⟨Ad, cd, rfl⟩ := hr.form
  have hbox := heap_alloc_new w (.cells #[.string src, .string dst, .int .u64 (seq : Int), .slice Ad l.length cd, .int .u64 (ht : Int), .int .u64 (tm : Int)] 91)
  have ha0 : Below w.heap.size w (w.alloc (.cells #[.string src, .string dst, .int .u64 (seq : Int), .slice Ad l.length cd, .int .u64 (ht : Int), .int .u64 (tm : Int)] 91)) := (Below.refl _ _).alloc (Nat.le_refl _) _
  have HN0 := Lib.hid (HNA.out _ ha0)
  generalize hW0 : w.alloc (.cells #[.string src, .string dst, .int .u64 (seq : Int), .slice Ad l.length cd, .int .u64 (ht : Int), .int .u64 (tm : Int)] 91) = w0 at *
  have HLL := Lib.hid (And.intro hl hs)
  clear HNA hps hnl hvl hpl hr hl hs
  go_enter Tryz.func7, Tryz.ntmps7
  go_wp2_with fail
  try rw [hW0]
  clear hW0
  refine HN0.out.mono ?_
  rintro e w1 ⟨⟨hor, rfl⟩ | ⟨hor, y, rfl, hyb, hym, hyn, hly, hri, hp1⟩, hb1⟩
  · have HO := Lib.hid hor
    have hq1 := below_chain ha0 ha0.size hb1
    clear hor
    go_wp2_with fail
    refine (HN1.out _ hq1).mono ?_
    rintro e w2 ⟨⟨-, rfl⟩ | ⟨h2, -⟩, hb2⟩
    rotate_left
    · rw [HO.out] at h2; cases h2
    have hq2 := below_chain hq1 hq1.size hb2
    go_wp2_with fail
    refine (tfixed_any _).mono ?_
    rintro e w3 ⟨rfl, hb3⟩
    have hq3 := below_chain hq2 hq2.size hb3
    go_wp2_with fail
    go_ret
    exact ⟨rfl, hq3⟩
  have HO := Lib.hid hor
  obtain ⟨yb, ym, yn, yf⟩ := y
  dsimp only at hyb hym hyn ⊢
  have HY := Lib.hid (And.intro hp1 (And.intro hly hri))
  have HYN := Lib.hid (show yn = ps.length from hyn)
  have hq1 := below_chain ha0 ha0.size hb1
  have hx1 := (hb1.block _ (blk_lt hbox)).trans hbox
  clear hyb hly hri hp1 HN0 hyn hor
  go_wp2_with fail
  refine (HN1.out _ hq1).mono ?_
  rintro e w2 ⟨⟨h2, -⟩ | ⟨-, b, rfl, hbb, hds⟩, hb2⟩
  · rw [HO.out] at h2; cases h2
  have hq2 := below_chain hq1 hq1.size hb2
  have hym' : w.heap.size ≤ ym := Nat.le_trans ha0.size hym
  have T2 : Two w.heap.size ⟨yb, ym, yn, yf⟩ b ps ps 0 w2 := ⟨⟨yn, yf, HY.out.1.up hb2, seen_bot0 HY.out.2.1 HY.out.2.2 HV.out.1, Nat.le_refl _⟩, hds, Nat.le_of_eq HYN.out.symm, HV.out.2.1, hym', Nat.le_trans hq1.size hbb, hq2.size⟩
  have hx2 := (hb2.block _ (blk_lt hx1)).trans hx1
  clear hb1 hb2 hbb hds HY hym hym' HN1 hq1 hx1 hbox ha0
  go_wp2_with fail
  refine (tfixed_any _).mono ?_
  rintro e w3 ⟨rfl, hb3⟩
  have T3 := T2.up hb3
  have hq3 := below_chain hq2 hq2.size hb3
  have hx3 := (hb3.block _ (blk_lt hx2)).trans hx2
  have hny : ¬ FT ⟨yb, ym, yn, yf⟩ b w.heap.size := fun e => by
    rcases e with e | e
    · obtain ⟨n, f, h1, -, -⟩ := T3.p
      obtain ⟨es, c, e2⟩ := h1.1.maps _ rfl
      rw [show ym = w.heap.size from e.symm] at e2
      rw [hx3] at e2
      cases e2
    · exact DocS.ne_cell T3.d (blk_cell hx3 0) (by simp) (by simp) e
  have HR1 := Lib.hid (T3.refund (show yn + 0 + 2 ≤ 100000000 by have := HYN.out; have := HV.out.2.2; omega) src dst seq ht tm _ l ((Kept.of_below hq3).rd HRD.out) (by have := HLL.out.1; omega) HLL.out.2)
  have x0 := blk_cell hx3 0
  have x1 := blk_cell hx3 1
  have x2 := blk_cell hx3 2
  have x3 := blk_cell hx3 3
  have x4 := blk_cell hx3 4
  have x5 := blk_cell hx3 5
  clear T2 hq2 hb3 hx2
  have HT3 := Lib.hid T3
  clear T3
  go_wp2_with fail
  refine HR1.out.mono ?_
  rintro e w4 ⟨rfl, T4, hc4⟩
  have hq4 := hq3.trans (HT3.out.below hc4)
  have hx4 := (hc4.block _ (blk_lt hx3) hny).trans hx3
  have HR2 := Lib.hid (T4.rrefund (show yn + (0 + 2) + 2 ≤ 100000000 by have := HYN.out; have := HV.out.2.2; omega) src dst seq ht tm _ l ((Kept.of_below hq4).rd HRD.out) (by have := HLL.out.1; omega) HLL.out.2)
  have HT4 := Lib.hid T4
  clear T4 x0 x1 x2 x3 x4 x5 HR1 hc4
  generalize refundM ps src l = q at *
  obtain ⟨qe, qR⟩ := q
  dsimp only at HR2 HT4 ⊢
  have x0 := blk_cell hx4 0
  have x1 := blk_cell hx4 1
  have x2 := blk_cell hx4 2
  have x3 := blk_cell hx4 3
  have x4 := blk_cell hx4 4
  have x5 := blk_cell hx4 5
  go_wp2_with fail
  refine HR2.out.mono ?_
  rintro e w5 ⟨rfl, T5, hc5⟩
  have hb := hq4.trans (HT4.out.below hc5)
  clear x0 x1 x2 x3 x4 x5 HR2 hc5 hx4 hx3 hny
  obtain ⟨m, f, hm, hri, hA⟩ := T5.acc
  have hm' : m ≤ 100000000 := by have : m ≤ yn + (0 + 2 + 2) := hm; have := HYN.out; have := HV.out.2.2; omega
  have hsm : ∀ p ∈ qR, p.1.size ≤ maxLen := by obtain ⟨_, _, _, h2, _⟩ := T5.p; exact h2.small
  have HPA := Lib.hid (hA.pairs (show m + 0 ≤ 1000000000 by omega) ⟨#[]⟩ (by decide +kernel))
  have HPB := Lib.hid (fun (Z : World) (hz : Below w5.heap.size w5 Z) => rpairs_any ((T5.docR (show yn + (0 + 2 + 2) ≤ 100000000 by have := HYN.out; have := HV.out.2.2; omega)).up hz) ⟨#[]⟩ (by decide +kernel) hsm)
  rw [filter_all] at HPA HPB
  obtain ⟨rl, hrl⟩ : ∃ rl, rl = qR.length := ⟨_, rfl⟩
  have HRL := Lib.hid hrl
  clear T5 hm hri hA hsm hrl HT4 HT3
  go_wp2_with fail
  refine HPA.out.mono ?_
  rintro e w6 ⟨v4, rfl, ho4, hb4⟩
  have hr4 := ho4.rdP
  obtain ⟨A4, c4, hv4⟩ : ∃ A c, v4 = .slice A rl c := by rw [HRL.out]; exact ho4.form
  subst hv4
  have HV4 := Lib.hid hr4
  clear ho4 hr4
  go_wp2_with fail
  refine (HPB.out _ hb4).mono ?_
  rintro e w7 ⟨v5, rfl, hr5, hb5⟩
  have HSA := Lib.hid (samePs_any w7 (.slice A4 rl c4) v5 qR qR (HV4.out.kept (Kept.of_below hb5)) hr5)
  obtain ⟨A5, c5, hv5⟩ : ∃ A c, v5 = .slice A rl c := by rw [HRL.out]; exact RdP.form hr5
  subst hv5
  clear hr5
  go_wp2_with fail
  refine HSA.out.mono ?_
  rintro e w8 ⟨rfl, hb6⟩
  have hbb := below_chain (below_chain hb4 hb4.size hb5) (Nat.le_trans hb4.size hb5.size) hb6
  have hq := below_chain hb hb.size hbb
  simp only [decide_true]
  go_wp2_with fail
  go_ret
  exact ⟨rfl, hq⟩
end Go.Proofs.YtlkkjnacolmmpaaGreatDoor
namespace Go.Proofs.YtlkkjnacolmmpaaGreatDoor
set_option maxRecDepth 100000
open Go Go.RowKit
set_option linter.unusedVariables false

theorem rtlimkey_any (a d : ByteArray) (w : World) (ha : a.size ≤ 100000000) (hd : d.size ≤ 100000000) : Calls Tryz.prog 118 #[.string a, .string d] w fun e w' => e = .returned (.string (kLim a d)) ∧ w = w' := by
  have s1 : limP.size = 6 := rfl
  have s2 : slB.size = 1 := rfl
  have h1 := fun W => txt_add limP a (by rw [s1]; omega) W
  have h2 := fun W => txt_add (limP ++ a) slB (by rw [ByteArray.size_append, s1, s2]; omega) W
  have h3 := fun W => txt_add ((limP ++ a) ++ slB) d (by rw [ByteArray.size_append, ByteArray.size_append, s1, s2]; omega) W
  unfold kLim
  generalize (limP ++ a) ++ slB = x2 at *
  generalize hx1 : limP ++ a = x1 at *
  clear hx1
  unfold limP slB at *
  go_enter Tryz.func118, Tryz.ntmps118
  go_wp2
  go_ret
  exact ⟨rfl, rfl⟩
set_option maxHeartbeats 8000000 in
theorem rtgetlim_any {w : World} {b : Nat} {R : List Pr} (h : DocR w b R) (a d : ByteArray) (ha : a.size ≤ 100000000) (hd : d.size ≤ 100000000) :
    Calls Tryz.prog 49 #[.pointer (some ⟨b, 0, none⟩), .string a, .string d] w fun e w' => e = .returned (limV (getLim R a d)) ∧ Below w.heap.size w w' := by
  have HG := Lib.hid (fun (Z : World) (hz : Below w.heap.size w Z) => rget_any (h.up hz).s h.n h.v (kLim a d))
  have HFT : Hid (∀ v, getL R (kLim a d) = some v → v.length ≤ 2000000) := Lib.hid (fun v e => h.v _ (getL_mem e))
  obtain ⟨B, hB⟩ : ∃ B : Addr, B = ⟨b, 0, none⟩ := ⟨_, rfl⟩
  rw [← hB] at HG ⊢
  clear hB h
  have HK := Lib.hid (fun W => (rtlimkey_any a d W ha hd).mono fun e w' ⟨h1, h2⟩ => (⟨h1, h2.symm⟩ : _ ∧ w' = W))
  obtain ⟨V, hV⟩ : ∃ V, V = limV (getLim R a d) := ⟨_, rfl⟩
  rw [← hV]
  unfold getLim at hV
  generalize getL R (kLim a d) = o at *
  generalize kLim a d = key at *
  have hk0 := heap_alloc_new w (.cells #[.int .u64 0, .int .u64 0, .int .u64 0, .int .u64 0, .int .u64 0, .int .u64 0, .int .u64 0, .int .u64 0, .int .u64 0, .int .u64 0] 95)
  have ha0 : Below w.heap.size w (w.alloc (.cells #[.int .u64 0, .int .u64 0, .int .u64 0, .int .u64 0, .int .u64 0, .int .u64 0, .int .u64 0, .int .u64 0, .int .u64 0, .int .u64 0] 95)) := (Below.refl _ _).alloc (Nat.le_refl _) _
  go_enter Tryz.func49, Tryz.ntmps49
  go_wp2_with fail
  generalize w.alloc (.cells #[.int .u64 0, .int .u64 0, .int .u64 0, .int .u64 0, .int .u64 0, .int .u64 0, .int .u64 0, .int .u64 0, .int .u64 0, .int .u64 0] 95) = w0 at *
  refine (HK.out _).mono ?_
  rintro e w9 ⟨rfl, rfl⟩
  go_wp2_with fail
  refine (HG.out _ ha0).mono ?_
  rintro e w1 ⟨v, rfl, hov, hb1⟩
  have hq1 := below_chain ha0 ha0.size hb1
  have hk1 := (hb1.block _ (blk_lt hk0)).trans hk0
  have hl0 := blk_lt hk0
  obtain ⟨gr, hgr⟩ : ∃ gr, gr = w.heap.size := ⟨_, rfl⟩
  rw [← hgr] at hk1
  clear HG HK hk0 hb1
  cases o with
  | none =>
    have hv : V = .tuple #[LimV.none.val, .bool false] := hV
    obtain ⟨A, c, rfl⟩ := hov.form
    have r0 := blk_cell hk1 0
    have q0 := blk_free hk1 0
    have r1 := blk_cell hk1 1
    have q1 := blk_free hk1 1
    have r2 := blk_cell hk1 2
    have q2 := blk_free hk1 2
    have r3 := blk_cell hk1 3
    have q3 := blk_free hk1 3
    have r4 := blk_cell hk1 4
    have q4 := blk_free hk1 4
    have r5 := blk_cell hk1 5
    have q5 := blk_free hk1 5
    have r6 := blk_cell hk1 6
    have q6 := blk_free hk1 6
    have r7 := blk_cell hk1 7
    have q7 := blk_free hk1 7
    have r8 := blk_cell hk1 8
    have q8 := blk_free hk1 8
    have r9 := blk_cell hk1 9
    have q9 := blk_free hk1 9
    clear hov HFT hV
    subst hgr
    have hk7 := set10P hk1 (.int .u64 0) (.int .u64 0) (.int .u64 0) (.int .u64 0) (.int .u64 0) (.int .u64 0) (.int .u64 0) (.int .u64 0) (.int .u64 0) (.int .u64 0)
    have hb7 := below_set10P hq1 (Nat.le_refl _) (.int .u64 0) (.int .u64 0) (.int .u64 0) (.int .u64 0) (.int .u64 0) (.int .u64 0) (.int .u64 0) (.int .u64 0) (.int .u64 0) (.int .u64 0)
    have HD := Lib.hid (And.intro (blk_cell hk7 0) (And.intro (blk_cell hk7 1) (And.intro (blk_cell hk7 2) (And.intro (blk_cell hk7 3) (And.intro (blk_cell hk7 4) (And.intro (blk_cell hk7 5) (And.intro (blk_cell hk7 6) (And.intro (blk_cell hk7 7) (And.intro (blk_cell hk7 8) (blk_cell hk7 9))))))))))
    have HVV := Lib.hid hv
    clear hk7 hv
    go_wp2_with fail
    obtain ⟨d0, d1, d2, d3, d4, d5, d6, d7, d8, d9⟩ := HD.out
    refine bodyPost_ret (v := V) ?_ rfl ⟨rfl, hb7⟩
    rw [HVV.out]
    simp at d0 d1 d2 d3 d4 d5 d6 d7 d8 d9
    simp [results, Tryz.results49, go_sem, d0, d1, d2, d3, d4, d5, d6, d7, d8, d9, LimV.val, LimV.none, U4.zero]
  | some l =>
    have hll := HFT.out l rfl
    have HV := Lib.hid (show V = limV (readLim l) from hV)
    unfold limV readLim at HV
    have HO := Lib.hid (open_dd v l w1 hov.rd (by omega))
    obtain ⟨A, c, rfl⟩ := hov.form
    clear hov HFT hV
    go_wp2_with fail
    refine HO.out.mono ?_
    rintro e w2 ⟨g, rfl, hr2, hb2⟩
    have hq2 := below_chain hq1 hq1.size hb2
    have hk2 := (hb2.block _ (blk_lt hk1)).trans hk1
    have hgl := hr2.lt
    have hlo := blk_lt hk1
    generalize w1.heap.size = lo at *
    clear HO hb2 hk1 hq1
    have hgi := hr2.from_
    obtain ⟨gd, hgd⟩ : ∃ gd, gd = w2.heap.size := ⟨_, rfl⟩
    have P1 : PZ 181 w gr gd lo g 95 95 #[.int .u64 0, .int .u64 0, .int .u64 0, .int .u64 0, .int .u64 0, .int .u64 0, .int .u64 0, .int .u64 0, .int .u64 0, .int .u64 0] #[.int .u64 0, .int .u64 0, .int .u64 0, .int .u64 0, .int .u64 0, .int .u64 0, .int .u64 0, .int .u64 0, .int .u64 0, .int .u64 0] l 0 (w2.alloc (.cells #[.int .u64 0, .int .u64 0, .int .u64 0, .int .u64 0, .int .u64 0, .int .u64 0, .int .u64 0, .int .u64 0, .int .u64 0, .int .u64 0] 95)) :=
      ⟨hq2.alloc hq2.size _, by omega, by have := hq2.size; omega, (Below.heap_alloc w2 _ _ (blk_lt hk2)).trans hk2, by rw [hgd]; exact heap_alloc_new w2 _, hr2.below ((Below.refl _ _).alloc (Nat.le_refl _) _), by omega, by omega⟩
    clear hq2 hk2 hr2 hgl hlo hgi
    go_wp2_with fail
    rw [← hgd]
    generalize w2.alloc (.cells #[.int .u64 0, .int .u64 0, .int .u64 0, .int .u64 0, .int .u64 0, .int .u64 0, .int .u64 0, .int .u64 0, .int .u64 0, .int .u64 0] 95) = wz at *
    clear hgd
    refine (dB_any P1.rd).mono ?_
    rintro e wa1 ⟨vq_, rfl, hoq_, hr, hg⟩
    replace P1 := P1.call hg hr
    clear hr hg
    have b_q_ := rB_le l 0
    generalize rB l 0 = Q at *
    obtain ⟨q_, l_q_, f_q_⟩ := Q
    dsimp only at P1 HV b_q_ hoq_ ⊢
    have HF := Lib.hid (rfrom_any vq_ q_ _ hoq_.rd)
    obtain ⟨A_q, c_q, rfl⟩ := hoq_.form
    go_wp2_with fail
    refine HF.out.mono ?_
    rintro e wuq ⟨rfl, hb5⟩
    replace P1 := P1.up hb5
    clear hb5 HF hoq_
    have kq := fromU_ok q_
    generalize fromU q_ = Q at *
    obtain ⟨q, eq⟩ := Q
    dsimp only at P1 HV kq ⊢
    unfold U4.val U4.cells
    have P2 := P1.alloc (.cells #[.int .u64 (q.a : Int), .int .u64 (q.b : Int), .int .u64 (q.c : Int), .int .u64 (q.d : Int)] 74)
    have hq := heap_alloc_new wuq (.cells #[.int .u64 (q.a : Int), .int .u64 (q.b : Int), .int .u64 (q.c : Int), .int .u64 (q.d : Int)] 74)
    clear P1
    have u0 := blk_cell hq 0
    have u1 := blk_cell hq 1
    have u2 := blk_cell hq 2
    have u3 := blk_cell hq 3
    have z0 := blk_cell P2.loc 0
    have f0 := blk_free P2.loc 0
    have z1 := blk_cell P2.loc 1
    have f1 := blk_free P2.loc 1
    have z2 := blk_cell P2.loc 2
    have f2 := blk_free P2.loc 2
    have z3 := blk_cell P2.loc 3
    have f3 := blk_free P2.loc 3
    have P3 : PZ 181 w gr gd lo g _ 95 _ #[.int .u64 (q.a : Int), .int .u64 (q.b : Int), .int .u64 (q.c : Int), .int .u64 (q.d : Int), .int .u64 0, .int .u64 0, .int .u64 0, .int .u64 0, .int .u64 0, .int .u64 0] l_q_ f_q_ (((((wuq.alloc (.cells #[.int .u64 (q.a : Int), .int .u64 (q.b : Int), .int .u64 (q.c : Int), .int .u64 (q.d : Int)] 74)).setCell ⟨gd, 0, none⟩ (.int .u64 (q.a : Int))).setCell ⟨gd, 1, none⟩ (.int .u64 (q.b : Int))).setCell ⟨gd, 2, none⟩ (.int .u64 (q.c : Int))).setCell ⟨gd, 3, none⟩ (.int .u64 (q.d : Int))) := ((((P2.set 0 (.int .u64 (q.a : Int))).set 1 (.int .u64 (q.b : Int))).set 2 (.int .u64 (q.c : Int))).set 3 (.int .u64 (q.d : Int)))
    clear P2
    go_wp2_with fail
    generalize ((((wuq.alloc (.cells #[.int .u64 (q.a : Int), .int .u64 (q.b : Int), .int .u64 (q.c : Int), .int .u64 (q.d : Int)] 74)).setCell ⟨gd, 0, none⟩ (.int .u64 (q.a : Int))).setCell ⟨gd, 1, none⟩ (.int .u64 (q.b : Int))).setCell ⟨gd, 2, none⟩ (.int .u64 (q.c : Int))).setCell ⟨gd, 3, none⟩ (.int .u64 (q.d : Int)) = wb2 at *
    refine (dN_any P3.rd).mono ?_
    rintro e wa3 ⟨rfl, hr, hg⟩
    replace P3 := P3.call hg hr
    clear hr hg
    have b_wn := rN_lt l_q_ f_q_
    generalize rN l_q_ f_q_ = Q at *
    obtain ⟨wn, l_wn, f_wn⟩ := Q
    dsimp only at P3 HV b_wn ⊢
    have z0 := blk_cell P3.loc 4
    have f0 := blk_free P3.loc 4
    have P4 : PZ 181 w gr gd lo g _ 95 _ #[.int .u64 (q.a : Int), .int .u64 (q.b : Int), .int .u64 (q.c : Int), .int .u64 (q.d : Int), .int .u64 (wn : Int), .int .u64 0, .int .u64 0, .int .u64 0, .int .u64 0, .int .u64 0] l_wn f_wn ((wa3).setCell ⟨gd, 4, none⟩ (.int .u64 (wn : Int))) := (P3.set 4 (.int .u64 (wn : Int)))
    clear P3
    go_wp2_with fail
    generalize (wa3).setCell ⟨gd, 4, none⟩ (.int .u64 (wn : Int)) = wb3 at *
    refine (dN_any P4.rd).mono ?_
    rintro e wa4 ⟨rfl, hr, hg⟩
    replace P4 := P4.call hg hr
    clear hr hg
    have b_sn := rN_lt l_wn f_wn
    generalize rN l_wn f_wn = Q at *
    obtain ⟨sn, l_sn, f_sn⟩ := Q
    dsimp only at P4 HV b_sn ⊢
    have z0 := blk_cell P4.loc 5
    have f0 := blk_free P4.loc 5
    have P5 : PZ 181 w gr gd lo g _ 95 _ #[.int .u64 (q.a : Int), .int .u64 (q.b : Int), .int .u64 (q.c : Int), .int .u64 (q.d : Int), .int .u64 (wn : Int), .int .u64 (sn : Int), .int .u64 0, .int .u64 0, .int .u64 0, .int .u64 0] l_sn f_sn ((wa4).setCell ⟨gd, 5, none⟩ (.int .u64 (sn : Int))) := (P4.set 5 (.int .u64 (sn : Int)))
    clear P4
    go_wp2_with fail
    generalize (wa4).setCell ⟨gd, 5, none⟩ (.int .u64 (sn : Int)) = wb4 at *
    refine (dB_any P5.rd).mono ?_
    rintro e wa5 ⟨vu_, rfl, hou_, hr, hg⟩
    replace P5 := P5.call hg hr
    clear hr hg
    have b_u_ := rB_le l_sn f_sn
    generalize rB l_sn f_sn = Q at *
    obtain ⟨u_, l_u_, f_u_⟩ := Q
    dsimp only at P5 HV b_u_ hou_ ⊢
    have HF := Lib.hid (rfrom_any vu_ u_ _ hou_.rd)
    obtain ⟨A_u, c_u, rfl⟩ := hou_.form
    go_wp2_with fail
    refine HF.out.mono ?_
    rintro e wuu ⟨rfl, hb5⟩
    replace P5 := P5.up hb5
    clear hb5 HF hou_
    have ku := fromU_ok u_
    generalize fromU u_ = Q at *
    obtain ⟨u, eu⟩ := Q
    dsimp only at P5 HV ku ⊢
    unfold U4.val U4.cells
    have P6 := P5.alloc (.cells #[.int .u64 (u.a : Int), .int .u64 (u.b : Int), .int .u64 (u.c : Int), .int .u64 (u.d : Int)] 74)
    have hu := heap_alloc_new wuu (.cells #[.int .u64 (u.a : Int), .int .u64 (u.b : Int), .int .u64 (u.c : Int), .int .u64 (u.d : Int)] 74)
    clear P5
    have u0 := blk_cell hu 0
    have u1 := blk_cell hu 1
    have u2 := blk_cell hu 2
    have u3 := blk_cell hu 3
    have z0 := blk_cell P6.loc 6
    have f0 := blk_free P6.loc 6
    have z1 := blk_cell P6.loc 7
    have f1 := blk_free P6.loc 7
    have z2 := blk_cell P6.loc 8
    have f2 := blk_free P6.loc 8
    have z3 := blk_cell P6.loc 9
    have f3 := blk_free P6.loc 9
    have P7 : PZ 181 w gr gd lo g _ 95 _ #[.int .u64 (q.a : Int), .int .u64 (q.b : Int), .int .u64 (q.c : Int), .int .u64 (q.d : Int), .int .u64 (wn : Int), .int .u64 (sn : Int), .int .u64 (u.a : Int), .int .u64 (u.b : Int), .int .u64 (u.c : Int), .int .u64 (u.d : Int)] l_u_ f_u_ (((((wuu.alloc (.cells #[.int .u64 (u.a : Int), .int .u64 (u.b : Int), .int .u64 (u.c : Int), .int .u64 (u.d : Int)] 74)).setCell ⟨gd, 6, none⟩ (.int .u64 (u.a : Int))).setCell ⟨gd, 7, none⟩ (.int .u64 (u.b : Int))).setCell ⟨gd, 8, none⟩ (.int .u64 (u.c : Int))).setCell ⟨gd, 9, none⟩ (.int .u64 (u.d : Int))) := ((((P6.set 6 (.int .u64 (u.a : Int))).set 7 (.int .u64 (u.b : Int))).set 8 (.int .u64 (u.c : Int))).set 9 (.int .u64 (u.d : Int)))
    clear P6
    go_wp2_with fail
    generalize ((((wuu.alloc (.cells #[.int .u64 (u.a : Int), .int .u64 (u.b : Int), .int .u64 (u.c : Int), .int .u64 (u.d : Int)] 74)).setCell ⟨gd, 6, none⟩ (.int .u64 (u.a : Int))).setCell ⟨gd, 7, none⟩ (.int .u64 (u.b : Int))).setCell ⟨gd, 8, none⟩ (.int .u64 (u.c : Int))).setCell ⟨gd, 9, none⟩ (.int .u64 (u.d : Int)) = wb6 at *
    refine (dEnd_any P7.rd).mono ?_
    rintro e w7 ⟨rfl, rfl⟩
    generalize rEnd l_u_ f_u_ = E at *
    subst hgr
    by_cases hE : E = 0
    · subst hE
      by_cases hq : eq = 0
      · subst hq
        by_cases hu0 : eu = 0
        · subst hu0
          have hv := HV.out
          rw [if_pos (by simp)] at hv
          dsimp only at hv
          clear HV
          have r0 := blk_cell P7.res 0
          have q0 := blk_free P7.res 0
          have r1 := blk_cell P7.res 1
          have q1 := blk_free P7.res 1
          have r2 := blk_cell P7.res 2
          have q2 := blk_free P7.res 2
          have r3 := blk_cell P7.res 3
          have q3 := blk_free P7.res 3
          have r4 := blk_cell P7.res 4
          have q4 := blk_free P7.res 4
          have r5 := blk_cell P7.res 5
          have q5 := blk_free P7.res 5
          have r6 := blk_cell P7.res 6
          have q6 := blk_free P7.res 6
          have r7 := blk_cell P7.res 7
          have q7 := blk_free P7.res 7
          have r8 := blk_cell P7.res 8
          have q8 := blk_free P7.res 8
          have r9 := blk_cell P7.res 9
          have q9 := blk_free P7.res 9
          have s0 := blk_cell P7.loc 0
          have s1 := blk_cell P7.loc 1
          have s2 := blk_cell P7.loc 2
          have s3 := blk_cell P7.loc 3
          have s4 := blk_cell P7.loc 4
          have s5 := blk_cell P7.loc 5
          have s6 := blk_cell P7.loc 6
          have s7 := blk_cell P7.loc 7
          have s8 := blk_cell P7.loc 8
          have s9 := blk_cell P7.loc 9
          have hk7 := set10P P7.res (.int .u64 (q.a : Int)) (.int .u64 (q.b : Int)) (.int .u64 (q.c : Int)) (.int .u64 (q.d : Int)) (.int .u64 (wn : Int)) (.int .u64 (sn : Int)) (.int .u64 (u.a : Int)) (.int .u64 (u.b : Int)) (.int .u64 (u.c : Int)) (.int .u64 (u.d : Int))
          have hb7 := below_set10P P7.below P7.hr (.int .u64 (q.a : Int)) (.int .u64 (q.b : Int)) (.int .u64 (q.c : Int)) (.int .u64 (q.d : Int)) (.int .u64 (wn : Int)) (.int .u64 (sn : Int)) (.int .u64 (u.a : Int)) (.int .u64 (u.b : Int)) (.int .u64 (u.c : Int)) (.int .u64 (u.d : Int))
          have HD := Lib.hid (And.intro (blk_cell hk7 0) (And.intro (blk_cell hk7 1) (And.intro (blk_cell hk7 2) (And.intro (blk_cell hk7 3) (And.intro (blk_cell hk7 4) (And.intro (blk_cell hk7 5) (And.intro (blk_cell hk7 6) (And.intro (blk_cell hk7 7) (And.intro (blk_cell hk7 8) (blk_cell hk7 9))))))))))
          have HVV := Lib.hid hv
          clear hk7 hv
          go_wp2_with fail
          obtain ⟨d0, d1, d2, d3, d4, d5, d6, d7, d8, d9⟩ := HD.out
          refine bodyPost_ret (v := V) ?_ rfl ⟨rfl, hb7⟩
          rw [HVV.out]
          simp at d0 d1 d2 d3 d4 d5 d6 d7 d8 d9
          simp [results, Tryz.results49, go_sem, d0, d1, d2, d3, d4, d5, d6, d7, d8, d9, LimV.val, LimV.none, U4.zero]
        · have hne : (eu != 0) = true := by simpa using hu0
          have hv := HV.out
          rw [if_neg (by simp [hu0])] at hv
          dsimp only at hv
          clear HV
          have r0 := blk_cell P7.res 0
          have q0 := blk_free P7.res 0
          have r1 := blk_cell P7.res 1
          have q1 := blk_free P7.res 1
          have r2 := blk_cell P7.res 2
          have q2 := blk_free P7.res 2
          have r3 := blk_cell P7.res 3
          have q3 := blk_free P7.res 3
          have r4 := blk_cell P7.res 4
          have q4 := blk_free P7.res 4
          have r5 := blk_cell P7.res 5
          have q5 := blk_free P7.res 5
          have r6 := blk_cell P7.res 6
          have q6 := blk_free P7.res 6
          have r7 := blk_cell P7.res 7
          have q7 := blk_free P7.res 7
          have r8 := blk_cell P7.res 8
          have q8 := blk_free P7.res 8
          have r9 := blk_cell P7.res 9
          have q9 := blk_free P7.res 9
          have hk7 := set10P P7.res (.int .u64 0) (.int .u64 0) (.int .u64 0) (.int .u64 0) (.int .u64 0) (.int .u64 0) (.int .u64 0) (.int .u64 0) (.int .u64 0) (.int .u64 0)
          have hb7 := below_set10P P7.below P7.hr (.int .u64 0) (.int .u64 0) (.int .u64 0) (.int .u64 0) (.int .u64 0) (.int .u64 0) (.int .u64 0) (.int .u64 0) (.int .u64 0) (.int .u64 0)
          have HD := Lib.hid (And.intro (blk_cell hk7 0) (And.intro (blk_cell hk7 1) (And.intro (blk_cell hk7 2) (And.intro (blk_cell hk7 3) (And.intro (blk_cell hk7 4) (And.intro (blk_cell hk7 5) (And.intro (blk_cell hk7 6) (And.intro (blk_cell hk7 7) (And.intro (blk_cell hk7 8) (blk_cell hk7 9))))))))))
          have HVV := Lib.hid hv
          clear hk7 hv
          go_wp2_with fail
          obtain ⟨d0, d1, d2, d3, d4, d5, d6, d7, d8, d9⟩ := HD.out
          refine bodyPost_ret (v := V) ?_ rfl ⟨rfl, hb7⟩
          rw [HVV.out]
          simp at d0 d1 d2 d3 d4 d5 d6 d7 d8 d9
          simp [results, Tryz.results49, go_sem, d0, d1, d2, d3, d4, d5, d6, d7, d8, d9, LimV.val, LimV.none, U4.zero]
      · have hne : (eq != 0) = true := by simpa using hq
        have hv := HV.out
        rw [if_neg (by simp [hq])] at hv
        dsimp only at hv
        clear HV
        have r0 := blk_cell P7.res 0
        have q0 := blk_free P7.res 0
        have r1 := blk_cell P7.res 1
        have q1 := blk_free P7.res 1
        have r2 := blk_cell P7.res 2
        have q2 := blk_free P7.res 2
        have r3 := blk_cell P7.res 3
        have q3 := blk_free P7.res 3
        have r4 := blk_cell P7.res 4
        have q4 := blk_free P7.res 4
        have r5 := blk_cell P7.res 5
        have q5 := blk_free P7.res 5
        have r6 := blk_cell P7.res 6
        have q6 := blk_free P7.res 6
        have r7 := blk_cell P7.res 7
        have q7 := blk_free P7.res 7
        have r8 := blk_cell P7.res 8
        have q8 := blk_free P7.res 8
        have r9 := blk_cell P7.res 9
        have q9 := blk_free P7.res 9
        have hk7 := set10P P7.res (.int .u64 0) (.int .u64 0) (.int .u64 0) (.int .u64 0) (.int .u64 0) (.int .u64 0) (.int .u64 0) (.int .u64 0) (.int .u64 0) (.int .u64 0)
        have hb7 := below_set10P P7.below P7.hr (.int .u64 0) (.int .u64 0) (.int .u64 0) (.int .u64 0) (.int .u64 0) (.int .u64 0) (.int .u64 0) (.int .u64 0) (.int .u64 0) (.int .u64 0)
        have HD := Lib.hid (And.intro (blk_cell hk7 0) (And.intro (blk_cell hk7 1) (And.intro (blk_cell hk7 2) (And.intro (blk_cell hk7 3) (And.intro (blk_cell hk7 4) (And.intro (blk_cell hk7 5) (And.intro (blk_cell hk7 6) (And.intro (blk_cell hk7 7) (And.intro (blk_cell hk7 8) (blk_cell hk7 9))))))))))
        have HVV := Lib.hid hv
        clear hk7 hv
        go_wp2_with fail
        obtain ⟨d0, d1, d2, d3, d4, d5, d6, d7, d8, d9⟩ := HD.out
        refine bodyPost_ret (v := V) ?_ rfl ⟨rfl, hb7⟩
        rw [HVV.out]
        simp at d0 d1 d2 d3 d4 d5 d6 d7 d8 d9
        simp [results, Tryz.results49, go_sem, d0, d1, d2, d3, d4, d5, d6, d7, d8, d9, LimV.val, LimV.none, U4.zero]
    · have hne : (E != 0) = true := by simpa using hE
      have hv := HV.out
      rw [if_neg (by simp [hE])] at hv
      dsimp only at hv
      clear HV
      have r0 := blk_cell P7.res 0
      have q0 := blk_free P7.res 0
      have r1 := blk_cell P7.res 1
      have q1 := blk_free P7.res 1
      have r2 := blk_cell P7.res 2
      have q2 := blk_free P7.res 2
      have r3 := blk_cell P7.res 3
      have q3 := blk_free P7.res 3
      have r4 := blk_cell P7.res 4
      have q4 := blk_free P7.res 4
      have r5 := blk_cell P7.res 5
      have q5 := blk_free P7.res 5
      have r6 := blk_cell P7.res 6
      have q6 := blk_free P7.res 6
      have r7 := blk_cell P7.res 7
      have q7 := blk_free P7.res 7
      have r8 := blk_cell P7.res 8
      have q8 := blk_free P7.res 8
      have r9 := blk_cell P7.res 9
      have q9 := blk_free P7.res 9
      have hk7 := set10P P7.res (.int .u64 0) (.int .u64 0) (.int .u64 0) (.int .u64 0) (.int .u64 0) (.int .u64 0) (.int .u64 0) (.int .u64 0) (.int .u64 0) (.int .u64 0)
      have hb7 := below_set10P P7.below P7.hr (.int .u64 0) (.int .u64 0) (.int .u64 0) (.int .u64 0) (.int .u64 0) (.int .u64 0) (.int .u64 0) (.int .u64 0) (.int .u64 0) (.int .u64 0)
      have HD := Lib.hid (And.intro (blk_cell hk7 0) (And.intro (blk_cell hk7 1) (And.intro (blk_cell hk7 2) (And.intro (blk_cell hk7 3) (And.intro (blk_cell hk7 4) (And.intro (blk_cell hk7 5) (And.intro (blk_cell hk7 6) (And.intro (blk_cell hk7 7) (And.intro (blk_cell hk7 8) (blk_cell hk7 9))))))))))
      have HVV := Lib.hid hv
      clear hk7 hv
      go_wp2_with fail
      obtain ⟨d0, d1, d2, d3, d4, d5, d6, d7, d8, d9⟩ := HD.out
      refine bodyPost_ret (v := V) ?_ rfl ⟨rfl, hb7⟩
      rw [HVV.out]
      simp at d0 d1 d2 d3 d4 d5 d6 d7 d8 d9
      simp [results, Tryz.results49, go_sem, d0, d1, d2, d3, d4, d5, d6, d7, d8, d9, LimV.val, LimV.none, U4.zero]
end Go.Proofs.YtlkkjnacolmmpaaGreatDoor
namespace Go.Proofs.YtlkkjnacolmmpaaGreatDoor
set_option maxRecDepth 100000
open Go Go.RowKit
set_option linter.unusedVariables false

set_option maxHeartbeats 2000000 in
theorem rset_no {w : World} {b : Nat} {R : List Pr} (h : DocS w b R) (key : ByteArray) (hk : key.size ≤ maxLen) (v : Value) (val : List UInt8) (hr : Rd w w.heap.size v val) (hp : pairB (key, val) = false) :
    Calls Tryz.prog 66 #[.pointer (some ⟨b, 0, none⟩), .string key, v] w fun e w' => e = .returned (.int .i64 60) ∧ w = w' := by
  have HT := Lib.hid (rtakes_any key v val w hk hr)
  rw [hp] at HT
  obtain ⟨A, c, rfl⟩ := hr.form
  clear h hr hp
  go_enter Tryz.func66, Tryz.ntmps66
  go_wp2_with fail
  refine HT.out.mono ?_
  rintro e w1 ⟨rfl, rfl⟩
  go_wp2_with fail
  go_ret
  exact ⟨rfl, rfl⟩
theorem putL_short {key : ByteArray} {val : List UInt8} {R : List Pr} (hv : val.length ≤ 2000000) (h : ∀ p ∈ R, p.2.length ≤ 2000000) : ∀ p ∈ putL (key, some val) R, p.2.length ≤ 2000000 := fun p hp => by
  rcases List.mem_append.1 ((putL_perm key _ R).mem_iff.1 hp) with hp | hp
  · rw [List.mem_singleton.1 hp]; exact hv
  · exact h p (List.mem_filter.1 hp).1
theorem putL_le (key : ByteArray) (val : List UInt8) (R : List Pr) : (putL (key, some val) R).length ≤ R.length + 1 := by
  rw [(putL_perm key (some val) R).length_eq]
  have := List.length_filter_le (fun p : Pr => !decide (p.1 = key)) R
  simp
  omega
theorem Doc.setLimG {w W : World} {b N : Nat} {R : List Pr} (h : Doc w b R N W) (hN : N + 1 ≤ 100000000) (a d : ByteArray) (v : LimV) (x : Value) {B : Nat} (ho : Own W B x (limB v)) (hk : (kLim a d).size ≤ maxLen) :
    Calls Tryz.prog 66 #[.pointer (some ⟨b, 0, none⟩), .string (kLim a d), x] W fun e w' => (∃ c, e = .returned (.int .i64 c)) ∧ Doc w b (setLim R a d v) (N + 1) w' ∧ Chg W w' (fun k => k = b) := by
  have hl := limB_len v
  unfold setLim
  rw [← pairB_lim a d v]
  by_cases hp : pairB (kLim a d, limB v) = true
  · rw [if_pos hp]
    exact (rset_any h.s (by have := h.n; omega) (kLim a d) hk x (limB v) ho.rd hp).mono fun e w' ⟨h1, h2, h3⟩ => ⟨⟨_, h1⟩, ⟨h2, by have := putL_le (kLim a d) (limB v) R; have := h.n; omega, putL_short (by omega) h.v, h.c.trans' h3⟩, h3⟩
  · rw [if_neg hp]
    refine (rset_no h.s (kLim a d) hk x (limB v) ho.rd (by simpa using hp)).mono ?_
    rintro e w' ⟨he, rfl⟩
    exact ⟨⟨_, he⟩, h.more (by omega), Chg.refl _ _⟩
theorem rB0 (v x : Value) (l m : List UInt8) (Z : World) (hr : Rd Z Z.heap.size v l) (hx : Rd Z Z.heap.size x m) (hl : l.length ≤ 140737488355328 - 65539) :
    Calls Tryz.prog 109 #[v, x] Z fun e w' => ∃ v', e = .returned v' ∧ Own w' Z.heap.size v' (l ++ encB m) ∧ Below Z.heap.size Z w' :=
  (refB_any v x l m Z hr hx hl).mono fun e w' ⟨v', h1, h2, h3⟩ => ⟨v', h1, by rw [List.append_assoc] at h2; exact h2, h3⟩
theorem rT0 (v : Value) (s : ByteArray) (l : List UInt8) (Z : World) (hr : Rd Z Z.heap.size v l) (hs : s.size ≤ maxLen) (hl : l.length ≤ 140737488355328 - 65539) :
    Calls Tryz.prog 97 #[v, .string s] Z fun e w' => ∃ v', e = .returned v' ∧ Own w' Z.heap.size v' (l ++ encT s) ∧ Below Z.heap.size Z w' :=
  (refT_any v s l Z hr hs hl).mono fun e w' ⟨v', h1, h2, h3⟩ => ⟨v', h1, by rw [List.append_assoc] at h2; exact h2, h3⟩
theorem DocS.ne_cellX {w : World} {b : Nat} {R : List Pr} (h : DocS w b R) {g i : Nat} {u : Value} (e : w.cell? ⟨g, i, none⟩ = some u) (h1 : ∀ A n c, u ≠ .slice A n c) (h2 : u ≠ .pointer none) : g ≠ b := by
  obtain ⟨v, hb, hr⟩ := h
  obtain ⟨A, c, rfl⟩ := RdP.form hr
  exact not_own hb e h1 h2

set_option maxHeartbeats 8000000 in
theorem rtsetlim_any {w : World} {b N : Nat} {R : List Pr} (h : Doc w b R N w) (hN : N + 1 ≤ 100000000) (a d : ByteArray) (v : LimV) (hv : v.ok) (ha : a.size ≤ 100000000) (hd : d.size ≤ 100000000) :
    Calls Tryz.prog 50 #[.pointer (some ⟨b, 0, none⟩), .string a, .string d, v.val] w fun e w' => e = .returned (.tuple #[]) ∧ Doc w b (setLim R a d v) (N + 1) w' := by
  obtain ⟨q, wn, sn, u⟩ := v
  obtain ⟨hq, hu, hwn, hsn⟩ := hv
  dsimp only at hq hu hwn hsn
  unfold LimV.val
  dsimp only
  have hbox := heap_alloc_new w (.cells #[.int .u64 (q.a : Int), .int .u64 (q.b : Int), .int .u64 (q.c : Int), .int .u64 (q.d : Int), .int .u64 (wn : Int), .int .u64 (sn : Int), .int .u64 (u.a : Int), .int .u64 (u.b : Int), .int .u64 (u.c : Int), .int .u64 (u.d : Int)] 95)
  have ha0 : Below w.heap.size w (w.alloc (.cells #[.int .u64 (q.a : Int), .int .u64 (q.b : Int), .int .u64 (q.c : Int), .int .u64 (q.d : Int), .int .u64 (wn : Int), .int .u64 (sn : Int), .int .u64 (u.a : Int), .int .u64 (u.b : Int), .int .u64 (u.c : Int), .int .u64 (u.d : Int)] 95)) := (Below.refl _ _).alloc (Nat.le_refl _) _
  have A0 := h.up ha0
  clear h
  generalize hW0 : w.alloc (.cells #[.int .u64 (q.a : Int), .int .u64 (q.b : Int), .int .u64 (q.c : Int), .int .u64 (q.d : Int), .int .u64 (wn : Int), .int .u64 (sn : Int), .int .u64 (u.a : Int), .int .u64 (u.b : Int), .int .u64 (u.c : Int), .int .u64 (u.d : Int)] 95) = W0 at *
  have hgl := blk_lt hbox
  have hnb : ¬ w.heap.size = b := DocS.ne_cellX A0.s (blk_cell hbox 0) (by simp) (by simp)
  generalize hgg : w.heap.size = g0 at *
  have HC : Hid (∀ Z, Chg W0 Z (fun k => k = b) → Z.cell? ⟨g0, 0, none⟩ = some (.int .u64 (q.a : Int)) ∧ Z.cell? ⟨g0, 1, none⟩ = some (.int .u64 (q.b : Int)) ∧ Z.cell? ⟨g0, 2, none⟩ = some (.int .u64 (q.c : Int)) ∧ Z.cell? ⟨g0, 3, none⟩ = some (.int .u64 (q.d : Int)) ∧ Z.cell? ⟨g0, 4, none⟩ = some (.int .u64 (wn : Int)) ∧ Z.cell? ⟨g0, 5, none⟩ = some (.int .u64 (sn : Int)) ∧ Z.cell? ⟨g0, 6, none⟩ = some (.int .u64 (u.a : Int)) ∧ Z.cell? ⟨g0, 7, none⟩ = some (.int .u64 (u.b : Int)) ∧ Z.cell? ⟨g0, 8, none⟩ = some (.int .u64 (u.c : Int)) ∧ Z.cell? ⟨g0, 9, none⟩ = some (.int .u64 (u.d : Int))) := Lib.hid fun Z hz =>
    ⟨blk_cell ((hz.block _ hgl hnb).trans hbox) 0, blk_cell ((hz.block _ hgl hnb).trans hbox) 1, blk_cell ((hz.block _ hgl hnb).trans hbox) 2, blk_cell ((hz.block _ hgl hnb).trans hbox) 3, blk_cell ((hz.block _ hgl hnb).trans hbox) 4, blk_cell ((hz.block _ hgl hnb).trans hbox) 5, blk_cell ((hz.block _ hgl hnb).trans hbox) 6, blk_cell ((hz.block _ hgl hnb).trans hbox) 7, blk_cell ((hz.block _ hgl hnb).trans hbox) 8, blk_cell ((hz.block _ hgl hnb).trans hbox) 9⟩
  have HK := Lib.hid (fun W => (rtlimkey_any a d W ha hd).mono fun e w' ⟨h1, h2⟩ => (⟨h1, h2.symm⟩ : _ ∧ w' = W))
  have HLq := Lib.hid (fun W : World => rbytes_any q W hq)
  have HLu := Lib.hid (fun W : World => rbytes_any u W hu)
  have eb := encB_len (be q.nat 32)
  have HB1 : Hid (∀ (x : Value) (Z : World) (B : Nat), Own Z B x (be q.nat 32) → Calls Tryz.prog 109 #[.slice none 0 0, x] Z fun e w' => ∃ v', e = .returned v' ∧ Own w' Z.heap.size v' (encB (be q.nat 32)) ∧ Below Z.heap.size Z w') :=
    Lib.hid fun x Z B ho => rB0 (.slice none 0 0) x [] _ Z (Rd.nil _ _) ho.rd (by simp)
  have HN1 : Hid (∀ (x : Value) (Z : World) (B : Nat), Own Z B x (encB (be q.nat 32)) → Calls Tryz.prog 58 #[x, .int .u64 (wn : Int)] Z fun e w' => ∃ v', e = .returned v' ∧ Own w' Z.heap.size v' (encB (be q.nat 32) ++ be wn 8) ∧ Below Z.heap.size Z w') :=
    Lib.hid fun x Z B ho => refN_any x _ wn Z ho.rd hwn (by omega)
  have HN2 : Hid (∀ (x : Value) (Z : World) (B : Nat), Own Z B x (encB (be q.nat 32) ++ be wn 8) → Calls Tryz.prog 58 #[x, .int .u64 (sn : Int)] Z fun e w' => ∃ v', e = .returned v' ∧ Own w' Z.heap.size v' (encB (be q.nat 32) ++ be wn 8 ++ be sn 8) ∧ Below Z.heap.size Z w') :=
    Lib.hid fun x Z B ho => refN_any x _ sn Z ho.rd hsn (by simp [be_length]; omega)
  have HB2 : Hid (∀ (v x : Value) (Z : World) (B C : Nat), Own Z B v (encB (be q.nat 32) ++ be wn 8 ++ be sn 8) → Own Z C x (be u.nat 32) → Calls Tryz.prog 109 #[v, x] Z fun e w' => ∃ v', e = .returned v' ∧ Own w' Z.heap.size v' (limB ⟨q, wn, sn, u⟩) ∧ Below Z.heap.size Z w') :=
    Lib.hid fun v x Z B C ho hx => rB0 v x _ _ Z ho.rd hx.rd (by simp [be_length]; omega)
  have HS : Hid (∀ (x : Value) (Z : World) (B : Nat), Below W0.heap.size W0 Z → Own Z B x (limB ⟨q, wn, sn, u⟩) → Calls Tryz.prog 66 #[.pointer (some ⟨b, 0, none⟩), .string (kLim a d), x] Z fun e w' => (∃ c, e = .returned (.int .i64 c)) ∧ Doc w b (setLim R a d ⟨q, wn, sn, u⟩) (N + 1) w' ∧ Chg Z w' (fun k => k = b)) :=
    Lib.hid fun x Z B hz ho => (A0.up hz).setLimG hN a d _ x ho (by rw [kLim_size]; unfold maxLen; omega)
  unfold U4.val U4.cells at HLq HLu
  generalize setLim R a d ⟨q, wn, sn, u⟩ = R2 at *
  generalize limB ⟨q, wn, sn, u⟩ = L4 at *
  generalize encB (be q.nat 32) ++ be wn 8 ++ be sn 8 = L3 at *
  generalize encB (be q.nat 32) ++ be wn 8 = L2 at *
  generalize encB (be q.nat 32) = L1 at *
  generalize be q.nat 32 = Lq at *
  generalize be u.nat 32 = Lu at *
  generalize kLim a d = key at *
  clear eb hq hu hwn hsn A0 hbox
  have hc0 : ∀ Z, Below W0.heap.size W0 Z → Chg W0 Z (fun k => k = b) := fun Z hz => .of_below hz _
  have HC0 := Lib.hid hc0
  clear hc0
  go_enter Tryz.func50, Tryz.ntmps50
  go_wp2_with fail
  try rw [hW0]
  clear hW0
  have hkD : Below W0.heap.size W0 W0.drew := Below.drew (Below.refl _ _)
  try rw [hgg]
  go_region_held_law (fun Z => Z.cell? ⟨g0, 0, none⟩ = some (.int .u64 (q.a : Int)) ∧ Z.cell? ⟨g0, 1, none⟩ = some (.int .u64 (q.b : Int)) ∧ Z.cell? ⟨g0, 2, none⟩ = some (.int .u64 (q.c : Int)) ∧ Z.cell? ⟨g0, 3, none⟩ = some (.int .u64 (q.d : Int)) ∧ Z.cell? ⟨g0, 4, none⟩ = some (.int .u64 (wn : Int)) ∧ Z.cell? ⟨g0, 5, none⟩ = some (.int .u64 (sn : Int)) ∧ Z.cell? ⟨g0, 6, none⟩ = some (.int .u64 (u.a : Int)) ∧ Z.cell? ⟨g0, 7, none⟩ = some (.int .u64 (u.b : Int)) ∧ Z.cell? ⟨g0, 8, none⟩ = some (.int .u64 (u.c : Int)) ∧ Z.cell? ⟨g0, 9, none⟩ = some (.int .u64 (u.d : Int)))
    (with_reducible first | exact HC.out _ hkF | exact HC.out _ (HC0.out _ hk6) | exact HC.out _ (HC0.out _ hk5) | exact HC.out _ (HC0.out _ hk4) | exact HC.out _ (HC0.out _ hk3) | exact HC.out _ (HC0.out _ hk2) | exact HC.out _ (HC0.out _ hk1) | exact HC.out _ (HC0.out _ hkD))
    ((first
      | (go_at_call 118; refine (HK.out _).mono ?_; rintro e w9 ⟨rfl, rfl⟩)
      | (go_at_call 66; refine (HS.out _ _ _ hk6 ho6).mono ?_; rintro e w7 ⟨⟨c7, rfl⟩, AS, hkS⟩; have hkF := (HC0.out _ hk6).trans' hkS)
      | (go_at_call 109; first
          | (refine (HB2.out _ _ _ _ _ (Own.below ho4 hb5) ho5).mono ?_; rintro e w6 ⟨v6, rfl, ho6, hb6⟩; have hk6 := below_chain hk5 hk5.size hb6)
          | (refine (HB1.out _ _ _ ho1).mono ?_; rintro e w2 ⟨v2, rfl, ho2, hb2⟩; have hk2 := below_chain hk1 hk1.size hb2))
      | (go_at_call 58; first
          | (refine (HN2.out _ _ _ ho3).mono ?_; rintro e w4 ⟨v4, rfl, ho4, hb4⟩; have hk4 := below_chain hk3 hk3.size hb4)
          | (refine (HN1.out _ _ _ ho2).mono ?_; rintro e w3 ⟨v3, rfl, ho3, hb3⟩; have hk3 := below_chain hk2 hk2.size hb3))
      | (go_at_call 110; first
          | (have hq4 := hk4; refine (HLu.out _).mono ?_; rintro e w5 ⟨v5, rfl, ho5, hb5⟩; have hk5 := below_chain hk4 hk4.size hb5)
          | (refine (HLq.out _).mono ?_; rintro e w1 ⟨v1, rfl, ho1, hb1⟩; have hk1 := below_chain hkD hkD.size hb1))))
  all_goals
    go_wp2_with fail
    go_end0
    exact ⟨rfl, AS⟩
end Go.Proofs.YtlkkjnacolmmpaaGreatDoor
namespace Go.Proofs.YtlkkjnacolmmpaaGreatDoor
set_option maxRecDepth 100000
open Go Go.RowKit
set_option linter.unusedVariables false

theorem Tryz.rlimF : ∃ f0 f1 f2 f3 : Field, (Tryz.prog.fieldsOf 95).toList = [f0, f1, f2, f3] ∧ f0.type = 74 ∧ f1.type = 23 ∧ f2.type = 23 ∧ f3.type = 74 ∧ f0.offset = 0 ∧ f1.offset = 4 ∧ f2.offset = 5 ∧ f3.offset = 6 :=
  ⟨_, _, _, _, (by rfl), rfl, rfl, rfl, rfl, rfl, rfl, rfl, rfl⟩
theorem rlim_self (q : U4) (wn sn : Nat) (u : U4) : ∀ f ∈ (Tryz.prog.fieldsOf 95).toList, SelfF #[.int .u64 (q.a : Int), .int .u64 (q.b : Int), .int .u64 (q.c : Int), .int .u64 (q.d : Int), .int .u64 (wn : Int), .int .u64 (sn : Int), .int .u64 (u.a : Int), .int .u64 (u.b : Int), .int .u64 (u.c : Int), .int .u64 (u.d : Int)] f := by
  obtain ⟨f0, f1, f2, f3, hl, t0, t1, t2, t3, o0, o1, o2, o3⟩ := Tryz.rlimF
  rw [hl]
  intro f hf
  simp only [List.mem_cons, List.not_mem_nil, or_false] at hf
  rcases hf with rfl | rfl | rfl | rfl
  · exact self_u4 q t0 (fun w => by rw [o0]; rfl)
  · exact self_int (wn : Int) (by rw [t1]; exact Tryz.underlying23) (fun w => by rw [t1, o1]; rfl)
  · exact self_int (sn : Int) (by rw [t2]; exact Tryz.underlying23) (fun w => by rw [t2, o2]; rfl)
  · exact self_u4 u t3 (fun w => by rw [o3]; rfl)
theorem rlim_neq (q : U4) (wn sn : Nat) (u : U4) (W : World) : (binOp .neq 95 (.agg #[.int .u64 (q.a : Int), .int .u64 (q.b : Int), .int .u64 (q.c : Int), .int .u64 (q.d : Int), .int .u64 (wn : Int), .int .u64 (sn : Int), .int .u64 (u.a : Int), .int .u64 (u.b : Int), .int .u64 (u.c : Int), .int .u64 (u.d : Int)]) (.agg #[.int .u64 (q.a : Int), .int .u64 (q.b : Int), .int .u64 (q.c : Int), .int .u64 (q.d : Int), .int .u64 (wn : Int), .int .u64 (sn : Int), .int .u64 (u.a : Int), .int .u64 (u.b : Int), .int .u64 (u.c : Int), .int .u64 (u.d : Int)])).run Tryz.prog W = .ok (.bool false) W :=
  neq_self (by kernel_rfl) (by kernel_rfl) (rlim_self q wn sn u) W
theorem readLim_ok {l : List UInt8} {v : LimV} (h : readLim l = some v) : v.ok := by
  unfold readLim at h
  generalize rB l 0 = P at *
  obtain ⟨b, l1, f1⟩ := P
  dsimp only at h
  have a2 := rN_lt l1 f1
  generalize rN l1 f1 = P at *
  obtain ⟨w, l2, f2⟩ := P
  dsimp only at h a2
  have a3 := rN_lt l2 f2
  generalize rN l2 f2 = P at *
  obtain ⟨s, l3, f3⟩ := P
  dsimp only at h a3
  generalize rB l3 f3 = P at *
  obtain ⟨c, l4, f4⟩ := P
  dsimp only at h
  split at h
  · have hv := Option.some.inj h
    subst hv
    exact ⟨fromU_ok _, fromU_ok _, a2, a3⟩
  · cases h
theorem limV_eq (o : Option LimV) : limV o = .tuple #[(o.getD LimV.none).val, .bool o.isSome] := by cases o <;> rfl
theorem getLim_ok (R : List Pr) (a d : ByteArray) : ((getLim R a d).getD LimV.none).ok := by
  cases e : getLim R a d with
  | none => exact ⟨zero_ok, zero_ok, by decide, by decide⟩
  | some v =>
    unfold getLim at e
    cases e2 : getL R (kLim a d) with
    | none => rw [e2] at e; cases e
    | some l => rw [e2] at e; exact readLim_ok e
section
variable {B : Nat} {y : Lyr} {b k : Nat} {Rp Rd : List Pr} {W W' : World}
theorem Two.accT (h : Two B y b Rp Rd k W) : ∃ n f, n ≤ y.n + k ∧ PileS W [⟨y.b, y.m, n, f⟩] ∧ Acc W ⟨y.b, y.m, n, f⟩ Rp 0 W := by
  obtain ⟨n, f, h1, h2, h3⟩ := h.p
  exact ⟨n, f, h3, h1, BankS.refl h1 h2, h1⟩
theorem Two.setlim (h : Two B y b Rp Rd k W) (hn : y.n + k + 2 ≤ 100000000) (a d : ByteArray) (v : LimV) (hv : v.ok) (ha : a.size ≤ 100000000) (hd : d.size ≤ 100000000) :
    Calls Tryz.prog 43 #[.pointer (some ⟨y.b, 0, none⟩), .string a, .string d, v.val] W fun e w' => e = .returned (.tuple #[]) ∧ Two B y b (setLim Rp a d v) Rd (k + 2) w' ∧ Chg W w' (FT y b) := by
  obtain ⟨n, f, h3, h1, A⟩ := h.accT
  refine (tsetlim_any A (show n + 0 < maxLen by unfold maxLen; omega) a d v hv ha hd).mono ?_
  rintro e w' ⟨he, hq, -⟩
  exact ⟨he, h.bankS h3 h1 (hq.moreT (show 0 + 1 ≤ 2 by omega)).b⟩
theorem Two.rsetlim (h : Two B y b Rp Rd k W) (hn : y.n + k + 2 ≤ 100000000) (a d : ByteArray) (v : LimV) (hv : v.ok) (ha : a.size ≤ 100000000) (hd : d.size ≤ 100000000) :
    Calls Tryz.prog 50 #[.pointer (some ⟨b, 0, none⟩), .string a, .string d, v.val] W fun e w' => e = .returned (.tuple #[]) ∧ Two B y b Rp (setLim Rd a d v) (k + 2) w' ∧ Chg W w' (FT y b) := by
  refine (rtsetlim_any h.doc (by omega) a d v hv ha hd).mono ?_
  rintro e w' ⟨he, hq⟩
  exact ⟨he, h.docS (hq.more (by omega))⟩
end

set_option maxHeartbeats 16000000 in
theorem tlimits_law (w : World) (v0 : Value) (ps : List Pr) (hps : RdP w w.heap.size v0 ps) (hnl : ∀ p ∈ ps, p.1.size ≤ maxLen) (hvl : ∀ p ∈ ps, p.2.length ≤ 2000000) (hpl : ps.length ≤ 2000000)
    (a d : ByteArray) (ha : a.size ≤ 10000000) (hd : d.size ≤ 10000000) :
    Calls Tryz.prog 8 #[v0, .string a, .string d] w fun e w' => e = .returned (.bool true) ∧ Below w.heap.size w w' := by
  have HN0 := Lib.hid (new_any w v0 ps hps hnl)
  have HN1 := Lib.hid (fun (W : World) (hb : Below w.heap.size w W) => rnew_doc W v0 ps (hps.kept (Kept.of_below hb)) hnl hvl hpl)
  have HV := Lib.hid (And.intro hnl (And.intro hvl hpl))
  have HE1 := Lib.hid (fun W : World => tesc_any a W (by omega))
  have HE2 := Lib.hid (fun W : World => rtesc_any a W (by omega))
  have HAD := Lib.hid (And.intro ha hd)
  obtain ⟨A0, c0, rfl⟩ : ∃ A c, v0 = .slice A ps.length c := RdP.form hps
  generalize kEsc a = ke at *
  clear hps hnl hvl hpl ha hd
  go_enter Tryz.func8, Tryz.ntmps8
  go_wp2_with fail
  refine HN0.out.mono ?_
  rintro e w1 ⟨⟨hor, rfl⟩ | ⟨hor, y, rfl, hyb, hym, hyn, hly, hri, hp1⟩, hb1⟩
  · have HO := Lib.hid hor
    clear hor
    go_wp2_with fail
    refine (HN1.out _ hb1).mono ?_
    rintro e w2 ⟨⟨-, rfl⟩ | ⟨h2, -⟩, hb2⟩
    rotate_left
    · rw [HO.out] at h2; cases h2
    have hq2 := below_chain hb1 hb1.size hb2
    go_wp2_with fail
    refine (tfixed_any _).mono ?_
    rintro e w3 ⟨rfl, hb3⟩
    have hq3 := below_chain hq2 hq2.size hb3
    go_wp2_with fail
    refine (tfixed_any _).mono ?_
    rintro e w4 ⟨rfl, hb4⟩
    have hq4 := below_chain hq3 hq3.size hb4
    go_wp2_with fail
    refine (HE1.out _).mono ?_
    rintro e w5 ⟨rfl, rfl⟩
    go_wp2_with fail
    refine (HE2.out _).mono ?_
    rintro e w5 ⟨rfl, rfl⟩
    go_wp2_with fail
    go_ret
    exact ⟨rfl, hq4⟩
  have HO := Lib.hid hor
  obtain ⟨yb, ym, yn, yf⟩ := y
  dsimp only at hyb hym hyn ⊢
  have HY := Lib.hid (And.intro hp1 (And.intro hly hri))
  have HYN := Lib.hid (show yn = ps.length from hyn)
  clear hyb hly hri hp1 HN0 hyn hor
  go_wp2_with fail
  refine (HN1.out _ hb1).mono ?_
  rintro e w2 ⟨⟨h2, -⟩ | ⟨-, b, rfl, hbb, hds⟩, hb2⟩
  · rw [HO.out] at h2; cases h2
  have hq2 := below_chain hb1 hb1.size hb2
  have T2 : Two w.heap.size ⟨yb, ym, yn, yf⟩ b ps ps 0 w2 := ⟨⟨yn, yf, HY.out.1.up hb2, seen_bot0 HY.out.2.1 HY.out.2.2 HV.out.1, Nat.le_refl _⟩, hds, Nat.le_of_eq HYN.out.symm, HV.out.2.1, hym, Nat.le_trans hb1.size hbb, Nat.le_trans hb1.size hb2.size⟩
  clear hb1 hb2 hbb hds HY hym HN1
  go_wp2_with fail
  refine (tfixed_any _).mono ?_
  rintro e w3 ⟨rfl, hb3⟩
  have T3 := T2.up hb3
  have hq3 := below_chain hq2 hq2.size hb3
  obtain ⟨n3, f3, -, -, A3⟩ := T3.accT
  have HG1 := Lib.hid (tgetlim_any A3 a d (by have := HAD.out.1; omega) (by have := HAD.out.2; omega))
  have HG2 := Lib.hid (fun (Z : World) (hz : Below w3.heap.size w3 Z) => rtgetlim_any ((T3.docR (show yn + 0 ≤ 100000000 by have := HYN.out; have := HV.out.2.2; omega)).up hz) a d (by have := HAD.out.1; omega) (by have := HAD.out.2; omega))
  rw [limV_eq] at HG1
  simp only [limV_eq] at HG2
  have hlo := getLim_ok ps a d
  generalize (getLim ps a d).isSome = ok at *
  generalize (getLim ps a d).getD LimV.none = lv at *
  obtain ⟨q, wn, sn, u⟩ := lv
  unfold LimV.val at HG1 HG2
  dsimp only at HG1 HG2
  obtain ⟨oq, ou, own, osn⟩ := hlo
  dsimp only at oq ou own osn
  obtain ⟨ua, hua⟩ : ∃ ua : Nat, ua = (u.a + 1) % 18446744073709551616 := ⟨_, rfl⟩
  have HOK : Hid ((⟨q, wn, sn, ⟨ua, u.b, u.c, u.d⟩⟩ : LimV).ok) := Lib.hid ⟨oq, ⟨by show ua < _; rw [hua]; exact Nat.mod_lt _ (by omega), ou.2.1, ou.2.2.1, ou.2.2.2⟩, own, osn⟩
  have hw1 : IntKind.u64.wrap ((u.a : Int) + 1) = ((ua : Nat) : Int) := by
    rw [hua]
    simp only [IntKind.wrap, IntKind.bits, IntKind.signed]
    simp
  have HW1 := Lib.hid hw1
  have hneq := fun W : World => rlim_neq q wn sn u W
  clear T2 hq2 hb3 A3 oq ou own osn hua hw1
  have HT3 := Lib.hid T3
  clear T3
  go_wp2_with fail
  refine HG1.out.mono ?_
  rintro e w4 ⟨rfl, hb4⟩
  have hb5 := hb4.alloc hb4.size (.cells #[.int .u64 (q.a : Int), .int .u64 (q.b : Int), .int .u64 (q.c : Int), .int .u64 (q.d : Int), .int .u64 (wn : Int), .int .u64 (sn : Int), .int .u64 (u.a : Int), .int .u64 (u.b : Int), .int .u64 (u.c : Int), .int .u64 (u.d : Int)] 78)
  have k1 := heap_alloc_new w4 (.cells #[.int .u64 (q.a : Int), .int .u64 (q.b : Int), .int .u64 (q.c : Int), .int .u64 (q.d : Int), .int .u64 (wn : Int), .int .u64 (sn : Int), .int .u64 (u.a : Int), .int .u64 (u.b : Int), .int .u64 (u.c : Int), .int .u64 (u.d : Int)] 78)
  have hgle := hb4.size
  clear HG1 hb4
  go_wp2_with fail
  generalize w4.alloc (.cells #[.int .u64 (q.a : Int), .int .u64 (q.b : Int), .int .u64 (q.c : Int), .int .u64 (q.d : Int), .int .u64 (wn : Int), .int .u64 (sn : Int), .int .u64 (u.a : Int), .int .u64 (u.b : Int), .int .u64 (u.c : Int), .int .u64 (u.d : Int)] 78) = w5 at *
  generalize w4.heap.size = g1 at *
  refine (HG2.out _ hb5).mono ?_
  rintro e w6 ⟨rfl, hb6⟩
  have hb7 := (below_chain hb5 hb5.size hb6).alloc (Nat.le_trans hb5.size hb6.size) (.cells #[.int .u64 (q.a : Int), .int .u64 (q.b : Int), .int .u64 (q.c : Int), .int .u64 (q.d : Int), .int .u64 (wn : Int), .int .u64 (sn : Int), .int .u64 (u.a : Int), .int .u64 (u.b : Int), .int .u64 (u.c : Int), .int .u64 (u.d : Int)] 95)
  have k2 := (hb6.block _ (blk_lt k1)).trans k1
  replace k1 := (Below.heap_alloc w6 (.cells #[.int .u64 (q.a : Int), .int .u64 (q.b : Int), .int .u64 (q.c : Int), .int .u64 (q.d : Int), .int .u64 (wn : Int), .int .u64 (sn : Int), .int .u64 (u.a : Int), .int .u64 (u.b : Int), .int .u64 (u.c : Int), .int .u64 (u.d : Int)] 95) _ (blk_lt k2)).trans k2
  replace k2 := heap_alloc_new w6 (.cells #[.int .u64 (q.a : Int), .int .u64 (q.b : Int), .int .u64 (q.c : Int), .int .u64 (q.d : Int), .int .u64 (wn : Int), .int .u64 (sn : Int), .int .u64 (u.a : Int), .int .u64 (u.b : Int), .int .u64 (u.c : Int), .int .u64 (u.d : Int)] 95)
  clear HG2 hb5 hb6
  have x0 := blk_cell k1 0
  have x1 := blk_cell k1 1
  have x2 := blk_cell k1 2
  have x3 := blk_cell k1 3
  have x4 := blk_cell k1 4
  have x5 := blk_cell k1 5
  have x6 := blk_cell k1 6
  have x7 := blk_cell k1 7
  have x8 := blk_cell k1 8
  have x9 := blk_cell k1 9
  have y0 := blk_cell k2 0
  have y1 := blk_cell k2 1
  have y2 := blk_cell k2 2
  have y3 := blk_cell k2 3
  have y4 := blk_cell k2 4
  have y5 := blk_cell k2 5
  have y6 := blk_cell k2 6
  have y7 := blk_cell k2 7
  have y8 := blk_cell k2 8
  have y9 := blk_cell k2 9
  clear k2
  have hf6 := blk_free k1 6
  go_wp2_with fail
  generalize w6.alloc (.cells #[.int .u64 (q.a : Int), .int .u64 (q.b : Int), .int .u64 (q.c : Int), .int .u64 (q.d : Int), .int .u64 (wn : Int), .int .u64 (sn : Int), .int .u64 (u.a : Int), .int .u64 (u.b : Int), .int .u64 (u.c : Int), .int .u64 (u.d : Int)] 95) = w7 at *
  refine (HE1.out _).mono ?_
  rintro e w8 ⟨rfl, rfl⟩
  go_wp2_with fail
  refine (HE2.out _).mono ?_
  rintro e w8 ⟨rfl, rfl⟩
  have k3 := blk_set k1 6 (.int .u64 (ua : Int))
  have hb8 : Below w3.heap.size w3 (w7.setCell ⟨g1, 6, none⟩ (.int .u64 (ua : Int))) := hb7.setCell hgle _
  clear HE1 HE2
  have hw2 := HW1.out
  go_wp2_with fail
  generalize w7.setCell ⟨g1, 6, none⟩ (.int .u64 (ua : Int)) = w8 at *
  have T8 := HT3.out.up hb8
  have hq8 := below_chain hq3 hq3.size hb8
  have hny : ¬ FT ⟨yb, ym, yn, yf⟩ b g1 := fun e => by
    rcases e with e | e
    · obtain ⟨n, f, h1, -, -⟩ := T8.p
      obtain ⟨es, c, e2⟩ := h1.1.maps _ rfl
      rw [show ym = g1 from e.symm] at e2
      rw [k3] at e2
      cases e2
    · exact DocS.ne_cell T8.d (blk_cell k3 0) (by simp) (by simp) e
  have HS1 := Lib.hid (T8.setlim (show yn + 0 + 2 ≤ 100000000 by have := HYN.out; have := HV.out.2.2; omega) a d _ HOK.out (by have := HAD.out.1; omega) (by have := HAD.out.2; omega))
  unfold LimV.val at HS1
  dsimp only at HS1
  have HT8 := Lib.hid T8
  clear T8 hb7 hb8 HT3 x0 y0 x1 y1 x2 y2 x3 y3 x4 y4 x5 y5 x6 y6 x7 y7 x8 y8 x9 y9
  refine HS1.out.mono ?_
  rintro e w9 ⟨rfl, T9, hc9⟩
  have hq9 := hq8.trans (HT8.out.below hc9)
  have k4 := (hc9.block _ (blk_lt k3) hny).trans k3
  have HS2 := Lib.hid (T9.rsetlim (show yn + (0 + 2) + 2 ≤ 100000000 by have := HYN.out; have := HV.out.2.2; omega) a d _ HOK.out (by have := HAD.out.1; omega) (by have := HAD.out.2; omega))
  unfold LimV.val at HS2
  dsimp only at HS2
  have HT9 := Lib.hid T9
  generalize setLim ps a d _ = qR at *
  clear T9 HS1 hc9
  have z0 := blk_cell k4 0
  have z1 := blk_cell k4 1
  have z2 := blk_cell k4 2
  have z3 := blk_cell k4 3
  have z4 := blk_cell k4 4
  have z5 := blk_cell k4 5
  have z6 := blk_cell k4 6
  have z7 := blk_cell k4 7
  have z8 := blk_cell k4 8
  have z9 := blk_cell k4 9
  go_wp2_with fail
  refine HS2.out.mono ?_
  rintro e w5' ⟨rfl, T5, hc5⟩
  have hb := hq9.trans (HT9.out.below hc5)
  clear z0 z1 z2 z3 z4 z5 z6 z7 z8 z9 HS2 hc5 k4 k3 hny
  obtain ⟨m, f, hm, hri, hA⟩ := T5.acc
  have hm' : m ≤ 100000000 := by have : m ≤ yn + (0 + 2 + 2) := hm; have := HYN.out; have := HV.out.2.2; omega
  have hsm : ∀ p ∈ qR, p.1.size ≤ maxLen := by obtain ⟨_, _, _, h2, _⟩ := T5.p; exact h2.small
  have HPA := Lib.hid (hA.pairs (show m + 0 ≤ 1000000000 by omega) ⟨#[]⟩ (by decide +kernel))
  have HPB := Lib.hid (fun (Z : World) (hz : Below w5'.heap.size w5' Z) => rpairs_any ((T5.docR (show yn + (0 + 2 + 2) ≤ 100000000 by have := HYN.out; have := HV.out.2.2; omega)).up hz) ⟨#[]⟩ (by decide +kernel) hsm)
  rw [filter_all] at HPA HPB
  obtain ⟨rl, hrl⟩ : ∃ rl, rl = qR.length := ⟨_, rfl⟩
  have HRL := Lib.hid hrl
  clear T5 hm hri hA hsm hrl HT9 HT8
  go_wp2_with fail
  refine HPA.out.mono ?_
  rintro e w6' ⟨v4, rfl, ho4, hb4⟩
  have hr4 := ho4.rdP
  obtain ⟨A4, c4, hv4⟩ : ∃ A c, v4 = .slice A rl c := by rw [HRL.out]; exact ho4.form
  subst hv4
  have HV4 := Lib.hid hr4
  clear ho4 hr4
  go_wp2_with fail
  refine (HPB.out _ hb4).mono ?_
  rintro e w7' ⟨v5, rfl, hr5, hb5⟩
  have HSA := Lib.hid (samePs_any w7' (.slice A4 rl c4) v5 qR qR (HV4.out.kept (Kept.of_below hb5)) hr5)
  obtain ⟨A5, c5, hv5⟩ : ∃ A c, v5 = .slice A rl c := by rw [HRL.out]; exact RdP.form hr5
  subst hv5
  clear hr5
  go_wp2_with fail
  refine HSA.out.mono ?_
  rintro e w8' ⟨rfl, hb6⟩
  have hbb := below_chain (below_chain hb4 hb4.size hb5) (Nat.le_trans hb4.size hb5.size) hb6
  have hq := below_chain hb hb.size hbb
  simp only [decide_true]
  go_wp2_with fail
  go_ret
  exact ⟨rfl, hq⟩
end Go.Proofs.YtlkkjnacolmmpaaGreatDoor
namespace Go.Proofs.YtlkkjnacolmmpaaGreatDoor
set_option maxRecDepth 100000
open Go Go.RowKit
set_option linter.unusedVariables false

theorem Tryz.rdataF : ∃ f0 f1 f2 f3 : Field, (Tryz.prog.fieldsOf 81).toList = [f0, f1, f2, f3] ∧ f0.type = 9 ∧ f1.type = 9 ∧ f2.type = 9 ∧ f3.type = 74 ∧ f0.offset = 0 ∧ f1.offset = 1 ∧ f2.offset = 2 ∧ f3.offset = 3 :=
  ⟨_, _, _, _, (by rfl), rfl, rfl, rfl, rfl, rfl, rfl, rfl, rfl⟩
theorem rdata_self (d f t : ByteArray) (x : U4) : ∀ f' ∈ (Tryz.prog.fieldsOf 81).toList, SelfF #[.string d, .string f, .string t, .int .u64 (x.a : Int), .int .u64 (x.b : Int), .int .u64 (x.c : Int), .int .u64 (x.d : Int)] f' := by
  obtain ⟨f0, f1, f2, f3, hl, t0, t1, t2, t3, o0, o1, o2, o3⟩ := Tryz.rdataF
  rw [hl]
  intro f' hf
  simp only [List.mem_cons, List.not_mem_nil, or_false] at hf
  rcases hf with rfl | rfl | rfl | rfl
  · exact self_str d (by rw [t0]; exact Tryz.underlying9) (fun w => by rw [t0, o0]; rfl)
  · exact self_str f (by rw [t1]; exact Tryz.underlying9) (fun w => by rw [t1, o1]; rfl)
  · exact self_str t (by rw [t2]; exact Tryz.underlying9) (fun w => by rw [t2, o2]; rfl)
  · exact self_u4 x t3 (fun w => by rw [o3]; rfl)
theorem rdata_neq (d f t : ByteArray) (x : U4) (W : World) : (binOp .neq 81 (.agg #[.string d, .string f, .string t, .int .u64 (x.a : Int), .int .u64 (x.b : Int), .int .u64 (x.c : Int), .int .u64 (x.d : Int)]) (.agg #[.string d, .string f, .string t, .int .u64 (x.a : Int), .int .u64 (x.b : Int), .int .u64 (x.c : Int), .int .u64 (x.d : Int)])).run Tryz.prog W = .ok (.bool false) W :=
  neq_self (by kernel_rfl) (by kernel_rfl) (rdata_self d f t x) W
theorem Tryz.tlimF : ∃ f0 f1 f2 f3 : Field, (Tryz.prog.fieldsOf 78).toList = [f0, f1, f2, f3] ∧ f0.type = 74 ∧ f1.type = 23 ∧ f2.type = 23 ∧ f3.type = 74 ∧ f0.offset = 0 ∧ f1.offset = 4 ∧ f2.offset = 5 ∧ f3.offset = 6 :=
  ⟨_, _, _, _, (by rfl), rfl, rfl, rfl, rfl, rfl, rfl, rfl, rfl⟩
theorem tlim_self (q : U4) (wn sn : Nat) (u : U4) : ∀ f ∈ (Tryz.prog.fieldsOf 78).toList, SelfF #[.int .u64 (q.a : Int), .int .u64 (q.b : Int), .int .u64 (q.c : Int), .int .u64 (q.d : Int), .int .u64 (wn : Int), .int .u64 (sn : Int), .int .u64 (u.a : Int), .int .u64 (u.b : Int), .int .u64 (u.c : Int), .int .u64 (u.d : Int)] f := by
  obtain ⟨f0, f1, f2, f3, hl, t0, t1, t2, t3, o0, o1, o2, o3⟩ := Tryz.tlimF
  rw [hl]
  intro f hf
  simp only [List.mem_cons, List.not_mem_nil, or_false] at hf
  rcases hf with rfl | rfl | rfl | rfl
  · exact self_u4 q t0 (fun w => by rw [o0]; rfl)
  · exact self_int (wn : Int) (by rw [t1]; exact Tryz.underlying23) (fun w => by rw [t1, o1]; rfl)
  · exact self_int (sn : Int) (by rw [t2]; exact Tryz.underlying23) (fun w => by rw [t2, o2]; rfl)
  · exact self_u4 u t3 (fun w => by rw [o3]; rfl)
theorem tlim_eql (q : U4) (wn sn : Nat) (u : U4) (W : World) : (binOp .eql 78 (.agg #[.int .u64 (q.a : Int), .int .u64 (q.b : Int), .int .u64 (q.c : Int), .int .u64 (q.d : Int), .int .u64 (wn : Int), .int .u64 (sn : Int), .int .u64 (u.a : Int), .int .u64 (u.b : Int), .int .u64 (u.c : Int), .int .u64 (u.d : Int)]) (.agg #[.int .u64 (q.a : Int), .int .u64 (q.b : Int), .int .u64 (q.c : Int), .int .u64 (q.d : Int), .int .u64 (wn : Int), .int .u64 (sn : Int), .int .u64 (u.a : Int), .int .u64 (u.b : Int), .int .u64 (u.c : Int), .int .u64 (u.d : Int)])).run Tryz.prog W = .ok (.bool true) W :=
  eql_self (by kernel_rfl) (by kernel_rfl) (tlim_self q wn sn u) W

set_option maxHeartbeats 4000000 in
theorem rtbytes_any (v : DataV) (w : World) (hv : v.x.ok) (hd : v.d.size ≤ maxLen) (hf : v.f.size ≤ maxLen) (ht : v.t.size ≤ maxLen) :
    Calls Tryz.prog 42 #[v.val] w fun e w' => ∃ v', e = .returned v' ∧ Own w' w.heap.size v' (dataB v) ∧ Below w.heap.size w w' := by
  obtain ⟨d, f, t, x⟩ := v
  dsimp only at hv hd hf ht
  unfold DataV.val dataB
  dsimp only
  have hbox := heap_alloc_new w (.cells #[.string d, .string f, .string t, .int .u64 (x.a : Int), .int .u64 (x.b : Int), .int .u64 (x.c : Int), .int .u64 (x.d : Int)] 81)
  have ha0 : Below w.heap.size w (w.alloc (.cells #[.string d, .string f, .string t, .int .u64 (x.a : Int), .int .u64 (x.b : Int), .int .u64 (x.c : Int), .int .u64 (x.d : Int)] 81)) := (Below.refl _ _).alloc (Nat.le_refl _) _
  generalize hW0 : w.alloc (.cells #[.string d, .string f, .string t, .int .u64 (x.a : Int), .int .u64 (x.b : Int), .int .u64 (x.c : Int), .int .u64 (x.d : Int)] 81) = W0 at *
  have hgl := blk_lt hbox
  have hs0 := ha0.size
  generalize hgg : w.heap.size = g0 at *
  have HC : Hid (∀ Z, Below W0.heap.size W0 Z → Z.cell? ⟨g0, 0, none⟩ = some (.string d) ∧ Z.cell? ⟨g0, 1, none⟩ = some (.string f) ∧ Z.cell? ⟨g0, 2, none⟩ = some (.string t) ∧ Z.cell? ⟨g0, 3, none⟩ = some (.int .u64 (x.a : Int)) ∧ Z.cell? ⟨g0, 4, none⟩ = some (.int .u64 (x.b : Int)) ∧ Z.cell? ⟨g0, 5, none⟩ = some (.int .u64 (x.c : Int)) ∧ Z.cell? ⟨g0, 6, none⟩ = some (.int .u64 (x.d : Int))) := Lib.hid fun Z hz => ⟨blk_cell ((hz.block _ hgl).trans hbox) 0, blk_cell ((hz.block _ hgl).trans hbox) 1, blk_cell ((hz.block _ hgl).trans hbox) 2, blk_cell ((hz.block _ hgl).trans hbox) 3, blk_cell ((hz.block _ hgl).trans hbox) 4, blk_cell ((hz.block _ hgl).trans hbox) 5, blk_cell ((hz.block _ hgl).trans hbox) 6⟩
  have hkD : Below W0.heap.size W0 W0.drew := Below.drew (Below.refl _ _)
  have HT1 := Lib.hid (rT0 (.slice none 0 0) d [] W0.drew (Rd.nil _ _) hd (by simp))
  have e1 : ([] : List UInt8) ++ encT d = encT d := rfl
  rw [e1] at HT1
  have l1 := encT_len2 d
  have l2 := encT_len2 f
  have l3 := encT_len2 t
  have HT2 : Hid (∀ (v : Value) (Z : World) (B : Nat), Own Z B v (encT d) → Calls Tryz.prog 97 #[v, .string f] Z fun e w' => ∃ v', e = .returned v' ∧ Own w' Z.heap.size v' (encT d ++ encT f) ∧ Below Z.heap.size Z w') :=
    Lib.hid fun v Z B ho => rT0 v f _ Z ho.rd hf (by omega)
  have HT3 : Hid (∀ (v : Value) (Z : World) (B : Nat), Own Z B v (encT d ++ encT f) → Calls Tryz.prog 97 #[v, .string t] Z fun e w' => ∃ v', e = .returned v' ∧ Own w' Z.heap.size v' (encT d ++ encT f ++ encT t) ∧ Below Z.heap.size Z w') :=
    Lib.hid fun v Z B ho => rT0 v t _ Z ho.rd ht (by simp; omega)
  have HB : Hid (∀ (v u : Value) (Z : World) (B C : Nat), Own Z B v (encT d ++ encT f ++ encT t) → Own Z C u (be x.nat 32) → Calls Tryz.prog 109 #[v, u] Z fun e w' => ∃ v', e = .returned v' ∧ Own w' Z.heap.size v' (encT d ++ encT f ++ encT t ++ encB (be x.nat 32)) ∧ Below Z.heap.size Z w') :=
    Lib.hid fun v u Z B C ho hu => rB0 v u _ _ Z ho.rd hu.rd (by simp; omega)
  have HL := Lib.hid (fun W : World => rbytes_any x W hv)
  unfold U4.val U4.cells at HL
  generalize encT d ++ encT f ++ encT t ++ encB (be x.nat 32) = L4 at *
  generalize encT d ++ encT f ++ encT t = L3 at *
  generalize encT d ++ encT f = L2 at *
  generalize encT d = L1 at *
  generalize be x.nat 32 = LX at *
  clear hbox e1 l1 l2 l3 hv hd hf ht
  go_enter Tryz.func42, Tryz.ntmps42
  go_wp2_with fail
  try rw [hW0]
  clear hW0
  try rw [hgg]
  go_region_held_law (fun Z => Z.cell? ⟨g0, 0, none⟩ = some (.string d) ∧ Z.cell? ⟨g0, 1, none⟩ = some (.string f) ∧ Z.cell? ⟨g0, 2, none⟩ = some (.string t) ∧ Z.cell? ⟨g0, 3, none⟩ = some (.int .u64 (x.a : Int)) ∧ Z.cell? ⟨g0, 4, none⟩ = some (.int .u64 (x.b : Int)) ∧ Z.cell? ⟨g0, 5, none⟩ = some (.int .u64 (x.c : Int)) ∧ Z.cell? ⟨g0, 6, none⟩ = some (.int .u64 (x.d : Int)))
    (with_reducible first | exact HC.out _ hk5 | exact HC.out _ hk4 | exact HC.out _ hk3 | exact HC.out _ hk2 | exact HC.out _ hk1 | exact HC.out _ hkD)
    ((first
      | (go_at_call 97; first
          | (refine (HT3.out _ _ _ ho2).mono ?_; rintro e w3 ⟨v3, rfl, ho3, hb3⟩; have hk3 := below_chain hk2 hk2.size hb3)
          | (refine (HT2.out _ _ _ ho1).mono ?_; rintro e w2 ⟨v2, rfl, ho2, hb2⟩; have hk2 := below_chain hk1 hk1.size hb2)
          | (refine HT1.out.mono ?_; rintro e w1 ⟨v1, rfl, ho1, hb1⟩; have hk1 := below_chain hkD hkD.size hb1))
      | (go_at_call 110; have hq3 := hk3; refine (HL.out _).mono ?_; rintro e w4 ⟨v4, rfl, ho4, hb4⟩; have hk4 := below_chain hk3 hk3.size hb4)
      | (go_at_call 109; refine (HB.out _ _ _ _ _ (Own.below ho3 hb4) ho4).mono ?_; rintro e w5 ⟨v5, rfl, ho5, hb5⟩; have hk5 := below_chain hk4 hk4.size hb5)))
  all_goals
    obtain ⟨A5, c5, rfl⟩ := ho5.form
    go_wp2_with fail
    subst hgg
    have hs4 := Nat.le_trans hs0 hk4.size
    go_ret
    exact ⟨_, rfl, ho5.more hs4, below_chain ha0 ha0.size (hk5)⟩
theorem readLim_limB (v : LimV) (h : v.ok) : readLim (limB v) = some v := by
  obtain ⟨q, wn, sn, u⟩ := v
  obtain ⟨o1, o2, o3, o4⟩ := h
  dsimp only at *
  unfold readLim limB
  dsimp only
  rw [List.append_assoc, List.append_assoc, rB_enc]
  dsimp only
  rw [rN_enc _ _ o3]
  dsimp only
  rw [rN_enc _ _ o4]
  dsimp only
  have e : rB (encB (be u.nat 32)) 0 = (be u.nat 32, [], 0) := by
    have := rB_enc (be u.nat 32) []
    rw [List.append_nil, List.take_of_length_le (by simp [be_length])] at this
    exact this
  rw [e, List.take_of_length_le (by simp [be_length])]
  dsimp only
  rw [fromU_be o1, fromU_be o2, if_pos ⟨rfl, rfl, rfl⟩]
def kChan1 : ByteArray := ⟨#[99, 104, 97, 110, 45, 49]⟩
theorem lim_here (v : LimV) (h : v.ok) : getLim (setLim [] kChan0 kAtom v) kChan0 kAtom = some v := by
  unfold getLim setLim
  rw [if_pos (by decide +kernel), getL_putL, if_pos rfl]
  exact readLim_limB v h
theorem lim_there (v : LimV) : getLim (setLim [] kChan0 kAtom v) kChan1 kAtom = none := by
  unfold getLim setLim
  have hne : ¬ kLim kChan1 kAtom = kLim kChan0 kAtom := by decide +kernel
  rw [if_pos (by decide +kernel), getL_putL, if_neg hne]
  rfl
end Go.Proofs.YtlkkjnacolmmpaaGreatDoor
namespace Go.Proofs.YtlkkjnacolmmpaaGreatDoor
set_option maxRecDepth 100000
open Go Go.RowKit
set_option linter.unusedVariables false

set_option maxHeartbeats 32000000 in
theorem tdata_law (w : World) (d f t : ByteArray) (x : U4) (hx : x.ok) (hd : d.size ≤ 10000000) (hf : f.size ≤ 10000000) (ht : t.size ≤ 10000000) (vb : Value) (l : List UInt8) (hr : Rd w w.heap.size vb l) (hl : l.length ≤ 10000000)
    (q : U4) (wn sn : Nat) (u : U4) (hlv : (⟨q, wn, sn, u⟩ : LimV).ok) :
    Calls Tryz.prog 6 #[.agg #[.string d, .string f, .string t, .int .u64 (x.a : Int), .int .u64 (x.b : Int), .int .u64 (x.c : Int), .int .u64 (x.d : Int)], vb, .agg #[.int .u64 (q.a : Int), .int .u64 (q.b : Int), .int .u64 (q.c : Int), .int .u64 (q.d : Int), .int .u64 (wn : Int), .int .u64 (sn : Int), .int .u64 (u.a : Int), .int .u64 (u.b : Int), .int .u64 (u.c : Int), .int .u64 (u.d : Int)]] w fun e w' => e = .returned (.bool true) ∧ Below w.heap.size w w' := by
  have HOK := Lib.hid hlv
  have h1 := heap_alloc_new w (.cells #[.string d, .string f, .string t, .int .u64 (x.a : Int), .int .u64 (x.b : Int), .int .u64 (x.c : Int), .int .u64 (x.d : Int)] 76)
  have b1 : Below w.heap.size w (w.alloc (.cells #[.string d, .string f, .string t, .int .u64 (x.a : Int), .int .u64 (x.b : Int), .int .u64 (x.c : Int), .int .u64 (x.d : Int)] 76)) := (Below.refl _ _).alloc (Nat.le_refl _) _
  have h2 := heap_alloc_new (w.alloc (.cells #[.string d, .string f, .string t, .int .u64 (x.a : Int), .int .u64 (x.b : Int), .int .u64 (x.c : Int), .int .u64 (x.d : Int)] 76)) (.cells #[.int .u64 (q.a : Int), .int .u64 (q.b : Int), .int .u64 (q.c : Int), .int .u64 (q.d : Int), .int .u64 (wn : Int), .int .u64 (sn : Int), .int .u64 (u.a : Int), .int .u64 (u.b : Int), .int .u64 (u.c : Int), .int .u64 (u.d : Int)] 78)
  have b2 := b1.alloc b1.size (.cells #[.int .u64 (q.a : Int), .int .u64 (q.b : Int), .int .u64 (q.c : Int), .int .u64 (q.d : Int), .int .u64 (wn : Int), .int .u64 (sn : Int), .int .u64 (u.a : Int), .int .u64 (u.b : Int), .int .u64 (u.c : Int), .int .u64 (u.d : Int)] 78)
  replace h1 := (Below.heap_alloc (w.alloc (.cells #[.string d, .string f, .string t, .int .u64 (x.a : Int), .int .u64 (x.b : Int), .int .u64 (x.c : Int), .int .u64 (x.d : Int)] 76)) (.cells #[.int .u64 (q.a : Int), .int .u64 (q.b : Int), .int .u64 (q.c : Int), .int .u64 (q.d : Int), .int .u64 (wn : Int), .int .u64 (sn : Int), .int .u64 (u.a : Int), .int .u64 (u.b : Int), .int .u64 (u.c : Int), .int .u64 (u.d : Int)] 78) _ (blk_lt h1)).trans h1
  have hrA := fun Z (hz : Below w.heap.size w Z) => (Kept.of_below hz).rd hr
  have HRA := Lib.hid hrA
  have HP1 := Lib.hid (fun (Z : World) (hz : Below w.heap.size w Z) => tparse_any vb l Z (hrA Z hz) (by omega))
  have HP2 := Lib.hid (fun (Z : World) (hz : Below w.heap.size w Z) => rtparse_any vb l Z (hrA Z hz) (by omega))
  have HNW : Hid (∀ W : World, _) := Lib.hid (fun W : World => new_any W (.slice none 0 0) [] ⟨none, 0, rfl, Nat.le_refl _, Nat.zero_le _, fun h => absurd h (by simp)⟩ (by simp))
  have HFX := Lib.hid (fun W : World => tfixed_any W)
  have HBD := Lib.hid (fun W : World => tbytes_any ⟨d, f, t, x⟩ W hx (by show d.size ≤ _; unfold maxLen; omega) (by show f.size ≤ _; unfold maxLen; omega) (by show t.size ≤ _; unfold maxLen; omega))
  have HRB := Lib.hid (fun W : World => rtbytes_any ⟨d, f, t, x⟩ W hx (by show d.size ≤ _; unfold maxLen; omega) (by show f.size ≤ _; unfold maxLen; omega) (by show t.size ≤ _; unfold maxLen; omega))
  obtain ⟨SD, hSD⟩ : ∃ S : ByteArray, S = ⟨(dataB ⟨d, f, t, x⟩).toArray⟩ := ⟨_, rfl⟩
  have HCD : Hid (∀ (Z : World) (v : Value), Rd Z Z.heap.size v (dataB ⟨d, f, t, x⟩) → (convert 38 9 v).run Tryz.prog Z = .ok (.string SD) Z) := Lib.hid fun Z v h => by rw [hSD]; exact run_str Tryz.underlying38 Tryz.underlying5 Tryz.isString h
  obtain ⟨SL, hSL⟩ : ∃ S : ByteArray, S = ⟨l.toArray⟩ := ⟨_, rfl⟩
  have HCL : Hid (∀ (Z : World) (v : Value), Rd Z Z.heap.size v l → (convert 38 9 v).run Tryz.prog Z = .ok (.string SL) Z) := Lib.hid fun Z v h => by rw [hSL]; exact run_str Tryz.underlying38 Tryz.underlying5 Tryz.isString h
  have hfm := @readD_form l
  obtain ⟨Ab, cb, rfl⟩ := hr.form
  unfold parseV at HP1 HP2
  unfold DataV.val at HBD HRB
  dsimp only at HBD HRB
  generalize dataB ⟨d, f, t, x⟩ = LD at *
  clear hSD hSL hrA hr hlv hx hd hf ht
  cases hrd : readD l with
  | none =>
    rw [hrd] at HP1 HP2
    clear hrd hfm
    dsimp only at HP1 HP2
    unfold DataV.none DataV.val U4.zero at HP1 HP2
    dsimp only at HP1 HP2
    have HNE : Hid (∀ W : World, (binOp .neq 81 (.agg #[.string ⟨#[]⟩, .string ⟨#[]⟩, .string ⟨#[]⟩, .int .u64 0, .int .u64 0, .int .u64 0, .int .u64 0]) (.agg #[.string ⟨#[]⟩, .string ⟨#[]⟩, .string ⟨#[]⟩, .int .u64 0, .int .u64 0, .int .u64 0, .int .u64 0])).run Tryz.prog W = .ok (.bool false) W) := Lib.hid (fun W : World => rdata_neq _ _ _ ⟨0, 0, 0, 0⟩ W)
    try unfold U4.val U4.cells at *
    rw [show (w.alloc (.cells #[.string d, .string f, .string t, .int .u64 (x.a : Int), .int .u64 (x.b : Int), .int .u64 (x.c : Int), .int .u64 (x.d : Int)] 76)).heap.size = w.heap.size + 1 by simp] at h2
    obtain ⟨nb, hnb⟩ : ∃ n, n = l.length := ⟨_, rfl⟩
    rw [← hnb] at HP1 HP2 HRA ⊢
    clear hnb
    go_enter Tryz.func6, Tryz.ntmps6
    go_wp2_with fail
    generalize (w.alloc (.cells #[.string d, .string f, .string t, .int .u64 (x.a : Int), .int .u64 (x.b : Int), .int .u64 (x.c : Int), .int .u64 (x.d : Int)] 76)).alloc (.cells #[.int .u64 (q.a : Int), .int .u64 (q.b : Int), .int .u64 (q.c : Int), .int .u64 (q.d : Int), .int .u64 (wn : Int), .int .u64 (sn : Int), .int .u64 (u.a : Int), .int .u64 (u.b : Int), .int .u64 (u.c : Int), .int .u64 (u.d : Int)] 78) = w0 at *
    refine (HP1.out _ b2).mono ?_
    rintro e w1 ⟨rfl, hb1⟩
    have q1 := below_chain b2 b2.size hb1
    have h1a := (hb1.block _ (blk_lt h1)).trans h1
    have h2a := (hb1.block _ (blk_lt h2)).trans h2
    have q1' := q1.alloc q1.size (.cells #[.string ⟨#[]⟩, .string ⟨#[]⟩, .string ⟨#[]⟩, .int .u64 0, .int .u64 0, .int .u64 0, .int .u64 0] 76)
    have h1b := (Below.heap_alloc w1 (.cells #[.string ⟨#[]⟩, .string ⟨#[]⟩, .string ⟨#[]⟩, .int .u64 0, .int .u64 0, .int .u64 0, .int .u64 0] 76) _ (blk_lt h1a)).trans h1a
    have h2b := (Below.heap_alloc w1 (.cells #[.string ⟨#[]⟩, .string ⟨#[]⟩, .string ⟨#[]⟩, .int .u64 0, .int .u64 0, .int .u64 0, .int .u64 0] 76) _ (blk_lt h2a)).trans h2a
    have h3 := heap_alloc_new w1 (.cells #[.string ⟨#[]⟩, .string ⟨#[]⟩, .string ⟨#[]⟩, .int .u64 0, .int .u64 0, .int .u64 0, .int .u64 0] 76)
    clear HP1 hb1 h1 h2 h1a h2a q1 b1 b2
    go_wp2_with fail
    generalize w1.alloc (.cells #[.string ⟨#[]⟩, .string ⟨#[]⟩, .string ⟨#[]⟩, .int .u64 0, .int .u64 0, .int .u64 0, .int .u64 0] 76) = w2 at *
    generalize w1.heap.size = g7 at *
    refine (HP2.out _ q1').mono ?_
    rintro e w3 ⟨rfl, hb3⟩
    have q3 := below_chain q1' q1'.size hb3
    have h1c := (hb3.block _ (blk_lt h1b)).trans h1b
    have h2c := (hb3.block _ (blk_lt h2b)).trans h2b
    have h3c := (hb3.block _ (blk_lt h3)).trans h3
    have q3' := q3.alloc q3.size (.cells #[.string ⟨#[]⟩, .string ⟨#[]⟩, .string ⟨#[]⟩, .int .u64 0, .int .u64 0, .int .u64 0, .int .u64 0] 81)
    have h1d := (Below.heap_alloc w3 (.cells #[.string ⟨#[]⟩, .string ⟨#[]⟩, .string ⟨#[]⟩, .int .u64 0, .int .u64 0, .int .u64 0, .int .u64 0] 81) _ (blk_lt h1c)).trans h1c
    have h2d := (Below.heap_alloc w3 (.cells #[.string ⟨#[]⟩, .string ⟨#[]⟩, .string ⟨#[]⟩, .int .u64 0, .int .u64 0, .int .u64 0, .int .u64 0] 81) _ (blk_lt h2c)).trans h2c
    have h3d := (Below.heap_alloc w3 (.cells #[.string ⟨#[]⟩, .string ⟨#[]⟩, .string ⟨#[]⟩, .int .u64 0, .int .u64 0, .int .u64 0, .int .u64 0] 81) _ (blk_lt h3c)).trans h3c
    have h4d := heap_alloc_new w3 (.cells #[.string ⟨#[]⟩, .string ⟨#[]⟩, .string ⟨#[]⟩, .int .u64 0, .int .u64 0, .int .u64 0, .int .u64 0] 81)
    clear HP2 hb3 h1b h2b h3 h1c h2c h3c q3 q1'
    go_wp2_with fail
    generalize w3.alloc (.cells #[.string ⟨#[]⟩, .string ⟨#[]⟩, .string ⟨#[]⟩, .int .u64 0, .int .u64 0, .int .u64 0, .int .u64 0] 81) = w5 at *
    generalize w3.heap.size = g9 at *
    refine (HNW.out _).mono ?_
    rintro e w4 ⟨h1' | ⟨-, y, rfl, hyb, hym, hyn, hly, hri, hp1⟩, hb4⟩
    · exact absurd h1'.1 (by decide)
    have hq4 := below_chain q3' q3'.size hb4
    have h1e := (hb4.block _ (blk_lt h1d)).trans h1d
    have h2e := (hb4.block _ (blk_lt h2d)).trans h2d
    have h3e := (hb4.block _ (blk_lt h3d)).trans h3d
    have h4e := (hb4.block _ (blk_lt h4d)).trans h4d
    have hA1 := Acc.made hp1 hly hri (by simp)
    have HA := Lib.hid (fun (Z : World) (hz : Below w4.heap.size w4 Z) => hA1.up hz)
    obtain ⟨yb, ym, yn, yf⟩ := y
    dsimp only at hyb hym hyn ⊢
    have HYN := Lib.hid (show yn = 0 from hyn)
    have hwym : w.heap.size ≤ ym := Nat.le_trans q3'.size hym
    have HYB : Hid (∀ (Z : World) (R : List Pr) (k : Nat), Acc w4 ⟨yb, ym, yn, yf⟩ R k Z → Below w.heap.size w Z) := Lib.hid fun Z R k h => hq4.trans (h.below hwym hq4.size)
    have HRD : Hid (∀ Z, Below w4.heap.size w4 Z → Rd Z Z.heap.size (.slice Ab nb cb) l) := Lib.hid fun Z hz => HRA.out Z (below_chain hq4 hq4.size hz)
    have HXC : Hid (∀ Z, Below w4.heap.size w4 Z → Z.cell? ⟨g7, 0, none⟩ = some (.string ⟨#[]⟩) ∧ Z.cell? ⟨g7, 1, none⟩ = some (.string ⟨#[]⟩) ∧ Z.cell? ⟨g7, 2, none⟩ = some (.string ⟨#[]⟩) ∧ Z.cell? ⟨g7, 3, none⟩ = some (.int .u64 0) ∧ Z.cell? ⟨g7, 4, none⟩ = some (.int .u64 0) ∧ Z.cell? ⟨g7, 5, none⟩ = some (.int .u64 0) ∧ Z.cell? ⟨g7, 6, none⟩ = some (.int .u64 0)) := Lib.hid fun Z hz => ⟨blk_cell ((hz.block _ (blk_lt h3e)).trans h3e) 0, blk_cell ((hz.block _ (blk_lt h3e)).trans h3e) 1, blk_cell ((hz.block _ (blk_lt h3e)).trans h3e) 2, blk_cell ((hz.block _ (blk_lt h3e)).trans h3e) 3, blk_cell ((hz.block _ (blk_lt h3e)).trans h3e) 4, blk_cell ((hz.block _ (blk_lt h3e)).trans h3e) 5, blk_cell ((hz.block _ (blk_lt h3e)).trans h3e) 6⟩
    have HYC : Hid (∀ Z, Below w4.heap.size w4 Z → Z.cell? ⟨g9, 0, none⟩ = some (.string ⟨#[]⟩) ∧ Z.cell? ⟨g9, 1, none⟩ = some (.string ⟨#[]⟩) ∧ Z.cell? ⟨g9, 2, none⟩ = some (.string ⟨#[]⟩) ∧ Z.cell? ⟨g9, 3, none⟩ = some (.int .u64 0) ∧ Z.cell? ⟨g9, 4, none⟩ = some (.int .u64 0) ∧ Z.cell? ⟨g9, 5, none⟩ = some (.int .u64 0) ∧ Z.cell? ⟨g9, 6, none⟩ = some (.int .u64 0)) := Lib.hid fun Z hz => ⟨blk_cell ((hz.block _ (blk_lt h4e)).trans h4e) 0, blk_cell ((hz.block _ (blk_lt h4e)).trans h4e) 1, blk_cell ((hz.block _ (blk_lt h4e)).trans h4e) 2, blk_cell ((hz.block _ (blk_lt h4e)).trans h4e) 3, blk_cell ((hz.block _ (blk_lt h4e)).trans h4e) 4, blk_cell ((hz.block _ (blk_lt h4e)).trans h4e) 5, blk_cell ((hz.block _ (blk_lt h4e)).trans h4e) 6⟩
    have HZC : Hid (∀ Z, Below w4.heap.size w4 Z → Z.cell? ⟨w.heap.size, 0, none⟩ = some (.string d) ∧ Z.cell? ⟨w.heap.size, 1, none⟩ = some (.string f) ∧ Z.cell? ⟨w.heap.size, 2, none⟩ = some (.string t) ∧ Z.cell? ⟨w.heap.size, 3, none⟩ = some (.int .u64 (x.a : Int)) ∧ Z.cell? ⟨w.heap.size, 4, none⟩ = some (.int .u64 (x.b : Int)) ∧ Z.cell? ⟨w.heap.size, 5, none⟩ = some (.int .u64 (x.c : Int)) ∧ Z.cell? ⟨w.heap.size, 6, none⟩ = some (.int .u64 (x.d : Int))) := Lib.hid fun Z hz => ⟨blk_cell ((hz.block _ (blk_lt h1e)).trans h1e) 0, blk_cell ((hz.block _ (blk_lt h1e)).trans h1e) 1, blk_cell ((hz.block _ (blk_lt h1e)).trans h1e) 2, blk_cell ((hz.block _ (blk_lt h1e)).trans h1e) 3, blk_cell ((hz.block _ (blk_lt h1e)).trans h1e) 4, blk_cell ((hz.block _ (blk_lt h1e)).trans h1e) 5, blk_cell ((hz.block _ (blk_lt h1e)).trans h1e) 6⟩
    have HLC : Hid (∀ Z, Below w4.heap.size w4 Z → Z.cell? ⟨w.heap.size + 1, 0, none⟩ = some (.int .u64 (q.a : Int)) ∧ Z.cell? ⟨w.heap.size + 1, 1, none⟩ = some (.int .u64 (q.b : Int)) ∧ Z.cell? ⟨w.heap.size + 1, 2, none⟩ = some (.int .u64 (q.c : Int)) ∧ Z.cell? ⟨w.heap.size + 1, 3, none⟩ = some (.int .u64 (q.d : Int)) ∧ Z.cell? ⟨w.heap.size + 1, 4, none⟩ = some (.int .u64 (wn : Int)) ∧ Z.cell? ⟨w.heap.size + 1, 5, none⟩ = some (.int .u64 (sn : Int)) ∧ Z.cell? ⟨w.heap.size + 1, 6, none⟩ = some (.int .u64 (u.a : Int)) ∧ Z.cell? ⟨w.heap.size + 1, 7, none⟩ = some (.int .u64 (u.b : Int)) ∧ Z.cell? ⟨w.heap.size + 1, 8, none⟩ = some (.int .u64 (u.c : Int)) ∧ Z.cell? ⟨w.heap.size + 1, 9, none⟩ = some (.int .u64 (u.d : Int))) := Lib.hid fun Z hz => ⟨blk_cell ((hz.block _ (blk_lt h2e)).trans h2e) 0, blk_cell ((hz.block _ (blk_lt h2e)).trans h2e) 1, blk_cell ((hz.block _ (blk_lt h2e)).trans h2e) 2, blk_cell ((hz.block _ (blk_lt h2e)).trans h2e) 3, blk_cell ((hz.block _ (blk_lt h2e)).trans h2e) 4, blk_cell ((hz.block _ (blk_lt h2e)).trans h2e) 5, blk_cell ((hz.block _ (blk_lt h2e)).trans h2e) 6, blk_cell ((hz.block _ (blk_lt h2e)).trans h2e) 7, blk_cell ((hz.block _ (blk_lt h2e)).trans h2e) 8, blk_cell ((hz.block _ (blk_lt h2e)).trans h2e) 9⟩
    have hbd : Below w4.heap.size w4 w4.drew := (Below.refl _ _).drew
    clear h1d h2d h3d h4d h1e h2e h3e h4e hA1 hyb hym hyn hly hri hp1 hb4 hwym q3' HNW HRA
    generalize w.heap.size + 1 = gl at *
    go_wp2_with fail
    refine wp_region_held_drew (S := BelS w4.drew) (by kernel_rfl) (BelS.refl _) (fun hS0 => ?_)
    refine wpAnyH_ready (rs := [0]) (by kernel_rfl) (by simp) (AllReadyH.cons rfl (fun K hK => ?_) AllReadyH.nil)
    have DA := Lib.hid (HFX.out w4.drew)
    go_simp
    go_wp2_with ((go_at_call 40; (with_reducible refine DA.out.mono ?_); rintro e wA ⟨rfl, hbA⟩))
    have hqA := below_chain hbd hbd.size hbA
    refine hK.out _ _ hbA (fun _ => ?_)
    clear hK K
    refine wpAnyH_stronger (S' := BelS wA) (fun W h => below_chain hbA hbA.size h) _ _ _ _ ?_
    have hSA : BelS wA wA := BelS.refl wA
    refine wpAnyH_take (i := 1) (oi := _) (v := ?_) rfl (by kernel_rfl) (by kernel_rfl) (by kernel_rfl) (fun _ _ _ h => h) (Or.inl ⟨by rfl, ?_⟩) hSA ?_
    rotate_left
    · intro W hSW
      try go_simp
      all_goals with_reducible rfl
    simp only [Act.put, List.setIfInBounds_toArray, List.set_cons_zero, List.set_cons_succ, List.getElem_toArray, List.getElem_cons_zero, List.getElem_cons_succ]
    refine wpAnyH_take (i := 2) (oi := _) (v := ?_) rfl (by kernel_rfl) (by kernel_rfl) (by kernel_rfl) (fun _ _ _ h => h) (Or.inl ⟨by rfl, ?_⟩) hSA ?_
    rotate_left
    · intro W hSW
      try go_simp
      all_goals with_reducible rfl
    simp only [Act.put, List.setIfInBounds_toArray, List.set_cons_zero, List.set_cons_succ, List.getElem_toArray, List.getElem_cons_zero, List.getElem_cons_succ]
    refine wpAnyH_take (i := 3) (oi := _) (v := ?_) rfl (by kernel_rfl) (by kernel_rfl) (by kernel_rfl) (fun _ _ _ h => h) (Or.inl ⟨by rfl, ?_⟩) hSA ?_
    rotate_left
    · intro W hSW
      try go_simp
      all_goals with_reducible rfl
    simp only [Act.put, List.setIfInBounds_toArray, List.set_cons_zero, List.set_cons_succ, List.getElem_toArray, List.getElem_cons_zero, List.getElem_cons_succ]
    refine wpAnyH_take (i := 4) (oi := _) (v := ?_) rfl (by kernel_rfl) (by kernel_rfl) (by kernel_rfl) (fun _ _ _ h => h) (Or.inl ⟨by rfl, ?_⟩) hSA ?_
    rotate_left
    · intro W hSW
      try go_simp
      all_goals with_reducible rfl
    simp only [Act.put, List.setIfInBounds_toArray, List.set_cons_zero, List.set_cons_succ, List.getElem_toArray, List.getElem_cons_zero, List.getElem_cons_succ]
    refine wpAnyH_take (i := 5) (oi := _) (v := ?_) rfl (by kernel_rfl) (by kernel_rfl) (by kernel_rfl) (fun _ _ _ h => h) (Or.inl ⟨by rfl, ?_⟩) hSA ?_
    rotate_left
    · intro W hSW
      try go_simp
      all_goals with_reducible rfl
    simp only [Act.put, List.setIfInBounds_toArray, List.set_cons_zero, List.set_cons_succ, List.getElem_toArray, List.getElem_cons_zero, List.getElem_cons_succ]
    refine wpAnyH_take (i := 6) (oi := _) (v := ?_) rfl (by kernel_rfl) (by kernel_rfl) (by kernel_rfl) (fun _ _ _ h => h) (Or.inl ⟨by rfl, ?_⟩) hSA ?_
    rotate_left
    · intro W hSW
      try go_simp
      all_goals with_reducible rfl
    simp only [Act.put, List.setIfInBounds_toArray, List.set_cons_zero, List.set_cons_succ, List.getElem_toArray, List.getElem_cons_zero, List.getElem_cons_succ]
    refine wpAnyH_take (i := 7) (oi := _) (v := ?_) rfl (by kernel_rfl) (by kernel_rfl) (by kernel_rfl) (fun _ _ _ h => h) (Or.inl ⟨by rfl, ?_⟩) hSA ?_
    rotate_left
    · intro W hSW
      try go_simp
      all_goals with_reducible rfl
    simp only [Act.put, List.setIfInBounds_toArray, List.set_cons_zero, List.set_cons_succ, List.getElem_toArray, List.getElem_cons_zero, List.getElem_cons_succ]
    refine wpAnyH_take (i := 8) (oi := _) (v := ?_) rfl (by kernel_rfl) (by kernel_rfl) (by kernel_rfl) (fun _ _ _ h => h) (Or.inl ⟨by rfl, ?_⟩) hSA ?_
    rotate_left
    · intro W hSW
      try go_simp
      all_goals with_reducible rfl
    simp only [Act.put, List.setIfInBounds_toArray, List.set_cons_zero, List.set_cons_succ, List.getElem_toArray, List.getElem_cons_zero, List.getElem_cons_succ]
    refine wpAnyH_take (i := 9) (oi := _) (v := ?_) rfl (by kernel_rfl) (by kernel_rfl) (by kernel_rfl) (fun _ _ _ h => h) (Or.inl ⟨by rfl, ?_⟩) hSA ?_
    rotate_left
    · intro W hSW
      try go_simp
      all_goals with_reducible rfl
    simp only [Act.put, List.setIfInBounds_toArray, List.set_cons_zero, List.set_cons_succ, List.getElem_toArray, List.getElem_cons_zero, List.getElem_cons_succ]
    refine wpAnyH_take (i := 10) (oi := _) (v := ?_) rfl (by kernel_rfl) (by kernel_rfl) (by kernel_rfl) (fun _ _ _ h => h) (Or.inl ⟨by rfl, ?_⟩) hSA ?_
    rotate_left
    · intro W hSW
      try go_simp
      all_goals with_reducible rfl
    simp only [Act.put, List.setIfInBounds_toArray, List.set_cons_zero, List.set_cons_succ, List.getElem_toArray, List.getElem_cons_zero, List.getElem_cons_succ]
    refine wpAnyH_take (i := 11) (oi := _) (v := ?_) rfl (by kernel_rfl) (by kernel_rfl) (by kernel_rfl) (fun _ _ _ h => h) (Or.inl ⟨by rfl, ?_⟩) hSA ?_
    rotate_left
    · intro W hSW
      try go_simp
      all_goals with_reducible rfl
    simp only [Act.put, List.setIfInBounds_toArray, List.set_cons_zero, List.set_cons_succ, List.getElem_toArray, List.getElem_cons_zero, List.getElem_cons_succ]
    refine wpAnyH_take (i := 12) (oi := _) (v := ?_) rfl (by kernel_rfl) (by kernel_rfl) (by kernel_rfl) (fun _ _ _ h => h) (Or.inl ⟨by rfl, ?_⟩) hSA ?_
    rotate_left
    · intro W hSW
      obtain ⟨x0, x1, x2, x3, x4, x5, x6⟩ := HXC.out W (below_chain hqA hqA.size hSW)
      try go_simp
      all_goals with_reducible rfl
    simp only [Act.put, List.setIfInBounds_toArray, List.set_cons_zero, List.set_cons_succ, List.getElem_toArray, List.getElem_cons_zero, List.getElem_cons_succ]
    refine wpAnyH_take (i := 13) (oi := _) (v := ?_) rfl (by kernel_rfl) (by kernel_rfl) (by kernel_rfl) (fun _ _ _ h => h) (Or.inl ⟨by rfl, ?_⟩) hSA ?_
    rotate_left
    · intro W hSW
      obtain ⟨y0, y1, y2, y3, y4, y5, y6⟩ := HYC.out W (below_chain hqA hqA.size hSW)
      try go_simp
      all_goals with_reducible rfl
    simp only [Act.put, List.setIfInBounds_toArray, List.set_cons_zero, List.set_cons_succ, List.getElem_toArray, List.getElem_cons_zero, List.getElem_cons_succ]
    refine wpAnyH_take (i := 14) (oi := _) (v := ?_) rfl (by kernel_rfl) (by kernel_rfl) (by kernel_rfl) (fun _ _ _ h => h) (Or.inl ⟨by rfl, ?_⟩) hSA ?_
    rotate_left
    · intro W hSW
      have ne := HNE.out W
      have e4 : (Op.equalIn 9999 74 (.agg #[.int .u64 0, .int .u64 0, .int .u64 0, .int .u64 0]) (.agg #[.int .u64 0, .int .u64 0, .int .u64 0, .int .u64 0])).run Tryz.prog W = .ok true W := run_equal4' ⟨0, 0, 0, 0⟩ ⟨0, 0, 0, 0⟩ W
      try go_simp
      all_goals with_reducible rfl
    simp only [Act.put, List.setIfInBounds_toArray, List.set_cons_zero, List.set_cons_succ, List.getElem_toArray, List.getElem_cons_zero, List.getElem_cons_succ]
    refine wpAnyH_take (i := 15) (oi := _) (v := ?_) rfl (by kernel_rfl) (by kernel_rfl) (by kernel_rfl) (fun _ _ _ h => h) (Or.inl ⟨by rfl, ?_⟩) hSA ?_
    rotate_left
    · intro W hSW
      try go_simp
      all_goals with_reducible rfl
    simp only [Act.put, List.setIfInBounds_toArray, List.set_cons_zero, List.set_cons_succ, List.getElem_toArray, List.getElem_cons_zero, List.getElem_cons_succ]
    refine wpAnyH_take (i := 16) (oi := _) (v := ?_) rfl (by kernel_rfl) (by kernel_rfl) (by kernel_rfl) (fun _ _ _ h => h) (Or.inl ⟨by rfl, ?_⟩) hSA ?_
    rotate_left
    · intro W hSW
      try go_simp
      all_goals with_reducible rfl
    simp only [Act.put, List.setIfInBounds_toArray, List.set_cons_zero, List.set_cons_succ, List.getElem_toArray, List.getElem_cons_zero, List.getElem_cons_succ]
    refine wpAnyH_take (i := 17) (oi := _) (v := ?_) rfl (by kernel_rfl) (by kernel_rfl) (by kernel_rfl) (fun _ _ _ h => h) (Or.inl ⟨by rfl, ?_⟩) hSA ?_
    rotate_left
    · intro W hSW
      obtain ⟨z0, z1, z2, z3, z4, z5, z6⟩ := HZC.out W (below_chain hqA hqA.size hSW)
      try go_simp
      all_goals with_reducible rfl
    simp only [Act.put, List.setIfInBounds_toArray, List.set_cons_zero, List.set_cons_succ, List.getElem_toArray, List.getElem_cons_zero, List.getElem_cons_succ]
    refine wpAnyH_take (i := 20) (oi := _) (v := ?_) rfl (by kernel_rfl) (by kernel_rfl) (by kernel_rfl) (fun _ _ _ h => h) (Or.inl ⟨by rfl, ?_⟩) hSA ?_
    rotate_left
    · intro W hSW
      obtain ⟨z0, z1, z2, z3, z4, z5, z6⟩ := HZC.out W (below_chain hqA hqA.size hSW)
      try go_simp
      all_goals with_reducible rfl
    simp only [Act.put, List.setIfInBounds_toArray, List.set_cons_zero, List.set_cons_succ, List.getElem_toArray, List.getElem_cons_zero, List.getElem_cons_succ]
    refine wpAnyH_ready (rs := [18]) (by kernel_rfl) (by simp) (AllReadyH.cons rfl (fun K hK => ?_) AllReadyH.nil)
    have DB := Lib.hid (HBD.out wA)
    go_simp
    go_wp2_with ((go_at_call 41; (with_reducible refine DB.out.mono ?_); rintro e wB ⟨vB, rfl, hoB, hbB⟩))
    have hqB := below_chain hqA hqA.size hbB
    refine hK.out _ _ hbB (fun _ => ?_)
    clear hK K
    refine wpAnyH_stronger (S' := BelS wB) (fun W h => below_chain hbB hbB.size h) _ _ _ _ ?_
    have hSB : BelS wB wB := BelS.refl wB
    refine wpAnyH_take (i := 19) (oi := _) (v := ?_) rfl (by kernel_rfl) (by kernel_rfl) (by kernel_rfl) (fun _ _ _ h => h) (Or.inl ⟨by rfl, ?_⟩) hSB ?_
    rotate_left
    · intro W hSW
      have cv := HCD.out W _ (hoB.rd.up (Nat.le_refl _) hSW)
      try go_simp
      all_goals with_reducible rfl
    simp only [Act.put, List.setIfInBounds_toArray, List.set_cons_zero, List.set_cons_succ, List.getElem_toArray, List.getElem_cons_zero, List.getElem_cons_succ]
    refine wpAnyH_ready (rs := [21]) (by kernel_rfl) (by simp) (AllReadyH.cons rfl (fun K hK => ?_) AllReadyH.nil)
    have DC := Lib.hid (HRB.out wB)
    go_simp
    go_wp2_with ((go_at_call 42; (with_reducible refine DC.out.mono ?_); rintro e wC ⟨vC, rfl, hoC, hbC⟩))
    have hqC := below_chain hqB hqB.size hbC
    refine hK.out _ _ hbC (fun _ => ?_)
    clear hK K
    refine wpAnyH_stronger (S' := BelS wC) (fun W h => below_chain hbC hbC.size h) _ _ _ _ ?_
    have hSC : BelS wC wC := BelS.refl wC
    refine wpAnyH_take (i := 22) (oi := _) (v := ?_) rfl (by kernel_rfl) (by kernel_rfl) (by kernel_rfl) (fun _ _ _ h => h) (Or.inl ⟨by rfl, ?_⟩) hSC ?_
    rotate_left
    · intro W hSW
      have cv := HCD.out W _ (hoC.rd.up (Nat.le_refl _) hSW)
      try go_simp
      all_goals with_reducible rfl
    simp only [Act.put, List.setIfInBounds_toArray, List.set_cons_zero, List.set_cons_succ, List.getElem_toArray, List.getElem_cons_zero, List.getElem_cons_succ]
    refine wpAnyH_take (i := 23) (oi := _) (v := ?_) rfl (by kernel_rfl) (by kernel_rfl) (by kernel_rfl) (fun _ _ _ h => h) (Or.inl ⟨by rfl, ?_⟩) hSC ?_
    rotate_left
    · intro W hSW
      try go_simp
      all_goals with_reducible rfl
    simp only [Act.put, List.setIfInBounds_toArray, List.set_cons_zero, List.set_cons_succ, List.getElem_toArray, List.getElem_cons_zero, List.getElem_cons_succ]
    refine wpAnyH_take (i := 24) (oi := _) (v := ?_) rfl (by kernel_rfl) (by kernel_rfl) (by kernel_rfl) (fun _ _ _ h => h) (Or.inl ⟨by rfl, ?_⟩) hSC ?_
    rotate_left
    · intro W hSW
      try go_simp
      all_goals with_reducible rfl
    simp only [Act.put, List.setIfInBounds_toArray, List.set_cons_zero, List.set_cons_succ, List.getElem_toArray, List.getElem_cons_zero, List.getElem_cons_succ]
    refine wpAnyH_take (i := 25) (oi := _) (v := ?_) rfl (by kernel_rfl) (by kernel_rfl) (by kernel_rfl) (fun _ _ _ h => h) (Or.inl ⟨by rfl, ?_⟩) hSC ?_
    rotate_left
    · intro W hSW
      try go_simp
      all_goals with_reducible rfl
    simp only [Act.put, List.setIfInBounds_toArray, List.set_cons_zero, List.set_cons_succ, List.getElem_toArray, List.getElem_cons_zero, List.getElem_cons_succ]
    refine wpAnyH_take (i := 26) (oi := _) (v := ?_) rfl (by kernel_rfl) (by kernel_rfl) (by kernel_rfl) (fun _ _ _ h => h) (Or.inl ⟨by rfl, ?_⟩) hSC ?_
    rotate_left
    · intro W hSW
      try go_simp
      all_goals with_reducible rfl
    simp only [Act.put, List.setIfInBounds_toArray, List.set_cons_zero, List.set_cons_succ, List.getElem_toArray, List.getElem_cons_zero, List.getElem_cons_succ]
    refine wpAnyH_take (i := 27) (oi := _) (v := ?_) rfl (by kernel_rfl) (by kernel_rfl) (by kernel_rfl) (fun _ _ _ h => h) (Or.inl ⟨by rfl, ?_⟩) hSC ?_
    rotate_left
    · intro W hSW
      try go_simp
      all_goals with_reducible rfl
    simp only [Act.put, List.setIfInBounds_toArray, List.set_cons_zero, List.set_cons_succ, List.getElem_toArray, List.getElem_cons_zero, List.getElem_cons_succ]
    refine wpAnyH_take (i := 28) (oi := _) (v := ?_) rfl (by kernel_rfl) (by kernel_rfl) (by kernel_rfl) (fun _ _ _ h => h) (Or.inl ⟨by rfl, ?_⟩) hSC ?_
    rotate_left
    · intro W hSW
      try go_simp
      all_goals with_reducible rfl
    simp only [Act.put, List.setIfInBounds_toArray, List.set_cons_zero, List.set_cons_succ, List.getElem_toArray, List.getElem_cons_zero, List.getElem_cons_succ]
    refine wpAnyH_take (i := 29) (oi := _) (v := undef) rfl (by kernel_rfl) (by kernel_rfl) (by kernel_rfl) (fun _ _ _ h => h) (Or.inr ⟨by rfl, rfl⟩) hSC ?_
    simp only [Act.put, List.setIfInBounds_toArray, List.set_cons_zero, List.set_cons_succ, List.getElem_toArray, List.getElem_cons_zero, List.getElem_cons_succ]
    refine wpAnyH_take (i := 30) (oi := _) (v := undef) rfl (by kernel_rfl) (by kernel_rfl) (by kernel_rfl) (fun _ _ _ h => h) (Or.inr ⟨by rfl, rfl⟩) hSC ?_
    simp only [Act.put, List.setIfInBounds_toArray, List.set_cons_zero, List.set_cons_succ, List.getElem_toArray, List.getElem_cons_zero, List.getElem_cons_succ]
    refine wpAnyH_take (i := 31) (oi := _) (v := undef) rfl (by kernel_rfl) (by kernel_rfl) (by kernel_rfl) (fun _ _ _ h => h) (Or.inr ⟨by rfl, rfl⟩) hSC ?_
    simp only [Act.put, List.setIfInBounds_toArray, List.set_cons_zero, List.set_cons_succ, List.getElem_toArray, List.getElem_cons_zero, List.getElem_cons_succ]
    refine wpAnyH_take (i := 32) (oi := _) (v := undef) rfl (by kernel_rfl) (by kernel_rfl) (by kernel_rfl) (fun _ _ _ h => h) (Or.inr ⟨by rfl, rfl⟩) hSC ?_
    simp only [Act.put, List.setIfInBounds_toArray, List.set_cons_zero, List.set_cons_succ, List.getElem_toArray, List.getElem_cons_zero, List.getElem_cons_succ]
    refine wpAnyH_take (i := 33) (oi := _) (v := undef) rfl (by kernel_rfl) (by kernel_rfl) (by kernel_rfl) (fun _ _ _ h => h) (Or.inr ⟨by rfl, rfl⟩) hSC ?_
    simp only [Act.put, List.setIfInBounds_toArray, List.set_cons_zero, List.set_cons_succ, List.getElem_toArray, List.getElem_cons_zero, List.getElem_cons_succ]
    refine wpAnyH_take (i := 34) (oi := _) (v := undef) rfl (by kernel_rfl) (by kernel_rfl) (by kernel_rfl) (fun _ _ _ h => h) (Or.inr ⟨by rfl, rfl⟩) hSC ?_
    simp only [Act.put, List.setIfInBounds_toArray, List.set_cons_zero, List.set_cons_succ, List.getElem_toArray, List.getElem_cons_zero, List.getElem_cons_succ]
    refine wpAnyH_take (i := 35) (oi := _) (v := ?_) rfl (by kernel_rfl) (by kernel_rfl) (by kernel_rfl) (fun _ _ _ h => h) (Or.inl ⟨by rfl, ?_⟩) hSC ?_
    rotate_left
    · intro W hSW
      try go_simp
      all_goals with_reducible rfl
    simp only [Act.put, List.setIfInBounds_toArray, List.set_cons_zero, List.set_cons_succ, List.getElem_toArray, List.getElem_cons_zero, List.getElem_cons_succ]
    refine wpAnyH_take (i := 36) (oi := _) (v := ?_) rfl (by kernel_rfl) (by kernel_rfl) (by kernel_rfl) (fun _ _ _ h => h) (Or.inl ⟨by rfl, ?_⟩) hSC ?_
    rotate_left
    · intro W hSW
      try go_simp
      all_goals with_reducible rfl
    simp only [Act.put, List.setIfInBounds_toArray, List.set_cons_zero, List.set_cons_succ, List.getElem_toArray, List.getElem_cons_zero, List.getElem_cons_succ]
    refine wpAnyH_done (by kernel_rfl) ?_ _
    have hqe := hqC
    generalize wC = wE at *
    obtain ⟨l0, l1, l2, l3, l4, l5, l6, l7, l8, l9⟩ := HLC.out _ hqe
    have A5 := HA.out _ hqe
    have hq5 := below_chain hq4 hq4.size hqe
    have HS := Lib.hid (tsetlim_any A5 (show yn + 0 < maxLen by have := HYN.out; unfold maxLen; omega) kChan0 kAtom ⟨q, wn, sn, u⟩ HOK.out (by decide +kernel) (by decide +kernel))
    unfold LimV.val at HS
    dsimp only at HS
    go_wp2_with fail
    refine HS.out.mono ?_
    rintro e w6 ⟨rfl, A6, hk6⟩
    have hq6 := HYB.out _ _ _ A6
    have HG1 := Lib.hid (tgetlim_any A6 kChan0 kAtom (by decide +kernel) (by decide +kernel))
    have HG2 := Lib.hid (fun (Z : World) (hz : Below w6.heap.size w6 Z) => tgetlim_any (A6.up hz) kChan1 kAtom (by decide +kernel) (by decide +kernel))
    rw [lim_here _ HOK.out] at HG1
    simp only [lim_there] at HG2
    unfold limV LimV.none LimV.val U4.zero at HG1 HG2
    dsimp only at HG1 HG2
    have HL6 : Hid (∀ Z, Below w6.heap.size w6 Z → Z.cell? ⟨gl, 0, none⟩ = some (.int .u64 (q.a : Int)) ∧ Z.cell? ⟨gl, 1, none⟩ = some (.int .u64 (q.b : Int)) ∧ Z.cell? ⟨gl, 2, none⟩ = some (.int .u64 (q.c : Int)) ∧ Z.cell? ⟨gl, 3, none⟩ = some (.int .u64 (q.d : Int)) ∧ Z.cell? ⟨gl, 4, none⟩ = some (.int .u64 (wn : Int)) ∧ Z.cell? ⟨gl, 5, none⟩ = some (.int .u64 (sn : Int)) ∧ Z.cell? ⟨gl, 6, none⟩ = some (.int .u64 (u.a : Int)) ∧ Z.cell? ⟨gl, 7, none⟩ = some (.int .u64 (u.b : Int)) ∧ Z.cell? ⟨gl, 8, none⟩ = some (.int .u64 (u.c : Int)) ∧ Z.cell? ⟨gl, 9, none⟩ = some (.int .u64 (u.d : Int))) := Lib.hid fun Z hz => by
      obtain ⟨l0, l1, l2, l3, l4, l5, l6, l7, l8, l9⟩ := HLC.out _ hqe
      have hk := hk6.trans (Kept.of_below hz)
      exact ⟨hk.cell l0, hk.cell l1, hk.cell l2, hk.cell l3, hk.cell l4, hk.cell l5, hk.cell l6, hk.cell l7, hk.cell l8, hk.cell l9⟩
    clear HS l0 l1 l2 l3 l4 l5 l6 l7 l8 l9 A5 A6 hk6 hqe hq5
    go_wp2_with fail
    refine HG1.out.mono ?_
    rintro e w7 ⟨rfl, hb7⟩
    have hb8 := hb7.alloc hb7.size (.cells #[.int .u64 (q.a : Int), .int .u64 (q.b : Int), .int .u64 (q.c : Int), .int .u64 (q.d : Int), .int .u64 (wn : Int), .int .u64 (sn : Int), .int .u64 (u.a : Int), .int .u64 (u.b : Int), .int .u64 (u.c : Int), .int .u64 (u.d : Int)] 78)
    have k8 := heap_alloc_new w7 (.cells #[.int .u64 (q.a : Int), .int .u64 (q.b : Int), .int .u64 (q.c : Int), .int .u64 (q.d : Int), .int .u64 (wn : Int), .int .u64 (sn : Int), .int .u64 (u.a : Int), .int .u64 (u.b : Int), .int .u64 (u.c : Int), .int .u64 (u.d : Int)] 78)
    clear HG1 hb7
    go_wp2_with fail
    generalize w7.alloc (.cells #[.int .u64 (q.a : Int), .int .u64 (q.b : Int), .int .u64 (q.c : Int), .int .u64 (q.d : Int), .int .u64 (wn : Int), .int .u64 (sn : Int), .int .u64 (u.a : Int), .int .u64 (u.b : Int), .int .u64 (u.c : Int), .int .u64 (u.d : Int)] 78) = w8 at *
    generalize w7.heap.size = g8 at *
    refine (HG2.out _ hb8).mono ?_
    rintro e w9 ⟨rfl, hb9⟩
    have hb10 := (below_chain hb8 hb8.size hb9).alloc (Nat.le_trans hb8.size hb9.size) (.cells #[.int .u64 0, .int .u64 0, .int .u64 0, .int .u64 0, .int .u64 0, .int .u64 0, .int .u64 0, .int .u64 0, .int .u64 0, .int .u64 0] 78)
    have k9 := (hb9.block _ (blk_lt k8)).trans k8
    replace k9 := (Below.heap_alloc w9 (.cells #[.int .u64 0, .int .u64 0, .int .u64 0, .int .u64 0, .int .u64 0, .int .u64 0, .int .u64 0, .int .u64 0, .int .u64 0, .int .u64 0] 78) _ (blk_lt k9)).trans k9
    have heq := fun W : World => tlim_eql q wn sn u W
    obtain ⟨l0, l1, l2, l3, l4, l5, l6, l7, l8, l9⟩ := HL6.out _ hb10
    have m0 := blk_cell k9 0
    have m1 := blk_cell k9 1
    have m2 := blk_cell k9 2
    have m3 := blk_cell k9 3
    have m4 := blk_cell k9 4
    have m5 := blk_cell k9 5
    have m6 := blk_cell k9 6
    have m7 := blk_cell k9 7
    have m8 := blk_cell k9 8
    have m9 := blk_cell k9 9
    have hfin := below_chain hq6 hq6.size hb10
    clear HG2 hb8 hb9 hb10 k8 k9 HL6
    go_wp2_with fail
    go_ret
    exact ⟨rfl, hfin⟩
  | some kv =>
    rw [hrd] at HP1 HP2
    obtain ⟨hfo, kok, kd1, kf1, kt1⟩ := hfm hrd
    clear hrd hfm
    obtain ⟨kd, kf, kt, kx⟩ := kv
    dsimp only at HP1 HP2 kok kd1 kf1 kt1
    have HBX := Lib.hid (fun W : World => tbytes_any ⟨kd, kf, kt, kx⟩ W kok (by show kd.size ≤ _; unfold maxLen; omega) (by show kf.size ≤ _; unfold maxLen; omega) (by show kt.size ≤ _; unfold maxLen; omega))
    rw [hfo] at HBX
    unfold DataV.val at HP1 HP2 HBX
    dsimp only at HP1 HP2 HBX
    clear hfo kok kd1 kf1 kt1
    have HNE := Lib.hid (fun W : World => rdata_neq kd kf kt kx W)
    try unfold U4.val U4.cells at *
    rw [show (w.alloc (.cells #[.string d, .string f, .string t, .int .u64 (x.a : Int), .int .u64 (x.b : Int), .int .u64 (x.c : Int), .int .u64 (x.d : Int)] 76)).heap.size = w.heap.size + 1 by simp] at h2
    obtain ⟨nb, hnb⟩ : ∃ n, n = l.length := ⟨_, rfl⟩
    rw [← hnb] at HP1 HP2 HRA ⊢
    clear hnb
    go_enter Tryz.func6, Tryz.ntmps6
    go_wp2_with fail
    generalize (w.alloc (.cells #[.string d, .string f, .string t, .int .u64 (x.a : Int), .int .u64 (x.b : Int), .int .u64 (x.c : Int), .int .u64 (x.d : Int)] 76)).alloc (.cells #[.int .u64 (q.a : Int), .int .u64 (q.b : Int), .int .u64 (q.c : Int), .int .u64 (q.d : Int), .int .u64 (wn : Int), .int .u64 (sn : Int), .int .u64 (u.a : Int), .int .u64 (u.b : Int), .int .u64 (u.c : Int), .int .u64 (u.d : Int)] 78) = w0 at *
    refine (HP1.out _ b2).mono ?_
    rintro e w1 ⟨rfl, hb1⟩
    have q1 := below_chain b2 b2.size hb1
    have h1a := (hb1.block _ (blk_lt h1)).trans h1
    have h2a := (hb1.block _ (blk_lt h2)).trans h2
    have q1' := q1.alloc q1.size (.cells #[.string kd, .string kf, .string kt, .int .u64 (kx.a : Int), .int .u64 (kx.b : Int), .int .u64 (kx.c : Int), .int .u64 (kx.d : Int)] 76)
    have h1b := (Below.heap_alloc w1 (.cells #[.string kd, .string kf, .string kt, .int .u64 (kx.a : Int), .int .u64 (kx.b : Int), .int .u64 (kx.c : Int), .int .u64 (kx.d : Int)] 76) _ (blk_lt h1a)).trans h1a
    have h2b := (Below.heap_alloc w1 (.cells #[.string kd, .string kf, .string kt, .int .u64 (kx.a : Int), .int .u64 (kx.b : Int), .int .u64 (kx.c : Int), .int .u64 (kx.d : Int)] 76) _ (blk_lt h2a)).trans h2a
    have h3 := heap_alloc_new w1 (.cells #[.string kd, .string kf, .string kt, .int .u64 (kx.a : Int), .int .u64 (kx.b : Int), .int .u64 (kx.c : Int), .int .u64 (kx.d : Int)] 76)
    clear HP1 hb1 h1 h2 h1a h2a q1 b1 b2
    go_wp2_with fail
    generalize w1.alloc (.cells #[.string kd, .string kf, .string kt, .int .u64 (kx.a : Int), .int .u64 (kx.b : Int), .int .u64 (kx.c : Int), .int .u64 (kx.d : Int)] 76) = w2 at *
    generalize w1.heap.size = g7 at *
    refine (HP2.out _ q1').mono ?_
    rintro e w3 ⟨rfl, hb3⟩
    have q3 := below_chain q1' q1'.size hb3
    have h1c := (hb3.block _ (blk_lt h1b)).trans h1b
    have h2c := (hb3.block _ (blk_lt h2b)).trans h2b
    have h3c := (hb3.block _ (blk_lt h3)).trans h3
    have q3' := q3.alloc q3.size (.cells #[.string kd, .string kf, .string kt, .int .u64 (kx.a : Int), .int .u64 (kx.b : Int), .int .u64 (kx.c : Int), .int .u64 (kx.d : Int)] 81)
    have h1d := (Below.heap_alloc w3 (.cells #[.string kd, .string kf, .string kt, .int .u64 (kx.a : Int), .int .u64 (kx.b : Int), .int .u64 (kx.c : Int), .int .u64 (kx.d : Int)] 81) _ (blk_lt h1c)).trans h1c
    have h2d := (Below.heap_alloc w3 (.cells #[.string kd, .string kf, .string kt, .int .u64 (kx.a : Int), .int .u64 (kx.b : Int), .int .u64 (kx.c : Int), .int .u64 (kx.d : Int)] 81) _ (blk_lt h2c)).trans h2c
    have h3d := (Below.heap_alloc w3 (.cells #[.string kd, .string kf, .string kt, .int .u64 (kx.a : Int), .int .u64 (kx.b : Int), .int .u64 (kx.c : Int), .int .u64 (kx.d : Int)] 81) _ (blk_lt h3c)).trans h3c
    have h4d := heap_alloc_new w3 (.cells #[.string kd, .string kf, .string kt, .int .u64 (kx.a : Int), .int .u64 (kx.b : Int), .int .u64 (kx.c : Int), .int .u64 (kx.d : Int)] 81)
    clear HP2 hb3 h1b h2b h3 h1c h2c h3c q3 q1'
    go_wp2_with fail
    generalize w3.alloc (.cells #[.string kd, .string kf, .string kt, .int .u64 (kx.a : Int), .int .u64 (kx.b : Int), .int .u64 (kx.c : Int), .int .u64 (kx.d : Int)] 81) = w5 at *
    generalize w3.heap.size = g9 at *
    refine (HNW.out _).mono ?_
    rintro e w4 ⟨h1' | ⟨-, y, rfl, hyb, hym, hyn, hly, hri, hp1⟩, hb4⟩
    · exact absurd h1'.1 (by decide)
    have hq4 := below_chain q3' q3'.size hb4
    have h1e := (hb4.block _ (blk_lt h1d)).trans h1d
    have h2e := (hb4.block _ (blk_lt h2d)).trans h2d
    have h3e := (hb4.block _ (blk_lt h3d)).trans h3d
    have h4e := (hb4.block _ (blk_lt h4d)).trans h4d
    have hA1 := Acc.made hp1 hly hri (by simp)
    have HA := Lib.hid (fun (Z : World) (hz : Below w4.heap.size w4 Z) => hA1.up hz)
    obtain ⟨yb, ym, yn, yf⟩ := y
    dsimp only at hyb hym hyn ⊢
    have HYN := Lib.hid (show yn = 0 from hyn)
    have hwym : w.heap.size ≤ ym := Nat.le_trans q3'.size hym
    have HYB : Hid (∀ (Z : World) (R : List Pr) (k : Nat), Acc w4 ⟨yb, ym, yn, yf⟩ R k Z → Below w.heap.size w Z) := Lib.hid fun Z R k h => hq4.trans (h.below hwym hq4.size)
    have HRD : Hid (∀ Z, Below w4.heap.size w4 Z → Rd Z Z.heap.size (.slice Ab nb cb) l) := Lib.hid fun Z hz => HRA.out Z (below_chain hq4 hq4.size hz)
    have HXC : Hid (∀ Z, Below w4.heap.size w4 Z → Z.cell? ⟨g7, 0, none⟩ = some (.string kd) ∧ Z.cell? ⟨g7, 1, none⟩ = some (.string kf) ∧ Z.cell? ⟨g7, 2, none⟩ = some (.string kt) ∧ Z.cell? ⟨g7, 3, none⟩ = some (.int .u64 (kx.a : Int)) ∧ Z.cell? ⟨g7, 4, none⟩ = some (.int .u64 (kx.b : Int)) ∧ Z.cell? ⟨g7, 5, none⟩ = some (.int .u64 (kx.c : Int)) ∧ Z.cell? ⟨g7, 6, none⟩ = some (.int .u64 (kx.d : Int))) := Lib.hid fun Z hz => ⟨blk_cell ((hz.block _ (blk_lt h3e)).trans h3e) 0, blk_cell ((hz.block _ (blk_lt h3e)).trans h3e) 1, blk_cell ((hz.block _ (blk_lt h3e)).trans h3e) 2, blk_cell ((hz.block _ (blk_lt h3e)).trans h3e) 3, blk_cell ((hz.block _ (blk_lt h3e)).trans h3e) 4, blk_cell ((hz.block _ (blk_lt h3e)).trans h3e) 5, blk_cell ((hz.block _ (blk_lt h3e)).trans h3e) 6⟩
    have HYC : Hid (∀ Z, Below w4.heap.size w4 Z → Z.cell? ⟨g9, 0, none⟩ = some (.string kd) ∧ Z.cell? ⟨g9, 1, none⟩ = some (.string kf) ∧ Z.cell? ⟨g9, 2, none⟩ = some (.string kt) ∧ Z.cell? ⟨g9, 3, none⟩ = some (.int .u64 (kx.a : Int)) ∧ Z.cell? ⟨g9, 4, none⟩ = some (.int .u64 (kx.b : Int)) ∧ Z.cell? ⟨g9, 5, none⟩ = some (.int .u64 (kx.c : Int)) ∧ Z.cell? ⟨g9, 6, none⟩ = some (.int .u64 (kx.d : Int))) := Lib.hid fun Z hz => ⟨blk_cell ((hz.block _ (blk_lt h4e)).trans h4e) 0, blk_cell ((hz.block _ (blk_lt h4e)).trans h4e) 1, blk_cell ((hz.block _ (blk_lt h4e)).trans h4e) 2, blk_cell ((hz.block _ (blk_lt h4e)).trans h4e) 3, blk_cell ((hz.block _ (blk_lt h4e)).trans h4e) 4, blk_cell ((hz.block _ (blk_lt h4e)).trans h4e) 5, blk_cell ((hz.block _ (blk_lt h4e)).trans h4e) 6⟩
    have HZC : Hid (∀ Z, Below w4.heap.size w4 Z → Z.cell? ⟨w.heap.size, 0, none⟩ = some (.string d) ∧ Z.cell? ⟨w.heap.size, 1, none⟩ = some (.string f) ∧ Z.cell? ⟨w.heap.size, 2, none⟩ = some (.string t) ∧ Z.cell? ⟨w.heap.size, 3, none⟩ = some (.int .u64 (x.a : Int)) ∧ Z.cell? ⟨w.heap.size, 4, none⟩ = some (.int .u64 (x.b : Int)) ∧ Z.cell? ⟨w.heap.size, 5, none⟩ = some (.int .u64 (x.c : Int)) ∧ Z.cell? ⟨w.heap.size, 6, none⟩ = some (.int .u64 (x.d : Int))) := Lib.hid fun Z hz => ⟨blk_cell ((hz.block _ (blk_lt h1e)).trans h1e) 0, blk_cell ((hz.block _ (blk_lt h1e)).trans h1e) 1, blk_cell ((hz.block _ (blk_lt h1e)).trans h1e) 2, blk_cell ((hz.block _ (blk_lt h1e)).trans h1e) 3, blk_cell ((hz.block _ (blk_lt h1e)).trans h1e) 4, blk_cell ((hz.block _ (blk_lt h1e)).trans h1e) 5, blk_cell ((hz.block _ (blk_lt h1e)).trans h1e) 6⟩
    have HLC : Hid (∀ Z, Below w4.heap.size w4 Z → Z.cell? ⟨w.heap.size + 1, 0, none⟩ = some (.int .u64 (q.a : Int)) ∧ Z.cell? ⟨w.heap.size + 1, 1, none⟩ = some (.int .u64 (q.b : Int)) ∧ Z.cell? ⟨w.heap.size + 1, 2, none⟩ = some (.int .u64 (q.c : Int)) ∧ Z.cell? ⟨w.heap.size + 1, 3, none⟩ = some (.int .u64 (q.d : Int)) ∧ Z.cell? ⟨w.heap.size + 1, 4, none⟩ = some (.int .u64 (wn : Int)) ∧ Z.cell? ⟨w.heap.size + 1, 5, none⟩ = some (.int .u64 (sn : Int)) ∧ Z.cell? ⟨w.heap.size + 1, 6, none⟩ = some (.int .u64 (u.a : Int)) ∧ Z.cell? ⟨w.heap.size + 1, 7, none⟩ = some (.int .u64 (u.b : Int)) ∧ Z.cell? ⟨w.heap.size + 1, 8, none⟩ = some (.int .u64 (u.c : Int)) ∧ Z.cell? ⟨w.heap.size + 1, 9, none⟩ = some (.int .u64 (u.d : Int))) := Lib.hid fun Z hz => ⟨blk_cell ((hz.block _ (blk_lt h2e)).trans h2e) 0, blk_cell ((hz.block _ (blk_lt h2e)).trans h2e) 1, blk_cell ((hz.block _ (blk_lt h2e)).trans h2e) 2, blk_cell ((hz.block _ (blk_lt h2e)).trans h2e) 3, blk_cell ((hz.block _ (blk_lt h2e)).trans h2e) 4, blk_cell ((hz.block _ (blk_lt h2e)).trans h2e) 5, blk_cell ((hz.block _ (blk_lt h2e)).trans h2e) 6, blk_cell ((hz.block _ (blk_lt h2e)).trans h2e) 7, blk_cell ((hz.block _ (blk_lt h2e)).trans h2e) 8, blk_cell ((hz.block _ (blk_lt h2e)).trans h2e) 9⟩
    have hbd : Below w4.heap.size w4 w4.drew := (Below.refl _ _).drew
    clear h1d h2d h3d h4d h1e h2e h3e h4e hA1 hyb hym hyn hly hri hp1 hb4 hwym q3' HNW HRA
    generalize w.heap.size + 1 = gl at *
    go_wp2_with fail
    refine wp_region_held_drew (S := BelS w4.drew) (by kernel_rfl) (BelS.refl _) (fun hS0 => ?_)
    refine wpAnyH_ready (rs := [0]) (by kernel_rfl) (by simp) (AllReadyH.cons rfl (fun K hK => ?_) AllReadyH.nil)
    have DA := Lib.hid (HFX.out w4.drew)
    go_simp
    go_wp2_with ((go_at_call 40; (with_reducible refine DA.out.mono ?_); rintro e wA ⟨rfl, hbA⟩))
    have hqA := below_chain hbd hbd.size hbA
    refine hK.out _ _ hbA (fun _ => ?_)
    clear hK K
    refine wpAnyH_stronger (S' := BelS wA) (fun W h => below_chain hbA hbA.size h) _ _ _ _ ?_
    have hSA : BelS wA wA := BelS.refl wA
    refine wpAnyH_take (i := 1) (oi := _) (v := ?_) rfl (by kernel_rfl) (by kernel_rfl) (by kernel_rfl) (fun _ _ _ h => h) (Or.inl ⟨by rfl, ?_⟩) hSA ?_
    rotate_left
    · intro W hSW
      try go_simp
      all_goals with_reducible rfl
    simp only [Act.put, List.setIfInBounds_toArray, List.set_cons_zero, List.set_cons_succ, List.getElem_toArray, List.getElem_cons_zero, List.getElem_cons_succ]
    refine wpAnyH_take (i := 2) (oi := _) (v := ?_) rfl (by kernel_rfl) (by kernel_rfl) (by kernel_rfl) (fun _ _ _ h => h) (Or.inl ⟨by rfl, ?_⟩) hSA ?_
    rotate_left
    · intro W hSW
      try go_simp
      all_goals with_reducible rfl
    simp only [Act.put, List.setIfInBounds_toArray, List.set_cons_zero, List.set_cons_succ, List.getElem_toArray, List.getElem_cons_zero, List.getElem_cons_succ]
    refine wpAnyH_take (i := 3) (oi := _) (v := ?_) rfl (by kernel_rfl) (by kernel_rfl) (by kernel_rfl) (fun _ _ _ h => h) (Or.inl ⟨by rfl, ?_⟩) hSA ?_
    rotate_left
    · intro W hSW
      try go_simp
      all_goals with_reducible rfl
    simp only [Act.put, List.setIfInBounds_toArray, List.set_cons_zero, List.set_cons_succ, List.getElem_toArray, List.getElem_cons_zero, List.getElem_cons_succ]
    refine wpAnyH_take (i := 4) (oi := _) (v := ?_) rfl (by kernel_rfl) (by kernel_rfl) (by kernel_rfl) (fun _ _ _ h => h) (Or.inl ⟨by rfl, ?_⟩) hSA ?_
    rotate_left
    · intro W hSW
      try go_simp
      all_goals with_reducible rfl
    simp only [Act.put, List.setIfInBounds_toArray, List.set_cons_zero, List.set_cons_succ, List.getElem_toArray, List.getElem_cons_zero, List.getElem_cons_succ]
    refine wpAnyH_take (i := 5) (oi := _) (v := ?_) rfl (by kernel_rfl) (by kernel_rfl) (by kernel_rfl) (fun _ _ _ h => h) (Or.inl ⟨by rfl, ?_⟩) hSA ?_
    rotate_left
    · intro W hSW
      try go_simp
      all_goals with_reducible rfl
    simp only [Act.put, List.setIfInBounds_toArray, List.set_cons_zero, List.set_cons_succ, List.getElem_toArray, List.getElem_cons_zero, List.getElem_cons_succ]
    refine wpAnyH_take (i := 6) (oi := _) (v := ?_) rfl (by kernel_rfl) (by kernel_rfl) (by kernel_rfl) (fun _ _ _ h => h) (Or.inl ⟨by rfl, ?_⟩) hSA ?_
    rotate_left
    · intro W hSW
      try go_simp
      all_goals with_reducible rfl
    simp only [Act.put, List.setIfInBounds_toArray, List.set_cons_zero, List.set_cons_succ, List.getElem_toArray, List.getElem_cons_zero, List.getElem_cons_succ]
    refine wpAnyH_take (i := 7) (oi := _) (v := ?_) rfl (by kernel_rfl) (by kernel_rfl) (by kernel_rfl) (fun _ _ _ h => h) (Or.inl ⟨by rfl, ?_⟩) hSA ?_
    rotate_left
    · intro W hSW
      try go_simp
      all_goals with_reducible rfl
    simp only [Act.put, List.setIfInBounds_toArray, List.set_cons_zero, List.set_cons_succ, List.getElem_toArray, List.getElem_cons_zero, List.getElem_cons_succ]
    refine wpAnyH_take (i := 8) (oi := _) (v := ?_) rfl (by kernel_rfl) (by kernel_rfl) (by kernel_rfl) (fun _ _ _ h => h) (Or.inl ⟨by rfl, ?_⟩) hSA ?_
    rotate_left
    · intro W hSW
      try go_simp
      all_goals with_reducible rfl
    simp only [Act.put, List.setIfInBounds_toArray, List.set_cons_zero, List.set_cons_succ, List.getElem_toArray, List.getElem_cons_zero, List.getElem_cons_succ]
    refine wpAnyH_take (i := 9) (oi := _) (v := ?_) rfl (by kernel_rfl) (by kernel_rfl) (by kernel_rfl) (fun _ _ _ h => h) (Or.inl ⟨by rfl, ?_⟩) hSA ?_
    rotate_left
    · intro W hSW
      try go_simp
      all_goals with_reducible rfl
    simp only [Act.put, List.setIfInBounds_toArray, List.set_cons_zero, List.set_cons_succ, List.getElem_toArray, List.getElem_cons_zero, List.getElem_cons_succ]
    refine wpAnyH_take (i := 10) (oi := _) (v := ?_) rfl (by kernel_rfl) (by kernel_rfl) (by kernel_rfl) (fun _ _ _ h => h) (Or.inl ⟨by rfl, ?_⟩) hSA ?_
    rotate_left
    · intro W hSW
      try go_simp
      all_goals with_reducible rfl
    simp only [Act.put, List.setIfInBounds_toArray, List.set_cons_zero, List.set_cons_succ, List.getElem_toArray, List.getElem_cons_zero, List.getElem_cons_succ]
    refine wpAnyH_take (i := 11) (oi := _) (v := ?_) rfl (by kernel_rfl) (by kernel_rfl) (by kernel_rfl) (fun _ _ _ h => h) (Or.inl ⟨by rfl, ?_⟩) hSA ?_
    rotate_left
    · intro W hSW
      try go_simp
      all_goals with_reducible rfl
    simp only [Act.put, List.setIfInBounds_toArray, List.set_cons_zero, List.set_cons_succ, List.getElem_toArray, List.getElem_cons_zero, List.getElem_cons_succ]
    refine wpAnyH_take (i := 12) (oi := _) (v := ?_) rfl (by kernel_rfl) (by kernel_rfl) (by kernel_rfl) (fun _ _ _ h => h) (Or.inl ⟨by rfl, ?_⟩) hSA ?_
    rotate_left
    · intro W hSW
      obtain ⟨x0, x1, x2, x3, x4, x5, x6⟩ := HXC.out W (below_chain hqA hqA.size hSW)
      try go_simp
      all_goals with_reducible rfl
    simp only [Act.put, List.setIfInBounds_toArray, List.set_cons_zero, List.set_cons_succ, List.getElem_toArray, List.getElem_cons_zero, List.getElem_cons_succ]
    refine wpAnyH_take (i := 13) (oi := _) (v := ?_) rfl (by kernel_rfl) (by kernel_rfl) (by kernel_rfl) (fun _ _ _ h => h) (Or.inl ⟨by rfl, ?_⟩) hSA ?_
    rotate_left
    · intro W hSW
      obtain ⟨y0, y1, y2, y3, y4, y5, y6⟩ := HYC.out W (below_chain hqA hqA.size hSW)
      try go_simp
      all_goals with_reducible rfl
    simp only [Act.put, List.setIfInBounds_toArray, List.set_cons_zero, List.set_cons_succ, List.getElem_toArray, List.getElem_cons_zero, List.getElem_cons_succ]
    refine wpAnyH_take (i := 14) (oi := _) (v := ?_) rfl (by kernel_rfl) (by kernel_rfl) (by kernel_rfl) (fun _ _ _ h => h) (Or.inl ⟨by rfl, ?_⟩) hSA ?_
    rotate_left
    · intro W hSW
      have ne := HNE.out W
      have e4 : (Op.equalIn 9999 74 (.agg #[.int .u64 (kx.a : Int), .int .u64 (kx.b : Int), .int .u64 (kx.c : Int), .int .u64 (kx.d : Int)]) (.agg #[.int .u64 (kx.a : Int), .int .u64 (kx.b : Int), .int .u64 (kx.c : Int), .int .u64 (kx.d : Int)])).run Tryz.prog W = .ok true W := by
        have h := run_equal4' kx kx W
        rw [eqB_refl] at h
        exact h
      try go_simp
      all_goals with_reducible rfl
    simp only [Act.put, List.setIfInBounds_toArray, List.set_cons_zero, List.set_cons_succ, List.getElem_toArray, List.getElem_cons_zero, List.getElem_cons_succ]
    refine wpAnyH_take (i := 15) (oi := _) (v := ?_) rfl (by kernel_rfl) (by kernel_rfl) (by kernel_rfl) (fun _ _ _ h => h) (Or.inl ⟨by rfl, ?_⟩) hSA ?_
    rotate_left
    · intro W hSW
      try go_simp
      all_goals with_reducible rfl
    simp only [Act.put, List.setIfInBounds_toArray, List.set_cons_zero, List.set_cons_succ, List.getElem_toArray, List.getElem_cons_zero, List.getElem_cons_succ]
    refine wpAnyH_take (i := 16) (oi := _) (v := ?_) rfl (by kernel_rfl) (by kernel_rfl) (by kernel_rfl) (fun _ _ _ h => h) (Or.inl ⟨by rfl, ?_⟩) hSA ?_
    rotate_left
    · intro W hSW
      try go_simp
      all_goals with_reducible rfl
    simp only [Act.put, List.setIfInBounds_toArray, List.set_cons_zero, List.set_cons_succ, List.getElem_toArray, List.getElem_cons_zero, List.getElem_cons_succ]
    refine wpAnyH_take (i := 17) (oi := _) (v := ?_) rfl (by kernel_rfl) (by kernel_rfl) (by kernel_rfl) (fun _ _ _ h => h) (Or.inl ⟨by rfl, ?_⟩) hSA ?_
    rotate_left
    · intro W hSW
      obtain ⟨z0, z1, z2, z3, z4, z5, z6⟩ := HZC.out W (below_chain hqA hqA.size hSW)
      try go_simp
      all_goals with_reducible rfl
    simp only [Act.put, List.setIfInBounds_toArray, List.set_cons_zero, List.set_cons_succ, List.getElem_toArray, List.getElem_cons_zero, List.getElem_cons_succ]
    refine wpAnyH_take (i := 20) (oi := _) (v := ?_) rfl (by kernel_rfl) (by kernel_rfl) (by kernel_rfl) (fun _ _ _ h => h) (Or.inl ⟨by rfl, ?_⟩) hSA ?_
    rotate_left
    · intro W hSW
      obtain ⟨z0, z1, z2, z3, z4, z5, z6⟩ := HZC.out W (below_chain hqA hqA.size hSW)
      try go_simp
      all_goals with_reducible rfl
    simp only [Act.put, List.setIfInBounds_toArray, List.set_cons_zero, List.set_cons_succ, List.getElem_toArray, List.getElem_cons_zero, List.getElem_cons_succ]
    refine wpAnyH_ready (rs := [18]) (by kernel_rfl) (by simp) (AllReadyH.cons rfl (fun K hK => ?_) AllReadyH.nil)
    have DB := Lib.hid (HBD.out wA)
    go_simp
    go_wp2_with ((go_at_call 41; (with_reducible refine DB.out.mono ?_); rintro e wB ⟨vB, rfl, hoB, hbB⟩))
    have hqB := below_chain hqA hqA.size hbB
    refine hK.out _ _ hbB (fun _ => ?_)
    clear hK K
    refine wpAnyH_stronger (S' := BelS wB) (fun W h => below_chain hbB hbB.size h) _ _ _ _ ?_
    have hSB : BelS wB wB := BelS.refl wB
    refine wpAnyH_take (i := 19) (oi := _) (v := ?_) rfl (by kernel_rfl) (by kernel_rfl) (by kernel_rfl) (fun _ _ _ h => h) (Or.inl ⟨by rfl, ?_⟩) hSB ?_
    rotate_left
    · intro W hSW
      have cv := HCD.out W _ (hoB.rd.up (Nat.le_refl _) hSW)
      try go_simp
      all_goals with_reducible rfl
    simp only [Act.put, List.setIfInBounds_toArray, List.set_cons_zero, List.set_cons_succ, List.getElem_toArray, List.getElem_cons_zero, List.getElem_cons_succ]
    refine wpAnyH_ready (rs := [21]) (by kernel_rfl) (by simp) (AllReadyH.cons rfl (fun K hK => ?_) AllReadyH.nil)
    have DC := Lib.hid (HRB.out wB)
    go_simp
    go_wp2_with ((go_at_call 42; (with_reducible refine DC.out.mono ?_); rintro e wC ⟨vC, rfl, hoC, hbC⟩))
    have hqC := below_chain hqB hqB.size hbC
    refine hK.out _ _ hbC (fun _ => ?_)
    clear hK K
    refine wpAnyH_stronger (S' := BelS wC) (fun W h => below_chain hbC hbC.size h) _ _ _ _ ?_
    have hSC : BelS wC wC := BelS.refl wC
    refine wpAnyH_take (i := 22) (oi := _) (v := ?_) rfl (by kernel_rfl) (by kernel_rfl) (by kernel_rfl) (fun _ _ _ h => h) (Or.inl ⟨by rfl, ?_⟩) hSC ?_
    rotate_left
    · intro W hSW
      have cv := HCD.out W _ (hoC.rd.up (Nat.le_refl _) hSW)
      try go_simp
      all_goals with_reducible rfl
    simp only [Act.put, List.setIfInBounds_toArray, List.set_cons_zero, List.set_cons_succ, List.getElem_toArray, List.getElem_cons_zero, List.getElem_cons_succ]
    refine wpAnyH_take (i := 23) (oi := _) (v := ?_) rfl (by kernel_rfl) (by kernel_rfl) (by kernel_rfl) (fun _ _ _ h => h) (Or.inl ⟨by rfl, ?_⟩) hSC ?_
    rotate_left
    · intro W hSW
      try go_simp
      all_goals with_reducible rfl
    simp only [Act.put, List.setIfInBounds_toArray, List.set_cons_zero, List.set_cons_succ, List.getElem_toArray, List.getElem_cons_zero, List.getElem_cons_succ]
    refine wpAnyH_take (i := 24) (oi := _) (v := ?_) rfl (by kernel_rfl) (by kernel_rfl) (by kernel_rfl) (fun _ _ _ h => h) (Or.inl ⟨by rfl, ?_⟩) hSC ?_
    rotate_left
    · intro W hSW
      try go_simp
      all_goals with_reducible rfl
    simp only [Act.put, List.setIfInBounds_toArray, List.set_cons_zero, List.set_cons_succ, List.getElem_toArray, List.getElem_cons_zero, List.getElem_cons_succ]
    refine wpAnyH_take (i := 25) (oi := _) (v := ?_) rfl (by kernel_rfl) (by kernel_rfl) (by kernel_rfl) (fun _ _ _ h => h) (Or.inl ⟨by rfl, ?_⟩) hSC ?_
    rotate_left
    · intro W hSW
      try go_simp
      all_goals with_reducible rfl
    simp only [Act.put, List.setIfInBounds_toArray, List.set_cons_zero, List.set_cons_succ, List.getElem_toArray, List.getElem_cons_zero, List.getElem_cons_succ]
    refine wpAnyH_take (i := 26) (oi := _) (v := ?_) rfl (by kernel_rfl) (by kernel_rfl) (by kernel_rfl) (fun _ _ _ h => h) (Or.inl ⟨by rfl, ?_⟩) hSC ?_
    rotate_left
    · intro W hSW
      try go_simp
      all_goals with_reducible rfl
    simp only [Act.put, List.setIfInBounds_toArray, List.set_cons_zero, List.set_cons_succ, List.getElem_toArray, List.getElem_cons_zero, List.getElem_cons_succ]
    refine wpAnyH_take (i := 27) (oi := _) (v := ?_) rfl (by kernel_rfl) (by kernel_rfl) (by kernel_rfl) (fun _ _ _ h => h) (Or.inl ⟨by rfl, ?_⟩) hSC ?_
    rotate_left
    · intro W hSW
      try go_simp
      all_goals with_reducible rfl
    simp only [Act.put, List.setIfInBounds_toArray, List.set_cons_zero, List.set_cons_succ, List.getElem_toArray, List.getElem_cons_zero, List.getElem_cons_succ]
    refine wpAnyH_take (i := 28) (oi := _) (v := ?_) rfl (by kernel_rfl) (by kernel_rfl) (by kernel_rfl) (fun _ _ _ h => h) (Or.inl ⟨by rfl, ?_⟩) hSC ?_
    rotate_left
    · intro W hSW
      try go_simp
      all_goals with_reducible rfl
    simp only [Act.put, List.setIfInBounds_toArray, List.set_cons_zero, List.set_cons_succ, List.getElem_toArray, List.getElem_cons_zero, List.getElem_cons_succ]
    refine wpAnyH_take (i := 29) (oi := _) (v := ?_) rfl (by kernel_rfl) (by kernel_rfl) (by kernel_rfl) (fun _ _ _ h => h) (Or.inl ⟨by rfl, ?_⟩) hSC ?_
    rotate_left
    · intro W hSW
      obtain ⟨x0, x1, x2, x3, x4, x5, x6⟩ := HXC.out W (below_chain hqC hqC.size hSW)
      try go_simp
      all_goals with_reducible rfl
    simp only [Act.put, List.setIfInBounds_toArray, List.set_cons_zero, List.set_cons_succ, List.getElem_toArray, List.getElem_cons_zero, List.getElem_cons_succ]
    refine wpAnyH_take (i := 32) (oi := _) (v := ?_) rfl (by kernel_rfl) (by kernel_rfl) (by kernel_rfl) (fun _ _ _ h => h) (Or.inl ⟨by rfl, ?_⟩) hSC ?_
    rotate_left
    · intro W hSW
      try go_simp
      all_goals with_reducible rfl
    simp only [Act.put, List.setIfInBounds_toArray, List.set_cons_zero, List.set_cons_succ, List.getElem_toArray, List.getElem_cons_zero, List.getElem_cons_succ]
    refine wpAnyH_take (i := 33) (oi := _) (v := ?_) rfl (by kernel_rfl) (by kernel_rfl) (by kernel_rfl) (fun _ _ _ h => h) (Or.inl ⟨by rfl, ?_⟩) hSC ?_
    rotate_left
    · intro W hSW
      have cv := HCL.out W _ (HRD.out W (below_chain hqC hqC.size hSW))
      try go_simp
      all_goals with_reducible rfl
    simp only [Act.put, List.setIfInBounds_toArray, List.set_cons_zero, List.set_cons_succ, List.getElem_toArray, List.getElem_cons_zero, List.getElem_cons_succ]
    refine wpAnyH_ready (rs := [30]) (by kernel_rfl) (by simp) (AllReadyH.cons rfl (fun K hK => ?_) AllReadyH.nil)
    have DD := Lib.hid (HBX.out wC)
    go_simp
    go_wp2_with ((go_at_call 41; (with_reducible refine DD.out.mono ?_); rintro e wD ⟨vD, rfl, hoD, hbD⟩))
    have hqD := below_chain hqC hqC.size hbD
    refine hK.out _ _ hbD (fun _ => ?_)
    clear hK K
    refine wpAnyH_stronger (S' := BelS wD) (fun W h => below_chain hbD hbD.size h) _ _ _ _ ?_
    have hSD : BelS wD wD := BelS.refl wD
    refine wpAnyH_take (i := 31) (oi := _) (v := ?_) rfl (by kernel_rfl) (by kernel_rfl) (by kernel_rfl) (fun _ _ _ h => h) (Or.inl ⟨by rfl, ?_⟩) hSD ?_
    rotate_left
    · intro W hSW
      have cv := HCL.out W _ (hoD.rd.up (Nat.le_refl _) hSW)
      try go_simp
      all_goals with_reducible rfl
    simp only [Act.put, List.setIfInBounds_toArray, List.set_cons_zero, List.set_cons_succ, List.getElem_toArray, List.getElem_cons_zero, List.getElem_cons_succ]
    refine wpAnyH_take (i := 34) (oi := _) (v := ?_) rfl (by kernel_rfl) (by kernel_rfl) (by kernel_rfl) (fun _ _ _ h => h) (Or.inl ⟨by rfl, ?_⟩) hSD ?_
    rotate_left
    · intro W hSW
      try go_simp
      all_goals with_reducible rfl
    simp only [Act.put, List.setIfInBounds_toArray, List.set_cons_zero, List.set_cons_succ, List.getElem_toArray, List.getElem_cons_zero, List.getElem_cons_succ]
    refine wpAnyH_take (i := 35) (oi := _) (v := ?_) rfl (by kernel_rfl) (by kernel_rfl) (by kernel_rfl) (fun _ _ _ h => h) (Or.inl ⟨by rfl, ?_⟩) hSD ?_
    rotate_left
    · intro W hSW
      try go_simp
      all_goals with_reducible rfl
    simp only [Act.put, List.setIfInBounds_toArray, List.set_cons_zero, List.set_cons_succ, List.getElem_toArray, List.getElem_cons_zero, List.getElem_cons_succ]
    refine wpAnyH_take (i := 36) (oi := _) (v := ?_) rfl (by kernel_rfl) (by kernel_rfl) (by kernel_rfl) (fun _ _ _ h => h) (Or.inl ⟨by rfl, ?_⟩) hSD ?_
    rotate_left
    · intro W hSW
      try go_simp
      all_goals with_reducible rfl
    simp only [Act.put, List.setIfInBounds_toArray, List.set_cons_zero, List.set_cons_succ, List.getElem_toArray, List.getElem_cons_zero, List.getElem_cons_succ]
    refine wpAnyH_done (by kernel_rfl) ?_ _
    have hqe := hqD
    generalize wD = wE at *
    obtain ⟨l0, l1, l2, l3, l4, l5, l6, l7, l8, l9⟩ := HLC.out _ hqe
    have A5 := HA.out _ hqe
    have hq5 := below_chain hq4 hq4.size hqe
    have HS := Lib.hid (tsetlim_any A5 (show yn + 0 < maxLen by have := HYN.out; unfold maxLen; omega) kChan0 kAtom ⟨q, wn, sn, u⟩ HOK.out (by decide +kernel) (by decide +kernel))
    unfold LimV.val at HS
    dsimp only at HS
    go_wp2_with fail
    refine HS.out.mono ?_
    rintro e w6 ⟨rfl, A6, hk6⟩
    have hq6 := HYB.out _ _ _ A6
    have HG1 := Lib.hid (tgetlim_any A6 kChan0 kAtom (by decide +kernel) (by decide +kernel))
    have HG2 := Lib.hid (fun (Z : World) (hz : Below w6.heap.size w6 Z) => tgetlim_any (A6.up hz) kChan1 kAtom (by decide +kernel) (by decide +kernel))
    rw [lim_here _ HOK.out] at HG1
    simp only [lim_there] at HG2
    unfold limV LimV.none LimV.val U4.zero at HG1 HG2
    dsimp only at HG1 HG2
    have HL6 : Hid (∀ Z, Below w6.heap.size w6 Z → Z.cell? ⟨gl, 0, none⟩ = some (.int .u64 (q.a : Int)) ∧ Z.cell? ⟨gl, 1, none⟩ = some (.int .u64 (q.b : Int)) ∧ Z.cell? ⟨gl, 2, none⟩ = some (.int .u64 (q.c : Int)) ∧ Z.cell? ⟨gl, 3, none⟩ = some (.int .u64 (q.d : Int)) ∧ Z.cell? ⟨gl, 4, none⟩ = some (.int .u64 (wn : Int)) ∧ Z.cell? ⟨gl, 5, none⟩ = some (.int .u64 (sn : Int)) ∧ Z.cell? ⟨gl, 6, none⟩ = some (.int .u64 (u.a : Int)) ∧ Z.cell? ⟨gl, 7, none⟩ = some (.int .u64 (u.b : Int)) ∧ Z.cell? ⟨gl, 8, none⟩ = some (.int .u64 (u.c : Int)) ∧ Z.cell? ⟨gl, 9, none⟩ = some (.int .u64 (u.d : Int))) := Lib.hid fun Z hz => by
      obtain ⟨l0, l1, l2, l3, l4, l5, l6, l7, l8, l9⟩ := HLC.out _ hqe
      have hk := hk6.trans (Kept.of_below hz)
      exact ⟨hk.cell l0, hk.cell l1, hk.cell l2, hk.cell l3, hk.cell l4, hk.cell l5, hk.cell l6, hk.cell l7, hk.cell l8, hk.cell l9⟩
    clear HS l0 l1 l2 l3 l4 l5 l6 l7 l8 l9 A5 A6 hk6 hqe hq5
    go_wp2_with fail
    refine HG1.out.mono ?_
    rintro e w7 ⟨rfl, hb7⟩
    have hb8 := hb7.alloc hb7.size (.cells #[.int .u64 (q.a : Int), .int .u64 (q.b : Int), .int .u64 (q.c : Int), .int .u64 (q.d : Int), .int .u64 (wn : Int), .int .u64 (sn : Int), .int .u64 (u.a : Int), .int .u64 (u.b : Int), .int .u64 (u.c : Int), .int .u64 (u.d : Int)] 78)
    have k8 := heap_alloc_new w7 (.cells #[.int .u64 (q.a : Int), .int .u64 (q.b : Int), .int .u64 (q.c : Int), .int .u64 (q.d : Int), .int .u64 (wn : Int), .int .u64 (sn : Int), .int .u64 (u.a : Int), .int .u64 (u.b : Int), .int .u64 (u.c : Int), .int .u64 (u.d : Int)] 78)
    clear HG1 hb7
    go_wp2_with fail
    generalize w7.alloc (.cells #[.int .u64 (q.a : Int), .int .u64 (q.b : Int), .int .u64 (q.c : Int), .int .u64 (q.d : Int), .int .u64 (wn : Int), .int .u64 (sn : Int), .int .u64 (u.a : Int), .int .u64 (u.b : Int), .int .u64 (u.c : Int), .int .u64 (u.d : Int)] 78) = w8 at *
    generalize w7.heap.size = g8 at *
    refine (HG2.out _ hb8).mono ?_
    rintro e w9 ⟨rfl, hb9⟩
    have hb10 := (below_chain hb8 hb8.size hb9).alloc (Nat.le_trans hb8.size hb9.size) (.cells #[.int .u64 0, .int .u64 0, .int .u64 0, .int .u64 0, .int .u64 0, .int .u64 0, .int .u64 0, .int .u64 0, .int .u64 0, .int .u64 0] 78)
    have k9 := (hb9.block _ (blk_lt k8)).trans k8
    replace k9 := (Below.heap_alloc w9 (.cells #[.int .u64 0, .int .u64 0, .int .u64 0, .int .u64 0, .int .u64 0, .int .u64 0, .int .u64 0, .int .u64 0, .int .u64 0, .int .u64 0] 78) _ (blk_lt k9)).trans k9
    have heq := fun W : World => tlim_eql q wn sn u W
    obtain ⟨l0, l1, l2, l3, l4, l5, l6, l7, l8, l9⟩ := HL6.out _ hb10
    have m0 := blk_cell k9 0
    have m1 := blk_cell k9 1
    have m2 := blk_cell k9 2
    have m3 := blk_cell k9 3
    have m4 := blk_cell k9 4
    have m5 := blk_cell k9 5
    have m6 := blk_cell k9 6
    have m7 := blk_cell k9 7
    have m8 := blk_cell k9 8
    have m9 := blk_cell k9 9
    have hfin := below_chain hq6 hq6.size hb10
    clear HG2 hb8 hb9 hb10 k8 k9 HL6
    go_wp2_with fail
    go_ret
    exact ⟨rfl, hfin⟩
end Go.Proofs.YtlkkjnacolmmpaaGreatDoor
