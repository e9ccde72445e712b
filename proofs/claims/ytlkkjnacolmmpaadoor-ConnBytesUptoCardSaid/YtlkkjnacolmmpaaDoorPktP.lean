
/- The walks of a packet being parsed and put in bytes. -/
import Derived.Test.YtlkkjnacolmmpaaDoorEncB1
import Derived.Test.YtlkkjnacolmmpaaDoorWireW0
import Derived.Test.YtlkkjnacolmmpaaDoorWireDoc0
import Derived.Test.YtlkkjnacolmmpaaDoorPktH
namespace Go.Proofs.YtlkkjnacolmmpaaDoor
set_option maxRecDepth 100000
open Go Go.RowKit
set_option linter.unusedVariables false

structure PktV where
  src : ByteArray
  dst : ByteArray
  seq : Nat
  data : List UInt8
  ht : Nat
  tm : Nat
def PktV.none : PktV := ⟨⟨#[]⟩, ⟨#[]⟩, 0, [], 0, 0⟩
def PktV.val (p : PktV) (vd : Value) : Value := .agg #[.string p.src, .string p.dst, .int .u64 (p.seq : Int), vd, .int .u64 (p.ht : Int), .int .u64 (p.tm : Int)]
def readP (l : List UInt8) : Option PktV :=
  match rB l 0 with
  | (sa, l1, f1) => match rB l1 f1 with
    | (sb, l2, f2) => match rN l2 f2 with
      | (sq, l3, f3) => match rB l3 f3 with
        | (dt, l4, f4) => match rN l4 f4 with
          | (ht, l5, f5) => match rN l5 f5 with
            | (tm, l6, f6) => if rEnd l6 f6 = 0 then some ⟨⟨sa.toArray⟩, ⟨sb.toArray⟩, sq, dt, ht, tm⟩ else Option.none
theorem rN_ltP (l : List UInt8) (f : Int) : (rN l f).1 < 18446744073709551616 := by
  unfold rN
  split
  · show 0 < _; omega
  · split
    · show 0 < _; omega
    · have := beVal_lt8 (l.take 8) 8 (by simp; omega)
      show beVal (l.take 8) < _
      omega
set_option maxHeartbeats 8000000 in
theorem pparse_any (v : Value) (l : List UInt8) (w : World) (hr : Rd w w.heap.size v l) (hl : l.length ≤ 140737488355320) :
    Calls Tryd.prog 31 #[v] w fun e w' => ((∃ (p : PktV) (vd : Value), readP l = some p ∧ e = .returned (.tuple #[p.val vd, .int .i64 0]) ∧ Own w' w.heap.size vd p.data) ∨ (readP l = none ∧ e = .returned (.tuple #[PktV.none.val (.slice none 0 0), .int .i64 140]))) ∧ Below w.heap.size w w' := by
  have ha0 : Below w.heap.size w (w.alloc (.cells #[.string ⟨#[]⟩, .string ⟨#[]⟩, .int .u64 0, .slice none 0 0, .int .u64 0, .int .u64 0] 55)) := (Below.refl _ _).alloc (Nat.le_refl _) _
  have hk0 := heap_alloc_new w (.cells #[.string ⟨#[]⟩, .string ⟨#[]⟩, .int .u64 0, .slice none 0 0, .int .u64 0, .int .u64 0] 55)
  have HO := Lib.hid (open_rd v l _ (hr.up (Nat.le_refl _) ha0) hl)
  obtain ⟨A, c, rfl⟩ := hr.form
  clear hr
  obtain ⟨V, hV⟩ : ∃ V, V = readP l := ⟨_, rfl⟩
  rw [← hV]
  unfold readP at hV
  have HV := Lib.hid hV
  clear hV
  go_enter Tryd.func31, Tryd.ntmps31
  go_wp2_with fail
  refine HO.out.mono ?_
  rintro e w1 ⟨g, rfl, hr1, hb1⟩
  have hq1 := below_chain ha0 ha0.size hb1
  have hk1 := (hb1.block _ (blk_lt hk0)).trans hk0
  have hg1 := hr1.from_
  have hg2 := hr1.lt
  have hgs : w.heap.size < (w.alloc (.cells #[.string ⟨#[]⟩, .string ⟨#[]⟩, .int .u64 0, .slice none 0 0, .int .u64 0, .int .u64 0] 55)).heap.size := blk_lt hk0
  generalize (w.alloc (.cells #[.string ⟨#[]⟩, .string ⟨#[]⟩, .int .u64 0, .slice none 0 0, .int .u64 0, .int .u64 0] 55)).heap.size = lo at *
  obtain ⟨gr, hgr⟩ : ∃ gr, gr = w.heap.size := ⟨_, rfl⟩
  obtain ⟨gd, hgd⟩ : ∃ gd, gd = w1.heap.size := ⟨_, rfl⟩
  have P1 : PZ 118 w gr gd lo g 55 55 #[.string ⟨#[]⟩, .string ⟨#[]⟩, .int .u64 0, .slice none 0 0, .int .u64 0, .int .u64 0] #[.string ⟨#[]⟩, .string ⟨#[]⟩, .int .u64 0, .slice none 0 0, .int .u64 0, .int .u64 0] l 0 (w1.alloc (.cells #[.string ⟨#[]⟩, .string ⟨#[]⟩, .int .u64 0, .slice none 0 0, .int .u64 0, .int .u64 0] 55)) :=
    ⟨hq1.alloc hq1.size _, by omega, by have := hq1.size; omega, by rw [hgr]; exact (Below.heap_alloc w1 _ _ (blk_lt hk1)).trans hk1, by rw [hgd]; exact heap_alloc_new w1 _, hr1.below ((Below.refl _ _).alloc (Nat.le_refl _) _), by omega, by omega⟩
  clear hq1 hk1 hg1 hg2 hgs hr1 hb1 HO hk0 ha0
  go_wp2_with fail
  rw [← hgd]
  generalize w1.alloc (.cells #[.string ⟨#[]⟩, .string ⟨#[]⟩, .int .u64 0, .slice none 0 0, .int .u64 0, .int .u64 0] 55) = wz at *
  clear hgd
  refine (rdT_any P1.rd).mono ?_
  rintro e wa1 ⟨rfl, hr, hg⟩
  replace P1 := P1.call hg hr
  clear hr hg
  have b_sa := rB_le l 0
  generalize rB l 0 = Q at *
  obtain ⟨sa, l_sa, f_sa⟩ := Q
  dsimp only at P1 HV b_sa ⊢
  have z0 := blk_cell P1.loc 0
  have f0 := blk_free P1.loc 0
  have P2 : PZ 118 w gr gd lo g _ 55 _ #[.string ⟨sa.toArray⟩, .string ⟨#[]⟩, .int .u64 0, .slice none 0 0, .int .u64 0, .int .u64 0] l_sa f_sa ((wa1).setCell ⟨gd, 0, none⟩ (.string ⟨sa.toArray⟩)) := (P1.set 0 (.string ⟨sa.toArray⟩))
  clear P1
  go_wp2_with fail
  generalize (wa1).setCell ⟨gd, 0, none⟩ (.string ⟨sa.toArray⟩) = wb1 at *
  refine (rdT_any P2.rd).mono ?_
  rintro e wa2 ⟨rfl, hr, hg⟩
  replace P2 := P2.call hg hr
  clear hr hg
  have b_sb := rB_le l_sa f_sa
  generalize rB l_sa f_sa = Q at *
  obtain ⟨sb, l_sb, f_sb⟩ := Q
  dsimp only at P2 HV b_sb ⊢
  have z0 := blk_cell P2.loc 1
  have f0 := blk_free P2.loc 1
  have P3 : PZ 118 w gr gd lo g _ 55 _ #[.string ⟨sa.toArray⟩, .string ⟨sb.toArray⟩, .int .u64 0, .slice none 0 0, .int .u64 0, .int .u64 0] l_sb f_sb ((wa2).setCell ⟨gd, 1, none⟩ (.string ⟨sb.toArray⟩)) := (P2.set 1 (.string ⟨sb.toArray⟩))
  clear P2
  go_wp2_with fail
  generalize (wa2).setCell ⟨gd, 1, none⟩ (.string ⟨sb.toArray⟩) = wb2 at *
  refine (rN_any P3.rd).mono ?_
  rintro e wa3 ⟨rfl, hr, hg⟩
  replace P3 := P3.call hg hr
  clear hr hg
  have b_sq := rN_ltP l_sb f_sb
  generalize rN l_sb f_sb = Q at *
  obtain ⟨sq, l_sq, f_sq⟩ := Q
  dsimp only at P3 HV b_sq ⊢
  have z0 := blk_cell P3.loc 2
  have f0 := blk_free P3.loc 2
  have P4 : PZ 118 w gr gd lo g _ 55 _ #[.string ⟨sa.toArray⟩, .string ⟨sb.toArray⟩, .int .u64 (sq : Int), .slice none 0 0, .int .u64 0, .int .u64 0] l_sq f_sq ((wa3).setCell ⟨gd, 2, none⟩ (.int .u64 (sq : Int))) := (P3.set 2 (.int .u64 (sq : Int)))
  clear P3
  go_wp2_with fail
  generalize (wa3).setCell ⟨gd, 2, none⟩ (.int .u64 (sq : Int)) = wb3 at *
  refine (rdB_any P4.rd).mono ?_
  rintro e wa4 ⟨vdt, rfl, hodt, hr, hg⟩
  have hodt0 := P4.below.size
  have gldt := P4.rd.lt
  have dldt := blk_lt P4.loc
  have rldt := blk_lt P4.res
  have ndtg : vdt.ownBlock ≠ some g := fun e => by have := (hodt.lt _ e).1; omega
  have ndtd : vdt.ownBlock ≠ some gd := fun e => by have := (hodt.lt _ e).1; omega
  have ndtr : vdt.ownBlock ≠ some gr := fun e => by have := (hodt.lt _ e).1; omega
  replace P4 := P4.call hg hr
  clear hr hg
  have b_dt := rB_le l_sq f_sq
  generalize rB l_sq f_sq = Q at *
  obtain ⟨dt, l_dt, f_dt⟩ := Q
  dsimp only at P4 HV b_dt hodt ⊢
  have odt := hodt
  clear hodt gldt dldt rldt
  obtain ⟨Adt, cdt, rfl⟩ := odt.form
  have z0 := blk_cell P4.loc 3
  have f0 := blk_free P4.loc 3
  have P5 : PZ 118 w gr gd lo g _ 55 _ #[.string ⟨sa.toArray⟩, .string ⟨sb.toArray⟩, .int .u64 (sq : Int), .slice Adt dt.length cdt, .int .u64 0, .int .u64 0] l_dt f_dt ((wa4).setCell ⟨gd, 3, none⟩ (.slice Adt dt.length cdt)) := (P4.set 3 (.slice Adt dt.length cdt))
  clear P4
  replace odt := (odt.grown (grown_setR _ gd 3 (.slice Adt dt.length cdt)) (Or.inr ndtd))
  go_wp2_with fail
  generalize (wa4).setCell ⟨gd, 3, none⟩ (.slice Adt dt.length cdt) = wb4 at *
  refine (rN_any P5.rd).mono ?_
  rintro e wa5 ⟨rfl, hr, hg⟩
  replace odt := odt.grown hg (Or.inr ndtg)
  replace P5 := P5.call hg hr
  clear hr hg
  have b_ht := rN_ltP l_dt f_dt
  generalize rN l_dt f_dt = Q at *
  obtain ⟨ht, l_ht, f_ht⟩ := Q
  dsimp only at P5 HV b_ht ⊢
  have z0 := blk_cell P5.loc 4
  have f0 := blk_free P5.loc 4
  have P6 : PZ 118 w gr gd lo g _ 55 _ #[.string ⟨sa.toArray⟩, .string ⟨sb.toArray⟩, .int .u64 (sq : Int), .slice Adt dt.length cdt, .int .u64 (ht : Int), .int .u64 0] l_ht f_ht ((wa5).setCell ⟨gd, 4, none⟩ (.int .u64 (ht : Int))) := (P5.set 4 (.int .u64 (ht : Int)))
  clear P5
  replace odt := (odt.grown (grown_setR _ gd 4 (.int .u64 (ht : Int))) (Or.inr ndtd))
  go_wp2_with fail
  generalize (wa5).setCell ⟨gd, 4, none⟩ (.int .u64 (ht : Int)) = wb5 at *
  refine (rN_any P6.rd).mono ?_
  rintro e wa6 ⟨rfl, hr, hg⟩
  replace odt := odt.grown hg (Or.inr ndtg)
  replace P6 := P6.call hg hr
  clear hr hg
  have b_tm := rN_ltP l_ht f_ht
  generalize rN l_ht f_ht = Q at *
  obtain ⟨tm, l_tm, f_tm⟩ := Q
  dsimp only at P6 HV b_tm ⊢
  have z0 := blk_cell P6.loc 5
  have f0 := blk_free P6.loc 5
  have P7 : PZ 118 w gr gd lo g _ 55 _ #[.string ⟨sa.toArray⟩, .string ⟨sb.toArray⟩, .int .u64 (sq : Int), .slice Adt dt.length cdt, .int .u64 (ht : Int), .int .u64 (tm : Int)] l_tm f_tm ((wa6).setCell ⟨gd, 5, none⟩ (.int .u64 (tm : Int))) := (P6.set 5 (.int .u64 (tm : Int)))
  clear P6
  replace odt := (odt.grown (grown_setR _ gd 5 (.int .u64 (tm : Int))) (Or.inr ndtd))
  go_wp2_with fail
  generalize (wa6).setCell ⟨gd, 5, none⟩ (.int .u64 (tm : Int)) = wb6 at *
  refine (rdEnd_any P7.rd).mono ?_
  rintro e w7 ⟨rfl, rfl⟩
  generalize rEnd l_tm f_tm = E at *
  subst hgr
  by_cases hE : E = 0
  · subst hE
    have hv := HV.out
    rw [if_pos rfl] at hv
    clear HV
    have r0 := blk_cell P7.res 0
    have q0 := blk_free P7.res 0
    have r1 := blk_cell P7.res 1
    have q1 := blk_free P7.res 1
    have r2 := blk_cell P7.res 2
    have q2 := blk_free P7.res 2
    have r3 := blk_cell P7.res 3
    have q3 := blk_free P7.res 3
    have r4 := blk_cell P7.res 4
    have q4 := blk_free P7.res 4
    have r5 := blk_cell P7.res 5
    have q5 := blk_free P7.res 5
    have hk7 := set6P P7.res (.string ⟨sa.toArray⟩) (.string ⟨sb.toArray⟩) (.int .u64 (sq : Int)) (.slice Adt dt.length cdt) (.int .u64 (ht : Int)) (.int .u64 (tm : Int))
    have hb7 := below_set6P P7.below P7.hr (.string ⟨sa.toArray⟩) (.string ⟨sb.toArray⟩) (.int .u64 (sq : Int)) (.slice Adt dt.length cdt) (.int .u64 (ht : Int)) (.int .u64 (tm : Int))
    have HD := Lib.hid (And.intro (blk_cell hk7 0) (And.intro (blk_cell hk7 1) (And.intro (blk_cell hk7 2) (And.intro (blk_cell hk7 3) (And.intro (blk_cell hk7 4) (blk_cell hk7 5))))))
    clear hk7
    have s0 := blk_cell P7.loc 0
    have s1 := blk_cell P7.loc 1
    have s2 := blk_cell P7.loc 2
    have s3 := blk_cell P7.loc 3
    have s4 := blk_cell P7.loc 4
    have s5 := blk_cell P7.loc 5
    have hsz := hodt0
    have OW := ((((((odt.grown (grown_setR _ w.heap.size 0 (.string ⟨sa.toArray⟩)) (Or.inr ndtr)).grown (grown_setR _ w.heap.size 1 (.string ⟨sb.toArray⟩)) (Or.inr ndtr)).grown (grown_setR _ w.heap.size 2 (.int .u64 (sq : Int))) (Or.inr ndtr)).grown (grown_setR _ w.heap.size 3 (.slice Adt dt.length cdt)) (Or.inr ndtr)).grown (grown_setR _ w.heap.size 4 (.int .u64 (ht : Int))) (Or.inr ndtr)).grown (grown_setR _ w.heap.size 5 (.int .u64 (tm : Int))) (Or.inr ndtr))
    go_wp2_with fail
    obtain ⟨d0, d1, d2, d3, d4, d5⟩ := HD.out
    refine bodyPost_ret (v := .tuple #[.agg #[.string ⟨sa.toArray⟩, .string ⟨sb.toArray⟩, .int .u64 (sq : Int), .slice Adt dt.length cdt, .int .u64 (ht : Int), .int .u64 (tm : Int)], .int .i64 0]) ?_ rfl ⟨Or.inl ⟨⟨⟨sa.toArray⟩, ⟨sb.toArray⟩, sq, dt, ht, tm⟩, _, hv, rfl, OW.more hsz⟩, hb7⟩
    simp at d0 d1 d2 d3 d4 d5
    simp [results, Tryd.results31, go_sem, d0, d1, d2, d3, d4, d5]
  · have hne : (E != 0) = true := by simpa using hE
    have hv := HV.out
    rw [if_neg hE] at hv
    clear HV
    have r0 := blk_cell P7.res 0
    have q0 := blk_free P7.res 0
    have r1 := blk_cell P7.res 1
    have q1 := blk_free P7.res 1
    have r2 := blk_cell P7.res 2
    have q2 := blk_free P7.res 2
    have r3 := blk_cell P7.res 3
    have q3 := blk_free P7.res 3
    have r4 := blk_cell P7.res 4
    have q4 := blk_free P7.res 4
    have r5 := blk_cell P7.res 5
    have q5 := blk_free P7.res 5
    have hk7 := set6P P7.res (.string ⟨#[]⟩) (.string ⟨#[]⟩) (.int .u64 0) (.slice none 0 0) (.int .u64 0) (.int .u64 0)
    have hb7 := below_set6P P7.below P7.hr (.string ⟨#[]⟩) (.string ⟨#[]⟩) (.int .u64 0) (.slice none 0 0) (.int .u64 0) (.int .u64 0)
    have HD := Lib.hid (And.intro (blk_cell hk7 0) (And.intro (blk_cell hk7 1) (And.intro (blk_cell hk7 2) (And.intro (blk_cell hk7 3) (And.intro (blk_cell hk7 4) (blk_cell hk7 5))))))
    clear hk7
    go_wp2_with fail
    obtain ⟨d0, d1, d2, d3, d4, d5⟩ := HD.out
    refine bodyPost_ret (v := .tuple #[.agg #[.string ⟨#[]⟩, .string ⟨#[]⟩, .int .u64 0, .slice none 0 0, .int .u64 0, .int .u64 0], .int .i64 140]) ?_ rfl ⟨Or.inr ⟨hv, rfl⟩, hb7⟩
    simp at d0 d1 d2 d3 d4 d5
    simp [results, Tryd.results31, go_sem, d0, d1, d2, d3, d4, d5]
end Go.Proofs.YtlkkjnacolmmpaaDoor
