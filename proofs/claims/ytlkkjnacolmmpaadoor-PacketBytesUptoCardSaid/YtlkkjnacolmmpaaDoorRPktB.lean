
/- The walks of a packet being parsed, put in bytes and hashed, the document's; hashes of answers. -/
import Derived.Test.YtlkkjnacolmmpaaDoorPktL1
import Derived.Test.YtlkkjnacolmmpaaDoorRShaG0
namespace Go.Proofs.YtlkkjnacolmmpaaDoor
set_option maxRecDepth 100000
open Go Go.RowKit
set_option linter.unusedVariables false

set_option maxHeartbeats 8000000 in
theorem rpparse_any (v : Value) (l : List UInt8) (w : World) (hr : Rd w w.heap.size v l) (hl : l.length ≤ 140737488355320) :
    Calls Tryd.prog 32 #[v] w fun e w' => ((∃ (p : PktV) (vd : Value), readP l = some p ∧ e = .returned (.tuple #[p.val vd, .int .i64 0]) ∧ Own w' w.heap.size vd p.data) ∨ (readP l = none ∧ e = .returned (.tuple #[PktV.none.val (.slice none 0 0), .int .i64 140]))) ∧ Below w.heap.size w w' := by
  have ha0 : Below w.heap.size w (w.alloc (.cells #[.string ⟨#[]⟩, .string ⟨#[]⟩, .int .u64 0, .slice none 0 0, .int .u64 0, .int .u64 0] 55)) := (Below.refl _ _).alloc (Nat.le_refl _) _
  have hk0 := heap_alloc_new w (.cells #[.string ⟨#[]⟩, .string ⟨#[]⟩, .int .u64 0, .slice none 0 0, .int .u64 0, .int .u64 0] 55)
  have HO := Lib.hid (open_dd v l _ (hr.up (Nat.le_refl _) ha0) hl)
  obtain ⟨A, c, rfl⟩ := hr.form
  clear hr
  obtain ⟨V, hV⟩ : ∃ V, V = readP l := ⟨_, rfl⟩
  rw [← hV]
  unfold readP at hV
  have HV := Lib.hid hV
  clear hV
  go_enter Tryd.func32, Tryd.ntmps32
  go_wp2_with fail
  refine HO.out.mono ?_
  rintro e w1 ⟨g, rfl, hr1, hb1⟩
  have hq1 := below_chain ha0 ha0.size hb1
  have hk1 := (hb1.block _ (blk_lt hk0)).trans hk0
  have hg1 := hr1.from_
  have hg2 := hr1.lt
  have hgs : w.heap.size < (w.alloc (.cells #[.string ⟨#[]⟩, .string ⟨#[]⟩, .int .u64 0, .slice none 0 0, .int .u64 0, .int .u64 0] 55)).heap.size := blk_lt hk0
  generalize (w.alloc (.cells #[.string ⟨#[]⟩, .string ⟨#[]⟩, .int .u64 0, .slice none 0 0, .int .u64 0, .int .u64 0] 55)).heap.size = lo at *
  obtain ⟨gr, hgr⟩ : ∃ gr, gr = w.heap.size := ⟨_, rfl⟩
  obtain ⟨gd, hgd⟩ : ∃ gd, gd = w1.heap.size := ⟨_, rfl⟩
  have P1 : PZ 123 w gr gd lo g 55 55 #[.string ⟨#[]⟩, .string ⟨#[]⟩, .int .u64 0, .slice none 0 0, .int .u64 0, .int .u64 0] #[.string ⟨#[]⟩, .string ⟨#[]⟩, .int .u64 0, .slice none 0 0, .int .u64 0, .int .u64 0] l 0 (w1.alloc (.cells #[.string ⟨#[]⟩, .string ⟨#[]⟩, .int .u64 0, .slice none 0 0, .int .u64 0, .int .u64 0] 55)) :=
    ⟨hq1.alloc hq1.size _, by omega, by have := hq1.size; omega, by rw [hgr]; exact (Below.heap_alloc w1 _ _ (blk_lt hk1)).trans hk1, by rw [hgd]; exact heap_alloc_new w1 _, hr1.below ((Below.refl _ _).alloc (Nat.le_refl _) _), by omega, by omega⟩
  clear hq1 hk1 hg1 hg2 hgs hr1 hb1 HO hk0 ha0
  go_wp2_with fail
  rw [← hgd]
  generalize w1.alloc (.cells #[.string ⟨#[]⟩, .string ⟨#[]⟩, .int .u64 0, .slice none 0 0, .int .u64 0, .int .u64 0] 55) = wz at *
  clear hgd
  refine (dT_any P1.rd).mono ?_
  rintro e wa1 ⟨rfl, hr, hg⟩
  replace P1 := P1.call hg hr
  clear hr hg
  have b_sa := rB_le l 0
  generalize rB l 0 = Q at *
  obtain ⟨sa, l_sa, f_sa⟩ := Q
  dsimp only at P1 HV b_sa ⊢
  have z0 := blk_cell P1.loc 0
  have f0 := blk_free P1.loc 0
  have P2 : PZ 123 w gr gd lo g _ 55 _ #[.string ⟨sa.toArray⟩, .string ⟨#[]⟩, .int .u64 0, .slice none 0 0, .int .u64 0, .int .u64 0] l_sa f_sa ((wa1).setCell ⟨gd, 0, none⟩ (.string ⟨sa.toArray⟩)) := (P1.set 0 (.string ⟨sa.toArray⟩))
  clear P1
  go_wp2_with fail
  generalize (wa1).setCell ⟨gd, 0, none⟩ (.string ⟨sa.toArray⟩) = wb1 at *
  refine (dT_any P2.rd).mono ?_
  rintro e wa2 ⟨rfl, hr, hg⟩
  replace P2 := P2.call hg hr
  clear hr hg
  have b_sb := rB_le l_sa f_sa
  generalize rB l_sa f_sa = Q at *
  obtain ⟨sb, l_sb, f_sb⟩ := Q
  dsimp only at P2 HV b_sb ⊢
  have z0 := blk_cell P2.loc 1
  have f0 := blk_free P2.loc 1
  have P3 : PZ 123 w gr gd lo g _ 55 _ #[.string ⟨sa.toArray⟩, .string ⟨sb.toArray⟩, .int .u64 0, .slice none 0 0, .int .u64 0, .int .u64 0] l_sb f_sb ((wa2).setCell ⟨gd, 1, none⟩ (.string ⟨sb.toArray⟩)) := (P2.set 1 (.string ⟨sb.toArray⟩))
  clear P2
  go_wp2_with fail
  generalize (wa2).setCell ⟨gd, 1, none⟩ (.string ⟨sb.toArray⟩) = wb2 at *
  refine (dN_any P3.rd).mono ?_
  rintro e wa3 ⟨rfl, hr, hg⟩
  replace P3 := P3.call hg hr
  clear hr hg
  have b_sq := rN_ltP l_sb f_sb
  generalize rN l_sb f_sb = Q at *
  obtain ⟨sq, l_sq, f_sq⟩ := Q
  dsimp only at P3 HV b_sq ⊢
  have z0 := blk_cell P3.loc 2
  have f0 := blk_free P3.loc 2
  have P4 : PZ 123 w gr gd lo g _ 55 _ #[.string ⟨sa.toArray⟩, .string ⟨sb.toArray⟩, .int .u64 (sq : Int), .slice none 0 0, .int .u64 0, .int .u64 0] l_sq f_sq ((wa3).setCell ⟨gd, 2, none⟩ (.int .u64 (sq : Int))) := (P3.set 2 (.int .u64 (sq : Int)))
  clear P3
  go_wp2_with fail
  generalize (wa3).setCell ⟨gd, 2, none⟩ (.int .u64 (sq : Int)) = wb3 at *
  refine (dB_any P4.rd).mono ?_
  rintro e wa4 ⟨vdt, rfl, hodt, hr, hg⟩
  have hodt0 := P4.below.size
  have gldt := P4.rd.lt
  have dldt := blk_lt P4.loc
  have rldt := blk_lt P4.res
  have ndtg : vdt.ownBlock ≠ some g := fun e => by have := (hodt.lt _ e).1; omega
  have ndtd : vdt.ownBlock ≠ some gd := fun e => by have := (hodt.lt _ e).1; omega
  have ndtr : vdt.ownBlock ≠ some gr := fun e => by have := (hodt.lt _ e).1; omega
  replace P4 := P4.call hg hr
  clear hr hg
  have b_dt := rB_le l_sq f_sq
  generalize rB l_sq f_sq = Q at *
  obtain ⟨dt, l_dt, f_dt⟩ := Q
  dsimp only at P4 HV b_dt hodt ⊢
  have odt := hodt
  clear hodt gldt dldt rldt
  obtain ⟨Adt, cdt, rfl⟩ := odt.form
  have z0 := blk_cell P4.loc 3
  have f0 := blk_free P4.loc 3
  have P5 : PZ 123 w gr gd lo g _ 55 _ #[.string ⟨sa.toArray⟩, .string ⟨sb.toArray⟩, .int .u64 (sq : Int), .slice Adt dt.length cdt, .int .u64 0, .int .u64 0] l_dt f_dt ((wa4).setCell ⟨gd, 3, none⟩ (.slice Adt dt.length cdt)) := (P4.set 3 (.slice Adt dt.length cdt))
  clear P4
  replace odt := (odt.grown (grown_setR _ gd 3 (.slice Adt dt.length cdt)) (Or.inr ndtd))
  go_wp2_with fail
  generalize (wa4).setCell ⟨gd, 3, none⟩ (.slice Adt dt.length cdt) = wb4 at *
  refine (dN_any P5.rd).mono ?_
  rintro e wa5 ⟨rfl, hr, hg⟩
  replace odt := odt.grown hg (Or.inr ndtg)
  replace P5 := P5.call hg hr
  clear hr hg
  have b_ht := rN_ltP l_dt f_dt
  generalize rN l_dt f_dt = Q at *
  obtain ⟨ht, l_ht, f_ht⟩ := Q
  dsimp only at P5 HV b_ht ⊢
  have z0 := blk_cell P5.loc 4
  have f0 := blk_free P5.loc 4
  have P6 : PZ 123 w gr gd lo g _ 55 _ #[.string ⟨sa.toArray⟩, .string ⟨sb.toArray⟩, .int .u64 (sq : Int), .slice Adt dt.length cdt, .int .u64 (ht : Int), .int .u64 0] l_ht f_ht ((wa5).setCell ⟨gd, 4, none⟩ (.int .u64 (ht : Int))) := (P5.set 4 (.int .u64 (ht : Int)))
  clear P5
  replace odt := (odt.grown (grown_setR _ gd 4 (.int .u64 (ht : Int))) (Or.inr ndtd))
  go_wp2_with fail
  generalize (wa5).setCell ⟨gd, 4, none⟩ (.int .u64 (ht : Int)) = wb5 at *
  refine (dN_any P6.rd).mono ?_
  rintro e wa6 ⟨rfl, hr, hg⟩
  replace odt := odt.grown hg (Or.inr ndtg)
  replace P6 := P6.call hg hr
  clear hr hg
  have b_tm := rN_ltP l_ht f_ht
  generalize rN l_ht f_ht = Q at *
  obtain ⟨tm, l_tm, f_tm⟩ := Q
  dsimp only at P6 HV b_tm ⊢
  have z0 := blk_cell P6.loc 5
  have f0 := blk_free P6.loc 5
  have P7 : PZ 123 w gr gd lo g _ 55 _ #[.string ⟨sa.toArray⟩, .string ⟨sb.toArray⟩, .int .u64 (sq : Int), .slice Adt dt.length cdt, .int .u64 (ht : Int), .int .u64 (tm : Int)] l_tm f_tm ((wa6).setCell ⟨gd, 5, none⟩ (.int .u64 (tm : Int))) := (P6.set 5 (.int .u64 (tm : Int)))
  clear P6
  replace odt := (odt.grown (grown_setR _ gd 5 (.int .u64 (tm : Int))) (Or.inr ndtd))
  go_wp2_with fail
  generalize (wa6).setCell ⟨gd, 5, none⟩ (.int .u64 (tm : Int)) = wb6 at *
  refine (dEnd_any P7.rd).mono ?_
  rintro e w7 ⟨rfl, rfl⟩
  generalize rEnd l_tm f_tm = E at *
  subst hgr
  by_cases hE : E = 0
  · subst hE
    have hv := HV.out
    rw [if_pos rfl] at hv
    clear HV
    have r0 := blk_cell P7.res 0
    have q0 := blk_free P7.res 0
    have r1 := blk_cell P7.res 1
    have q1 := blk_free P7.res 1
    have r2 := blk_cell P7.res 2
    have q2 := blk_free P7.res 2
    have r3 := blk_cell P7.res 3
    have q3 := blk_free P7.res 3
    have r4 := blk_cell P7.res 4
    have q4 := blk_free P7.res 4
    have r5 := blk_cell P7.res 5
    have q5 := blk_free P7.res 5
    have hk7 := set6P P7.res (.string ⟨sa.toArray⟩) (.string ⟨sb.toArray⟩) (.int .u64 (sq : Int)) (.slice Adt dt.length cdt) (.int .u64 (ht : Int)) (.int .u64 (tm : Int))
    have hb7 := below_set6P P7.below P7.hr (.string ⟨sa.toArray⟩) (.string ⟨sb.toArray⟩) (.int .u64 (sq : Int)) (.slice Adt dt.length cdt) (.int .u64 (ht : Int)) (.int .u64 (tm : Int))
    have HD := Lib.hid (And.intro (blk_cell hk7 0) (And.intro (blk_cell hk7 1) (And.intro (blk_cell hk7 2) (And.intro (blk_cell hk7 3) (And.intro (blk_cell hk7 4) (blk_cell hk7 5))))))
    clear hk7
    have s0 := blk_cell P7.loc 0
    have s1 := blk_cell P7.loc 1
    have s2 := blk_cell P7.loc 2
    have s3 := blk_cell P7.loc 3
    have s4 := blk_cell P7.loc 4
    have s5 := blk_cell P7.loc 5
    have hsz := hodt0
    have OW := ((((((odt.grown (grown_setR _ w.heap.size 0 (.string ⟨sa.toArray⟩)) (Or.inr ndtr)).grown (grown_setR _ w.heap.size 1 (.string ⟨sb.toArray⟩)) (Or.inr ndtr)).grown (grown_setR _ w.heap.size 2 (.int .u64 (sq : Int))) (Or.inr ndtr)).grown (grown_setR _ w.heap.size 3 (.slice Adt dt.length cdt)) (Or.inr ndtr)).grown (grown_setR _ w.heap.size 4 (.int .u64 (ht : Int))) (Or.inr ndtr)).grown (grown_setR _ w.heap.size 5 (.int .u64 (tm : Int))) (Or.inr ndtr))
    go_wp2_with fail
    obtain ⟨d0, d1, d2, d3, d4, d5⟩ := HD.out
    refine bodyPost_ret (v := .tuple #[.agg #[.string ⟨sa.toArray⟩, .string ⟨sb.toArray⟩, .int .u64 (sq : Int), .slice Adt dt.length cdt, .int .u64 (ht : Int), .int .u64 (tm : Int)], .int .i64 0]) ?_ rfl ⟨Or.inl ⟨⟨⟨sa.toArray⟩, ⟨sb.toArray⟩, sq, dt, ht, tm⟩, _, hv, rfl, OW.more hsz⟩, hb7⟩
    simp at d0 d1 d2 d3 d4 d5
    simp [results, Tryd.results32, go_sem, d0, d1, d2, d3, d4, d5]
  · have hne : (E != 0) = true := by simpa using hE
    have hv := HV.out
    rw [if_neg hE] at hv
    clear HV
    have r0 := blk_cell P7.res 0
    have q0 := blk_free P7.res 0
    have r1 := blk_cell P7.res 1
    have q1 := blk_free P7.res 1
    have r2 := blk_cell P7.res 2
    have q2 := blk_free P7.res 2
    have r3 := blk_cell P7.res 3
    have q3 := blk_free P7.res 3
    have r4 := blk_cell P7.res 4
    have q4 := blk_free P7.res 4
    have r5 := blk_cell P7.res 5
    have q5 := blk_free P7.res 5
    have hk7 := set6P P7.res (.string ⟨#[]⟩) (.string ⟨#[]⟩) (.int .u64 0) (.slice none 0 0) (.int .u64 0) (.int .u64 0)
    have hb7 := below_set6P P7.below P7.hr (.string ⟨#[]⟩) (.string ⟨#[]⟩) (.int .u64 0) (.slice none 0 0) (.int .u64 0) (.int .u64 0)
    have HD := Lib.hid (And.intro (blk_cell hk7 0) (And.intro (blk_cell hk7 1) (And.intro (blk_cell hk7 2) (And.intro (blk_cell hk7 3) (And.intro (blk_cell hk7 4) (blk_cell hk7 5))))))
    clear hk7
    go_wp2_with fail
    obtain ⟨d0, d1, d2, d3, d4, d5⟩ := HD.out
    refine bodyPost_ret (v := .tuple #[.agg #[.string ⟨#[]⟩, .string ⟨#[]⟩, .int .u64 0, .slice none 0 0, .int .u64 0, .int .u64 0], .int .i64 140]) ?_ rfl ⟨Or.inr ⟨hv, rfl⟩, hb7⟩
    simp at d0 d1 d2 d3 d4 d5
    simp [results, Tryd.results32, go_sem, d0, d1, d2, d3, d4, d5]
theorem rTS0 (v : Value) (s : ByteArray) (l : List UInt8) (Z : World) (hr : Rd Z Z.heap.size v l) (hs : s.size ≤ maxLen) (hl : l.length ≤ 140737488355328 - 65539) :
    Calls Tryd.prog 59 #[v, .string s] Z fun e w' => ∃ v', e = .returned v' ∧ Own w' Z.heap.size v' (l ++ encS s) ∧ Below Z.heap.size Z w' :=
  (refT_any v s l Z hr hs hl).mono fun e w' ⟨v', h1, h2, h3⟩ => ⟨v', h1, by rw [List.append_assoc] at h2; exact h2, h3⟩
theorem rBS0 (v x : Value) (l m : List UInt8) (Z : World) (hr : Rd Z Z.heap.size v l) (hx : Rd Z Z.heap.size x m) (hl : l.length ≤ 140737488355328 - 65539) :
    Calls Tryd.prog 73 #[v, x] Z fun e w' => ∃ v', e = .returned v' ∧ Own w' Z.heap.size v' (l ++ encB m) ∧ Below Z.heap.size Z w' :=
  (refB_any v x l m Z hr hx hl).mono fun e w' ⟨v', h1, h2, h3⟩ => ⟨v', h1, by rw [List.append_assoc] at h2; exact h2, h3⟩
set_option maxHeartbeats 8000000 in
theorem rpbytes_any (p : PktV) (vd : Value) (w : World) (hr : Rd w w.heap.size vd p.data) (h1 : p.src.size ≤ maxLen) (h2 : p.dst.size ≤ maxLen) (h3 : p.seq < 18446744073709551616) (h4 : p.ht < 18446744073709551616) (h5 : p.tm < 18446744073709551616) :
    Calls Tryd.prog 34 #[p.val vd] w fun e w' => ∃ v', e = .returned v' ∧ Own w' w.heap.size v' (pktB p) ∧ Below w.heap.size w w' := by
  obtain ⟨src, dst, seq, data, ht, tm⟩ := p
  dsimp only at hr h1 h2 h3 h4 h5
  unfold PktV.val pktB
  dsimp only
  have HRD := Lib.hid hr
  obtain ⟨Ad, cd, rfl⟩ := hr.form
  obtain ⟨nd, hnd⟩ : ∃ n, n = data.length := ⟨_, rfl⟩
  rw [← hnd] at HRD ⊢
  clear hnd hr
  have hbox := heap_alloc_new w (.cells #[.string src, .string dst, .int .u64 (seq : Int), .slice Ad nd cd, .int .u64 (ht : Int), .int .u64 (tm : Int)] 55)
  have ha0 : Below w.heap.size w (w.alloc (.cells #[.string src, .string dst, .int .u64 (seq : Int), .slice Ad nd cd, .int .u64 (ht : Int), .int .u64 (tm : Int)] 55)) := (Below.refl _ _).alloc (Nat.le_refl _) _
  generalize hW0 : w.alloc (.cells #[.string src, .string dst, .int .u64 (seq : Int), .slice Ad nd cd, .int .u64 (ht : Int), .int .u64 (tm : Int)] 55) = W0 at *
  have hgl := blk_lt hbox
  have HRZ : Hid (∀ Z, Below W0.heap.size W0 Z → Rd Z Z.heap.size (.slice Ad nd cd) data) := Lib.hid fun Z hz => HRD.out.up (Nat.le_refl _) (below_chain ha0 ha0.size hz)
  generalize hgg : w.heap.size = g0 at *
  have HC : Hid (∀ Z, Below W0.heap.size W0 Z → Z.cell? ⟨g0, 0, none⟩ = some (.string src) ∧ Z.cell? ⟨g0, 1, none⟩ = some (.string dst) ∧ Z.cell? ⟨g0, 2, none⟩ = some (.int .u64 (seq : Int)) ∧ Z.cell? ⟨g0, 3, none⟩ = some (.slice Ad nd cd) ∧ Z.cell? ⟨g0, 4, none⟩ = some (.int .u64 (ht : Int)) ∧ Z.cell? ⟨g0, 5, none⟩ = some (.int .u64 (tm : Int))) := Lib.hid fun Z hz => ⟨blk_cell ((hz.block _ hgl).trans hbox) 0, blk_cell ((hz.block _ hgl).trans hbox) 1, blk_cell ((hz.block _ hgl).trans hbox) 2, blk_cell ((hz.block _ hgl).trans hbox) 3, blk_cell ((hz.block _ hgl).trans hbox) 4, blk_cell ((hz.block _ hgl).trans hbox) 5⟩
  have hkD : Below W0.heap.size W0 W0.drew := Below.drew (Below.refl _ _)
  have l1 := encB_lenP (strBytes src)
  have l2 := encB_lenP (strBytes dst)
  have l3 := encB_lenP data
  replace l1 : (encS src).length ≤ 65539 := l1
  replace l2 : (encS dst).length ≤ 65539 := l2
  have HT1 := Lib.hid (rTS0 (.slice none 0 0) src [] W0.drew (Rd.nil _ _) h1 (by simp))
  rw [List.nil_append] at HT1
  have HT2 : Hid (∀ (v : Value) (Z : World) (B : Nat), Own Z B v (encS src) → Calls Tryd.prog 59 #[v, .string dst] Z fun e w' => ∃ v', e = .returned v' ∧ Own w' Z.heap.size v' (encS src ++ encS dst) ∧ Below Z.heap.size Z w') :=
    Lib.hid fun v Z B ho => rTS0 v dst _ Z ho.rd h2 (by omega)
  have HN1 : Hid (∀ (v : Value) (Z : World) (B : Nat), Own Z B v (encS src ++ encS dst) → Calls Tryd.prog 60 #[v, .int .u64 (seq : Int)] Z fun e w' => ∃ v', e = .returned v' ∧ Own w' Z.heap.size v' ((encS src ++ encS dst) ++ be seq 8) ∧ Below Z.heap.size Z w') :=
    Lib.hid fun v Z B ho => refN_any v _ seq Z ho.rd h3 (by simp; omega)
  have HB1 : Hid (∀ (v : Value) (Z : World) (B : Nat), Below W0.heap.size W0 Z → Own Z B v ((encS src ++ encS dst) ++ be seq 8) → Calls Tryd.prog 73 #[v, .slice Ad nd cd] Z fun e w' => ∃ v', e = .returned v' ∧ Own w' Z.heap.size v' (((encS src ++ encS dst) ++ be seq 8) ++ encB data) ∧ Below Z.heap.size Z w') :=
    Lib.hid fun v Z B hz ho => rBS0 v _ _ data Z ho.rd (HRZ.out Z hz) (by simp [be_length]; omega)
  have HN2 : Hid (∀ (v : Value) (Z : World) (B : Nat), Own Z B v (((encS src ++ encS dst) ++ be seq 8) ++ encB data) → Calls Tryd.prog 60 #[v, .int .u64 (ht : Int)] Z fun e w' => ∃ v', e = .returned v' ∧ Own w' Z.heap.size v' ((((encS src ++ encS dst) ++ be seq 8) ++ encB data) ++ be ht 8) ∧ Below Z.heap.size Z w') :=
    Lib.hid fun v Z B ho => refN_any v _ ht Z ho.rd h4 (by simp [be_length]; omega)
  have HN3 : Hid (∀ (v : Value) (Z : World) (B : Nat), Own Z B v ((((encS src ++ encS dst) ++ be seq 8) ++ encB data) ++ be ht 8) → Calls Tryd.prog 60 #[v, .int .u64 (tm : Int)] Z fun e w' => ∃ v', e = .returned v' ∧ Own w' Z.heap.size v' (((((encS src ++ encS dst) ++ be seq 8) ++ encB data) ++ be ht 8) ++ be tm 8) ∧ Below Z.heap.size Z w') :=
    Lib.hid fun v Z B ho => refN_any v _ tm Z ho.rd h5 (by simp [be_length]; omega)
  generalize ((((encS src ++ encS dst) ++ be seq 8) ++ encB data) ++ be ht 8) ++ be tm 8 = L6 at *
  generalize (((encS src ++ encS dst) ++ be seq 8) ++ encB data) ++ be ht 8 = L5 at *
  generalize ((encS src ++ encS dst) ++ be seq 8) ++ encB data = L4 at *
  generalize (encS src ++ encS dst) ++ be seq 8 = L3 at *
  generalize encS src ++ encS dst = L2 at *
  generalize encS src = L1 at *
  clear hbox l1 l2 l3 h1 h2 h3 h4 h5 HRD HRZ
  go_enter Tryd.func34, Tryd.ntmps34
  go_wp2_with fail
  try rw [hW0]
  clear hW0
  try rw [hgg]
  go_region_held_law (fun Z => Z.cell? ⟨g0, 0, none⟩ = some (.string src) ∧ Z.cell? ⟨g0, 1, none⟩ = some (.string dst) ∧ Z.cell? ⟨g0, 2, none⟩ = some (.int .u64 (seq : Int)) ∧ Z.cell? ⟨g0, 3, none⟩ = some (.slice Ad nd cd) ∧ Z.cell? ⟨g0, 4, none⟩ = some (.int .u64 (ht : Int)) ∧ Z.cell? ⟨g0, 5, none⟩ = some (.int .u64 (tm : Int)))
    (with_reducible first | exact HC.out _ hk3 | exact HC.out _ hk2 | exact HC.out _ hk1 | exact HC.out _ hkD)
    ((first
      | (go_at_call 59; first
          | (refine (HT2.out _ _ _ ho1).mono ?_; rintro e w2 ⟨v2, rfl, ho2, hb2⟩; have hk2 := below_chain hk1 hk1.size hb2)
          | (refine HT1.out.mono ?_; rintro e w1 ⟨v1, rfl, ho1, hb1⟩; have hk1 := below_chain hkD hkD.size hb1))
      | (go_at_call 60; refine (HN1.out _ _ _ ho2).mono ?_; rintro e w3 ⟨v3, rfl, ho3, hb3⟩; have hk3 := below_chain hk2 hk2.size hb3)))
  all_goals
    have hkE := Below.drew hk3
    have hoE : Own w3.drew _ v3 L3 := ho3
    obtain ⟨A3, c3, rfl⟩ := ho3.form
    generalize L3.length = n3 at *
    clear HT1 HT2 HN1 ho1 ho2 ho3
    go_wp2_with fail
    go_region_held_law (fun Z => Z.cell? ⟨g0, 0, none⟩ = some (.string src) ∧ Z.cell? ⟨g0, 1, none⟩ = some (.string dst) ∧ Z.cell? ⟨g0, 2, none⟩ = some (.int .u64 (seq : Int)) ∧ Z.cell? ⟨g0, 3, none⟩ = some (.slice Ad nd cd) ∧ Z.cell? ⟨g0, 4, none⟩ = some (.int .u64 (ht : Int)) ∧ Z.cell? ⟨g0, 5, none⟩ = some (.int .u64 (tm : Int)))
      (with_reducible first | exact HC.out _ hk6 | exact HC.out _ hk5 | exact HC.out _ hk4 | exact HC.out _ hkE)
      ((first
        | (go_at_call 73; refine (HB1.out _ _ _ hkE hoE).mono ?_; rintro e w4 ⟨v4, rfl, ho4, hb4⟩; have hk4 := below_chain hkE hkE.size hb4)
        | (go_at_call 60; first
            | (refine (HN3.out _ _ _ ho5).mono ?_; rintro e w6 ⟨v6, rfl, ho6, hb6⟩; have hk6 := below_chain hk5 hk5.size hb6)
            | (refine (HN2.out _ _ _ ho4).mono ?_; rintro e w5 ⟨v5, rfl, ho5, hb5⟩; have hk5 := below_chain hk4 hk4.size hb5))))
    all_goals
      obtain ⟨A6, c6, rfl⟩ := ho6.form
      go_wp2_with fail
      subst hgg
      have hs5 := Nat.le_trans ha0.size hk5.size
      have hfin := below_chain ha0 ha0.size hk6
      go_ret
      exact ⟨_, rfl, ho6.more hs5, hfin⟩
set_option maxHeartbeats 4000000 in
theorem rphash_any (p : PktV) (vd : Value) (w : World) (hr : Rd w w.heap.size vd p.data) (h1 : p.src.size ≤ maxLen) (h2 : p.dst.size ≤ maxLen) (h3 : p.seq < 18446744073709551616) (h4 : p.ht < 18446744073709551616) (h5 : p.tm < 18446744073709551616)
    (fr : TypeId × Nat × Nat) (hk : w.heap[1]? = some (.cells kVals fr.1 fr.2)) :
    Calls Tryd.prog 36 #[p.val vd] w fun e w' => ∃ v', e = .returned v' ∧ Own w' w.heap.size v' (tagH wPkt [pktB p]) ∧ Below w.heap.size w w' := by
  have hn0 := blk_lt hk
  have HK := Lib.hid hk
  clear hk
  have ha0 : ∀ o, Below w.heap.size w (w.alloc o) := fun o => (Below.refl _ _).alloc (Nat.le_refl _) o
  have HB := Lib.hid (fun o => rpbytes_any p vd (w.alloc o) (hr.up (Nat.le_refl _) (ha0 o)) h1 h2 h3 h4 h5)
  obtain ⟨Ad, cd, rfl⟩ := hr.form
  obtain ⟨src, dst, seq, data, ht, tm⟩ := p
  unfold PktV.val at *
  dsimp only at *
  generalize data.length = nd at *
  clear hr h1 h2 h3 h4 h5
  go_enter Tryd.func36, Tryd.ntmps36
  go_wp2_with fail
  refine (HB.out _).mono ?_
  rintro e w1 ⟨v1, rfl, ho1, hb1⟩
  have q1 := below_chain (ha0 _) (ha0 _).size hb1
  have hp := partsA1 w1 v1 _ 41 ho1.rd
  have hbx := q1.alloc q1.size (.cells #[v1] 41)
  have hkx := (hbx.block _ hn0).trans HK.out
  obtain ⟨A, cc, rfl⟩ := ho1.form
  clear ho1
  generalize hLP : pktB _ = LP at *
  generalize LP.length = nl at *
  go_wp2_with fail
  refine (rtagged_any wPkt _ [LP] _ hp (by unfold maxLen wPkt; decide) (by simp) fr hkx).mono ?_
  rintro e w2 ⟨v2, rfl, ho2, hb2⟩
  have hq := below_chain hbx hbx.size hb2
  obtain ⟨A2, c2, rfl⟩ := ho2.form
  go_wp2_with fail
  go_ret
  rw [hLP]
  exact ⟨_, rfl, ho2.more hbx.size, hq⟩

def wAckW : ByteArray := ⟨#[97, 99, 107]⟩
set_option maxHeartbeats 2000000 in
theorem packh_any (v : Value) (l : List UInt8) (w : World) (hr : Rd w w.heap.size v l) (fr : TypeId × Nat × Nat) (hk : w.heap[0]? = some (.cells kVals fr.1 fr.2)) :
    Calls Tryd.prog 37 #[v] w fun e w' => ∃ v', e = .returned v' ∧ Own w' w.heap.size v' (tagH wAckW [l]) ∧ Below w.heap.size w w' := by
  have hn0 := blk_lt hk
  have HK := Lib.hid hk
  clear hk
  have hp := partsA1 w v l 41 hr
  have hbx := (Below.refl w.heap.size w).alloc (Nat.le_refl _) (.cells #[v] 41)
  have hkx := (hbx.block _ hn0).trans HK.out
  obtain ⟨A, cc, rfl⟩ := hr.form
  clear hr
  generalize l.length = n at *
  go_enter Tryd.func37, Tryd.ntmps37
  go_wp2_with fail
  refine (tagged_any wAckW _ [l] _ hp (by unfold maxLen wAckW; decide) (by simp) fr hkx).mono ?_
  rintro e w2 ⟨v2, rfl, ho2, hb2⟩
  have hq := below_chain hbx hbx.size hb2
  obtain ⟨A2, c2, rfl⟩ := ho2.form
  go_wp2_with fail
  go_ret
  exact ⟨_, rfl, ho2.more hbx.size, hq⟩
set_option maxHeartbeats 2000000 in
theorem rpackh_any (v : Value) (l : List UInt8) (w : World) (hr : Rd w w.heap.size v l) (fr : TypeId × Nat × Nat) (hk : w.heap[1]? = some (.cells kVals fr.1 fr.2)) :
    Calls Tryd.prog 38 #[v] w fun e w' => ∃ v', e = .returned v' ∧ Own w' w.heap.size v' (tagH wAckW [l]) ∧ Below w.heap.size w w' := by
  have hn0 := blk_lt hk
  have HK := Lib.hid hk
  clear hk
  have hp := partsA1 w v l 41 hr
  have hbx := (Below.refl w.heap.size w).alloc (Nat.le_refl _) (.cells #[v] 41)
  have hkx := (hbx.block _ hn0).trans HK.out
  obtain ⟨A, cc, rfl⟩ := hr.form
  clear hr
  generalize l.length = n at *
  go_enter Tryd.func38, Tryd.ntmps38
  go_wp2_with fail
  refine (rtagged_any wAckW _ [l] _ hp (by unfold maxLen wAckW; decide) (by simp) fr hkx).mono ?_
  rintro e w2 ⟨v2, rfl, ho2, hb2⟩
  have hq := below_chain hbx hbx.size hb2
  obtain ⟨A2, c2, rfl⟩ := ho2.form
  go_wp2_with fail
  go_ret
  exact ⟨_, rfl, ho2.more hbx.size, hq⟩
end Go.Proofs.YtlkkjnacolmmpaaDoor
