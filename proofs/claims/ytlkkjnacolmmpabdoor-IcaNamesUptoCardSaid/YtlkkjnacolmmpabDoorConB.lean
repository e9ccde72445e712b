
/- The walks of connections and channels in bytes. -/
import Derived.Test.YtlkkjnacolmmpabDoorCliM
namespace Go.Proofs.YtlkkjnacolmmpabDoor
set_option maxRecDepth 100000
open Go Go.RowKit
set_option linter.unusedVariables false

set_option maxHeartbeats 8000000 in
theorem cnbytes_any (c : CnV) (w : World) (h_st : c.st < 18446744073709551616) (h_cl : c.cl.size ≤ maxLen) (h_cc : c.cc.size ≤ maxLen) (h_ct : c.ct.size ≤ maxLen) :
    Calls Tryd.prog 14 #[c.val] w fun e w' => ∃ v', e = .returned v' ∧ Own w' w.heap.size v' (cnB c) ∧ Below w.heap.size w w' := by
  obtain ⟨st, cl, cc, ct⟩ := c
  dsimp only at h_st h_cl h_cc h_ct
  unfold CnV.val cnB
  dsimp only
  have hbox := heap_alloc_new w (.cells #[.int .u64 (st : Int), .string cl, .string cc, .string ct] 48)
  have ha0 : Below w.heap.size w (w.alloc (.cells #[.int .u64 (st : Int), .string cl, .string cc, .string ct] 48)) := (Below.refl _ _).alloc (Nat.le_refl _) _
  generalize hW0 : w.alloc (.cells #[.int .u64 (st : Int), .string cl, .string cc, .string ct] 48) = W0 at *
  have hgl := blk_lt hbox
  generalize hgg : w.heap.size = g0 at *
  have HC : Hid (∀ Z, Below W0.heap.size W0 Z → Z.cell? ⟨g0, 0, none⟩ = some (.int .u64 (st : Int)) ∧ Z.cell? ⟨g0, 1, none⟩ = some (.string cl) ∧ Z.cell? ⟨g0, 2, none⟩ = some (.string cc) ∧ Z.cell? ⟨g0, 3, none⟩ = some (.string ct)) := Lib.hid fun Z hz => ⟨blk_cell ((hz.block _ hgl).trans hbox) 0, blk_cell ((hz.block _ hgl).trans hbox) 1, blk_cell ((hz.block _ hgl).trans hbox) 2, blk_cell ((hz.block _ hgl).trans hbox) 3⟩
  have hkD : Below W0.heap.size W0 W0.drew := Below.drew (Below.refl _ _)
  have l_cl : (encS cl).length ≤ 65539 := encB_lenP (strBytes cl)
  have l_cc : (encS cc).length ≤ 65539 := encB_lenP (strBytes cc)
  have l_ct : (encS ct).length ≤ 65539 := encB_lenP (strBytes ct)
  have H1 : Hid (∀ (Z : World), Calls Tryd.prog 25 #[.slice none 0 0, .int .u64 (st : Int)] Z fun e w' => ∃ v', e = .returned v' ∧ Own w' Z.heap.size v' (be st 8) ∧ Below Z.heap.size Z w') :=
    Lib.hid fun Z => N_any (.slice none 0 0) _ st Z (Rd.nil _ _) h_st (by simp [be_length]; try omega)
  have H2 : Hid (∀ (v : Value) (Z : World) (B : Nat), Own Z B v (be st 8) → Calls Tryd.prog 24 #[v, .string cl] Z fun e w' => ∃ v', e = .returned v' ∧ Own w' Z.heap.size v' (be st 8 ++ encS cl) ∧ Below Z.heap.size Z w') :=
    Lib.hid fun v Z B ho => TS0 v cl _ Z ho.rd h_cl (by simp [be_length]; try omega)
  have H3 : Hid (∀ (v : Value) (Z : World) (B : Nat), Own Z B v (be st 8 ++ encS cl) → Calls Tryd.prog 24 #[v, .string cc] Z fun e w' => ∃ v', e = .returned v' ∧ Own w' Z.heap.size v' ((be st 8 ++ encS cl) ++ encS cc) ∧ Below Z.heap.size Z w') :=
    Lib.hid fun v Z B ho => TS0 v cc _ Z ho.rd h_cc (by simp [be_length]; try omega)
  have H4 : Hid (∀ (v : Value) (Z : World) (B : Nat), Own Z B v ((be st 8 ++ encS cl) ++ encS cc) → Calls Tryd.prog 24 #[v, .string ct] Z fun e w' => ∃ v', e = .returned v' ∧ Own w' Z.heap.size v' (((be st 8 ++ encS cl) ++ encS cc) ++ encS ct) ∧ Below Z.heap.size Z w') :=
    Lib.hid fun v Z B ho => TS0 v ct _ Z ho.rd h_ct (by simp [be_length]; try omega)
  generalize ((be st 8 ++ encS cl) ++ encS cc) ++ encS ct = L4 at *
  generalize (be st 8 ++ encS cl) ++ encS cc = L3 at *
  generalize be st 8 ++ encS cl = L2 at *
  generalize be st 8 = L1 at *
  clear hbox h_st h_cl h_cc h_ct l_cl l_cc l_ct
  go_enter Tryd.func14, Tryd.ntmps14
  go_wp2_with fail
  try rw [hW0]
  clear hW0
  try rw [hgg]
  go_region_held_law (fun Z => Z.cell? ⟨g0, 0, none⟩ = some (.int .u64 (st : Int)) ∧ Z.cell? ⟨g0, 1, none⟩ = some (.string cl) ∧ Z.cell? ⟨g0, 2, none⟩ = some (.string cc) ∧ Z.cell? ⟨g0, 3, none⟩ = some (.string ct))
    (with_reducible first | exact HC.out _ hk4 | exact HC.out _ hk3 | exact HC.out _ hk2 | exact HC.out _ hk1 | exact HC.out _ hkD)
    ((first
      | (go_at_call 25; first
        | (refine (H1.out _).mono ?_; rintro e w1 ⟨v1, rfl, ho1, hb1⟩; have hk1 := below_chain hkD hkD.size hb1))
      | (go_at_call 24; first
        | (refine (H4.out _ _ _ ho3).mono ?_; rintro e w4 ⟨v4, rfl, ho4, hb4⟩; have hk4 := below_chain hk3 hk3.size hb4)
        | (refine (H3.out _ _ _ ho2).mono ?_; rintro e w3 ⟨v3, rfl, ho3, hb3⟩; have hk3 := below_chain hk2 hk2.size hb3)
        | (refine (H2.out _ _ _ ho1).mono ?_; rintro e w2 ⟨v2, rfl, ho2, hb2⟩; have hk2 := below_chain hk1 hk1.size hb2))))
  all_goals
    obtain ⟨A4, c4, rfl⟩ := ho4.form
    go_wp2_with fail
    subst hgg
    have hsF := Nat.le_trans ha0.size hk3.size
    have hfin := below_chain ha0 ha0.size hk4
    go_ret
    exact ⟨_, rfl, ho4.more hsF, hfin⟩
set_option maxHeartbeats 8000000 in
theorem chbytes_any (c : ChV) (w : World) (h_st : c.st < 18446744073709551616) (h_po : c.po.size ≤ maxLen) (h_cp : c.cp.size ≤ maxLen) (h_cn : c.cn.size ≤ maxLen) (h_cc : c.cc.size ≤ maxLen) (h_ve : c.ve.size ≤ maxLen) :
    Calls Tryd.prog 73 #[c.val] w fun e w' => ∃ v', e = .returned v' ∧ Own w' w.heap.size v' (chB c) ∧ Below w.heap.size w w' := by
  obtain ⟨st, od, po, cp, cn, cc, ve⟩ := c
  dsimp only at h_st h_po h_cp h_cn h_cc h_ve
  unfold ChV.val chB
  dsimp only
  have hbox := heap_alloc_new w (.cells #[.int .u64 (st : Int), .bool od, .string po, .string cp, .string cn, .string cc, .string ve] 67)
  have ha0 : Below w.heap.size w (w.alloc (.cells #[.int .u64 (st : Int), .bool od, .string po, .string cp, .string cn, .string cc, .string ve] 67)) := (Below.refl _ _).alloc (Nat.le_refl _) _
  generalize hW0 : w.alloc (.cells #[.int .u64 (st : Int), .bool od, .string po, .string cp, .string cn, .string cc, .string ve] 67) = W0 at *
  have hgl := blk_lt hbox
  generalize hgg : w.heap.size = g0 at *
  have HC : Hid (∀ Z, Below W0.heap.size W0 Z → Z.cell? ⟨g0, 0, none⟩ = some (.int .u64 (st : Int)) ∧ Z.cell? ⟨g0, 1, none⟩ = some (.bool od) ∧ Z.cell? ⟨g0, 2, none⟩ = some (.string po) ∧ Z.cell? ⟨g0, 3, none⟩ = some (.string cp) ∧ Z.cell? ⟨g0, 4, none⟩ = some (.string cn) ∧ Z.cell? ⟨g0, 5, none⟩ = some (.string cc) ∧ Z.cell? ⟨g0, 6, none⟩ = some (.string ve)) := Lib.hid fun Z hz => ⟨blk_cell ((hz.block _ hgl).trans hbox) 0, blk_cell ((hz.block _ hgl).trans hbox) 1, blk_cell ((hz.block _ hgl).trans hbox) 2, blk_cell ((hz.block _ hgl).trans hbox) 3, blk_cell ((hz.block _ hgl).trans hbox) 4, blk_cell ((hz.block _ hgl).trans hbox) 5, blk_cell ((hz.block _ hgl).trans hbox) 6⟩
  have hkD : Below W0.heap.size W0 W0.drew := Below.drew (Below.refl _ _)
  have l_po : (encS po).length ≤ 65539 := encB_lenP (strBytes po)
  have l_cp : (encS cp).length ≤ 65539 := encB_lenP (strBytes cp)
  have l_cn : (encS cn).length ≤ 65539 := encB_lenP (strBytes cn)
  have l_cc : (encS cc).length ≤ 65539 := encB_lenP (strBytes cc)
  have l_ve : (encS ve).length ≤ 65539 := encB_lenP (strBytes ve)
  have H1 : Hid (∀ (Z : World), Calls Tryd.prog 25 #[.slice none 0 0, .int .u64 (st : Int)] Z fun e w' => ∃ v', e = .returned v' ∧ Own w' Z.heap.size v' (be st 8) ∧ Below Z.heap.size Z w') :=
    Lib.hid fun Z => N_any (.slice none 0 0) _ st Z (Rd.nil _ _) h_st (by simp [be_length]; try omega)
  have H2 : Hid (∀ (v : Value) (Z : World) (B : Nat), Own Z B v (be st 8) → Calls Tryd.prog 77 #[v, .bool od] Z fun e w' => ∃ v', e = .returned v' ∧ Own w' Z.heap.size v' (be st 8 ++ [fb od]) ∧ Below Z.heap.size Z w') :=
    Lib.hid fun v Z B ho => F_any v od _ Z ho.rd (by simp [be_length]; try omega)
  have H3 : Hid (∀ (v : Value) (Z : World) (B : Nat), Own Z B v (be st 8 ++ [fb od]) → Calls Tryd.prog 24 #[v, .string po] Z fun e w' => ∃ v', e = .returned v' ∧ Own w' Z.heap.size v' ((be st 8 ++ [fb od]) ++ encS po) ∧ Below Z.heap.size Z w') :=
    Lib.hid fun v Z B ho => TS0 v po _ Z ho.rd h_po (by simp [be_length]; try omega)
  have H4 : Hid (∀ (v : Value) (Z : World) (B : Nat), Own Z B v ((be st 8 ++ [fb od]) ++ encS po) → Calls Tryd.prog 24 #[v, .string cp] Z fun e w' => ∃ v', e = .returned v' ∧ Own w' Z.heap.size v' (((be st 8 ++ [fb od]) ++ encS po) ++ encS cp) ∧ Below Z.heap.size Z w') :=
    Lib.hid fun v Z B ho => TS0 v cp _ Z ho.rd h_cp (by simp [be_length]; try omega)
  have H5 : Hid (∀ (v : Value) (Z : World) (B : Nat), Own Z B v (((be st 8 ++ [fb od]) ++ encS po) ++ encS cp) → Calls Tryd.prog 24 #[v, .string cn] Z fun e w' => ∃ v', e = .returned v' ∧ Own w' Z.heap.size v' ((((be st 8 ++ [fb od]) ++ encS po) ++ encS cp) ++ encS cn) ∧ Below Z.heap.size Z w') :=
    Lib.hid fun v Z B ho => TS0 v cn _ Z ho.rd h_cn (by simp [be_length]; try omega)
  have H6 : Hid (∀ (v : Value) (Z : World) (B : Nat), Own Z B v ((((be st 8 ++ [fb od]) ++ encS po) ++ encS cp) ++ encS cn) → Calls Tryd.prog 24 #[v, .string cc] Z fun e w' => ∃ v', e = .returned v' ∧ Own w' Z.heap.size v' (((((be st 8 ++ [fb od]) ++ encS po) ++ encS cp) ++ encS cn) ++ encS cc) ∧ Below Z.heap.size Z w') :=
    Lib.hid fun v Z B ho => TS0 v cc _ Z ho.rd h_cc (by simp [be_length]; try omega)
  have H7 : Hid (∀ (v : Value) (Z : World) (B : Nat), Own Z B v (((((be st 8 ++ [fb od]) ++ encS po) ++ encS cp) ++ encS cn) ++ encS cc) → Calls Tryd.prog 24 #[v, .string ve] Z fun e w' => ∃ v', e = .returned v' ∧ Own w' Z.heap.size v' ((((((be st 8 ++ [fb od]) ++ encS po) ++ encS cp) ++ encS cn) ++ encS cc) ++ encS ve) ∧ Below Z.heap.size Z w') :=
    Lib.hid fun v Z B ho => TS0 v ve _ Z ho.rd h_ve (by simp [be_length]; try omega)
  generalize (((((be st 8 ++ [fb od]) ++ encS po) ++ encS cp) ++ encS cn) ++ encS cc) ++ encS ve = L7 at *
  generalize ((((be st 8 ++ [fb od]) ++ encS po) ++ encS cp) ++ encS cn) ++ encS cc = L6 at *
  generalize (((be st 8 ++ [fb od]) ++ encS po) ++ encS cp) ++ encS cn = L5 at *
  generalize ((be st 8 ++ [fb od]) ++ encS po) ++ encS cp = L4 at *
  generalize (be st 8 ++ [fb od]) ++ encS po = L3 at *
  generalize be st 8 ++ [fb od] = L2 at *
  generalize be st 8 = L1 at *
  clear hbox h_st h_po h_cp h_cn h_cc h_ve l_po l_cp l_cn l_cc l_ve
  go_enter Tryd.func73, Tryd.ntmps73
  go_wp2_with fail
  try rw [hW0]
  clear hW0
  try rw [hgg]
  go_region_held_law (fun Z => Z.cell? ⟨g0, 0, none⟩ = some (.int .u64 (st : Int)) ∧ Z.cell? ⟨g0, 1, none⟩ = some (.bool od) ∧ Z.cell? ⟨g0, 2, none⟩ = some (.string po) ∧ Z.cell? ⟨g0, 3, none⟩ = some (.string cp) ∧ Z.cell? ⟨g0, 4, none⟩ = some (.string cn) ∧ Z.cell? ⟨g0, 5, none⟩ = some (.string cc) ∧ Z.cell? ⟨g0, 6, none⟩ = some (.string ve))
    (with_reducible first | exact HC.out _ hk2 | exact HC.out _ hk1 | exact HC.out _ hkD)
    ((first
      | (go_at_call 25; first
        | (refine (H1.out _).mono ?_; rintro e w1 ⟨v1, rfl, ho1, hb1⟩; have hk1 := below_chain hkD hkD.size hb1))
      | (go_at_call 77; first
        | (refine (H2.out _ _ _ ho1).mono ?_; rintro e w2 ⟨v2, rfl, ho2, hb2⟩; have hk2 := below_chain hk1 hk1.size hb2))))
  all_goals
    have hkE1 := Below.drew hk2
    have hoE1 : Own w2.drew _ v2 L2 := ho2
    obtain ⟨A2, c2, rfl⟩ := ho2.form
    generalize L2.length = n2 at *
    clear ho1 ho2
    go_wp2_with fail
    go_region_held_law (fun Z => Z.cell? ⟨g0, 0, none⟩ = some (.int .u64 (st : Int)) ∧ Z.cell? ⟨g0, 1, none⟩ = some (.bool od) ∧ Z.cell? ⟨g0, 2, none⟩ = some (.string po) ∧ Z.cell? ⟨g0, 3, none⟩ = some (.string cp) ∧ Z.cell? ⟨g0, 4, none⟩ = some (.string cn) ∧ Z.cell? ⟨g0, 5, none⟩ = some (.string cc) ∧ Z.cell? ⟨g0, 6, none⟩ = some (.string ve))
      (with_reducible first | exact HC.out _ hk4 | exact HC.out _ hk3 | exact HC.out _ hkE1)
      ((first
        | (go_at_call 24; first
          | (refine (H4.out _ _ _ ho3).mono ?_; rintro e w4 ⟨v4, rfl, ho4, hb4⟩; have hk4 := below_chain hk3 hk3.size hb4)
          | (refine (H3.out _ _ _ hoE1).mono ?_; rintro e w3 ⟨v3, rfl, ho3, hb3⟩; have hk3 := below_chain hkE1 hkE1.size hb3))))
    all_goals
      have hkE2 := Below.drew hk4
      have hoE2 : Own w4.drew _ v4 L4 := ho4
      obtain ⟨A4, c4, rfl⟩ := ho4.form
      generalize L4.length = n4 at *
      clear ho3 ho4
      go_wp2_with fail
      go_region_held_law (fun Z => Z.cell? ⟨g0, 0, none⟩ = some (.int .u64 (st : Int)) ∧ Z.cell? ⟨g0, 1, none⟩ = some (.bool od) ∧ Z.cell? ⟨g0, 2, none⟩ = some (.string po) ∧ Z.cell? ⟨g0, 3, none⟩ = some (.string cp) ∧ Z.cell? ⟨g0, 4, none⟩ = some (.string cn) ∧ Z.cell? ⟨g0, 5, none⟩ = some (.string cc) ∧ Z.cell? ⟨g0, 6, none⟩ = some (.string ve))
        (with_reducible first | exact HC.out _ hk7 | exact HC.out _ hk6 | exact HC.out _ hk5 | exact HC.out _ hkE2)
        ((first
          | (go_at_call 24; first
            | (refine (H7.out _ _ _ ho6).mono ?_; rintro e w7 ⟨v7, rfl, ho7, hb7⟩; have hk7 := below_chain hk6 hk6.size hb7)
            | (refine (H6.out _ _ _ ho5).mono ?_; rintro e w6 ⟨v6, rfl, ho6, hb6⟩; have hk6 := below_chain hk5 hk5.size hb6)
            | (refine (H5.out _ _ _ hoE2).mono ?_; rintro e w5 ⟨v5, rfl, ho5, hb5⟩; have hk5 := below_chain hkE2 hkE2.size hb5))))
      all_goals
        obtain ⟨A7, c7, rfl⟩ := ho7.form
        go_wp2_with fail
        subst hgg
        have hsF := Nat.le_trans ha0.size hk6.size
        have hfin := below_chain ha0 ha0.size hk7
        go_ret
        exact ⟨_, rfl, ho7.more hsF, hfin⟩
end Go.Proofs.YtlkkjnacolmmpabDoor
