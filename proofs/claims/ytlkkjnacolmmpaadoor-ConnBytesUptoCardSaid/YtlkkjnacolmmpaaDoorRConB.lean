
/- The walks of connections and channels, the document's, in bytes. -/
import Derived.Test.YtlkkjnacolmmpaaDoorCliM
import Derived.Test.YtlkkjnacolmmpaaDoorWireDoc0
import Derived.Test.YtlkkjnacolmmpaaDoorRefF
namespace Go.Proofs.YtlkkjnacolmmpaaDoor
set_option maxRecDepth 100000
open Go Go.RowKit
set_option linter.unusedVariables false

theorem rTSx (v : Value) (s : ByteArray) (l : List UInt8) (Z : World) (hr : Rd Z Z.heap.size v l) (hs : s.size ≤ maxLen) (hl : l.length ≤ 140737488355328 - 65539) :
    Calls Tryd.prog 59 #[v, .string s] Z fun e w' => ∃ v', e = .returned v' ∧ Own w' Z.heap.size v' (l ++ encS s) ∧ Below Z.heap.size Z w' :=
  (refT_any v s l Z hr hs hl).mono fun e w' ⟨v', h1, h2, h3⟩ => ⟨v', h1, by rw [List.append_assoc] at h2; exact h2, h3⟩
set_option maxHeartbeats 8000000 in
theorem rcnbytes_any (c : CnV) (w : World) (h_st : c.st < 18446744073709551616) (h_cl : c.cl.size ≤ maxLen) (h_cc : c.cc.size ≤ maxLen) (h_ct : c.ct.size ≤ maxLen) :
    Calls Tryd.prog 16 #[c.val] w fun e w' => ∃ v', e = .returned v' ∧ Own w' w.heap.size v' (cnB c) ∧ Below w.heap.size w w' := by
  obtain ⟨st, cl, cc, ct⟩ := c
  dsimp only at h_st h_cl h_cc h_ct
  unfold CnV.val cnB
  dsimp only
  have hbox := heap_alloc_new w (.cells #[.int .u64 (st : Int), .string cl, .string cc, .string ct] 37)
  have ha0 : Below w.heap.size w (w.alloc (.cells #[.int .u64 (st : Int), .string cl, .string cc, .string ct] 37)) := (Below.refl _ _).alloc (Nat.le_refl _) _
  generalize hW0 : w.alloc (.cells #[.int .u64 (st : Int), .string cl, .string cc, .string ct] 37) = W0 at *
  have hgl := blk_lt hbox
  generalize hgg : w.heap.size = g0 at *
  have HC : Hid (∀ Z, Below W0.heap.size W0 Z → Z.cell? ⟨g0, 0, none⟩ = some (.int .u64 (st : Int)) ∧ Z.cell? ⟨g0, 1, none⟩ = some (.string cl) ∧ Z.cell? ⟨g0, 2, none⟩ = some (.string cc) ∧ Z.cell? ⟨g0, 3, none⟩ = some (.string ct)) := Lib.hid fun Z hz => ⟨blk_cell ((hz.block _ hgl).trans hbox) 0, blk_cell ((hz.block _ hgl).trans hbox) 1, blk_cell ((hz.block _ hgl).trans hbox) 2, blk_cell ((hz.block _ hgl).trans hbox) 3⟩
  have hkD : Below W0.heap.size W0 W0.drew := Below.drew (Below.refl _ _)
  have l_cl : (encS cl).length ≤ 65539 := encB_lenP (strBytes cl)
  have l_cc : (encS cc).length ≤ 65539 := encB_lenP (strBytes cc)
  have l_ct : (encS ct).length ≤ 65539 := encB_lenP (strBytes ct)
  have H1 : Hid (∀ (Z : World), Calls Tryd.prog 60 #[.slice none 0 0, .int .u64 (st : Int)] Z fun e w' => ∃ v', e = .returned v' ∧ Own w' Z.heap.size v' (be st 8) ∧ Below Z.heap.size Z w') :=
    Lib.hid fun Z => refN_any (.slice none 0 0) _ st Z (Rd.nil _ _) h_st (by simp [be_length]; try omega)
  have H2 : Hid (∀ (v : Value) (Z : World) (B : Nat), Own Z B v (be st 8) → Calls Tryd.prog 59 #[v, .string cl] Z fun e w' => ∃ v', e = .returned v' ∧ Own w' Z.heap.size v' (be st 8 ++ encS cl) ∧ Below Z.heap.size Z w') :=
    Lib.hid fun v Z B ho => rTSx v cl _ Z ho.rd h_cl (by simp [be_length]; try omega)
  have H3 : Hid (∀ (v : Value) (Z : World) (B : Nat), Own Z B v (be st 8 ++ encS cl) → Calls Tryd.prog 59 #[v, .string cc] Z fun e w' => ∃ v', e = .returned v' ∧ Own w' Z.heap.size v' ((be st 8 ++ encS cl) ++ encS cc) ∧ Below Z.heap.size Z w') :=
    Lib.hid fun v Z B ho => rTSx v cc _ Z ho.rd h_cc (by simp [be_length]; try omega)
  have H4 : Hid (∀ (v : Value) (Z : World) (B : Nat), Own Z B v ((be st 8 ++ encS cl) ++ encS cc) → Calls Tryd.prog 59 #[v, .string ct] Z fun e w' => ∃ v', e = .returned v' ∧ Own w' Z.heap.size v' (((be st 8 ++ encS cl) ++ encS cc) ++ encS ct) ∧ Below Z.heap.size Z w') :=
    Lib.hid fun v Z B ho => rTSx v ct _ Z ho.rd h_ct (by simp [be_length]; try omega)
  generalize ((be st 8 ++ encS cl) ++ encS cc) ++ encS ct = L4 at *
  generalize (be st 8 ++ encS cl) ++ encS cc = L3 at *
  generalize be st 8 ++ encS cl = L2 at *
  generalize be st 8 = L1 at *
  clear hbox h_st h_cl h_cc h_ct l_cl l_cc l_ct
  go_enter Tryd.func16, Tryd.ntmps16
  go_wp2_with fail
  try rw [hW0]
  clear hW0
  try rw [hgg]
  go_region_held_law (fun Z => Z.cell? ⟨g0, 0, none⟩ = some (.int .u64 (st : Int)) ∧ Z.cell? ⟨g0, 1, none⟩ = some (.string cl) ∧ Z.cell? ⟨g0, 2, none⟩ = some (.string cc) ∧ Z.cell? ⟨g0, 3, none⟩ = some (.string ct))
    (with_reducible first | exact HC.out _ hk4 | exact HC.out _ hk3 | exact HC.out _ hk2 | exact HC.out _ hk1 | exact HC.out _ hkD)
    ((first
      | (go_at_call 60; first
        | (refine (H1.out _).mono ?_; rintro e w1 ⟨v1, rfl, ho1, hb1⟩; have hk1 := below_chain hkD hkD.size hb1))
      | (go_at_call 59; first
        | (refine (H4.out _ _ _ ho3).mono ?_; rintro e w4 ⟨v4, rfl, ho4, hb4⟩; have hk4 := below_chain hk3 hk3.size hb4)
        | (refine (H3.out _ _ _ ho2).mono ?_; rintro e w3 ⟨v3, rfl, ho3, hb3⟩; have hk3 := below_chain hk2 hk2.size hb3)
        | (refine (H2.out _ _ _ ho1).mono ?_; rintro e w2 ⟨v2, rfl, ho2, hb2⟩; have hk2 := below_chain hk1 hk1.size hb2))))
  all_goals
    obtain ⟨A4, c4, rfl⟩ := ho4.form
    go_wp2_with fail
    subst hgg
    have hsF := Nat.le_trans ha0.size hk3.size
    have hfin := below_chain ha0 ha0.size hk4
    go_ret
    exact ⟨_, rfl, ho4.more hsF, hfin⟩
end Go.Proofs.YtlkkjnacolmmpaaDoor
