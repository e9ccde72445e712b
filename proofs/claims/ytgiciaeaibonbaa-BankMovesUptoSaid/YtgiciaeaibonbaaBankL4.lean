
/- The walk of the law: a transfer takes what it gives, and touches nobody else. -/
import Derived.Test.YtgiciaeaibonbaaBankX
import Derived.Test.YtgiciaeaibonbaaLimbZ0
namespace Go.Proofs.Ytgiciaeaibonbaa
set_option maxRecDepth 100000
open Go Go.RowKit
set_option linter.unusedVariables false

theorem act_gen {C : Act → Prop} {T : Array Value} {ds : List Deferred} (h : ∀ T', T' = T → C ⟨T', ds⟩) : C ⟨T, ds⟩ := h T rfl
set_option maxRecDepth 100000
set_option maxHeartbeats 64000000 in
theorem moves_law (w : World) (v : Value) (ps : List Pr) (hps : RdP w w.heap.size v ps) (hnl : ∀ p ∈ ps, p.1.size ≤ maxLen) (hlen : ps.length ≤ 2000000) (kd : Int) (a b d : ByteArray) (x : U4) (hx : x.ok) (o : ByteArray) (ha : a.size ≤ 100000000) (hb : b.size ≤ 100000000) (hd : d.size ≤ 100000000) (ho : o.size ≤ 100000000) :
    Calls Try.prog 3 #[v, .agg #[.int .i64 kd, .string a, .string b, .string d, .int .u64 (x.a : Int), .int .u64 (x.b : Int), .int .u64 (x.c : Int), .int .u64 (x.d : Int)], .string o] w fun e w' => e = .returned (.bool true) ∧ Below w.heap.size w w' := by
  have HO := Lib.hid (box_op w kd a b d x 27)
  obtain ⟨C, hC⟩ : ∃ C, C = Obj.cells #[.int .i64 kd, .string a, .string b, .string d, .int .u64 (x.a : Int), .int .u64 (x.b : Int), .int .u64 (x.c : Int), .int .u64 (x.d : Int)] 27 := ⟨_, rfl⟩
  have ha0 : Below w.heap.size w (w.alloc C) := (Below.refl _ _).alloc (Nat.le_refl _) _
  have hp0 : RdP (w.alloc C) (w.alloc C).heap.size v ps := hps.kept (Kept.of_below ha0)
  have HN := Lib.hid (new_any (w.alloc C) v ps hp0 hnl)
  rw [hC] at HN ha0
  clear hC hp0
  obtain ⟨A, c, rfl⟩ : ∃ A c, v = .slice A ps.length c := by obtain ⟨A, c, h, _⟩ := hps; exact ⟨A, c, h⟩
  clear hps
  go_enter Try.func3, Try.ntmps3
  go_wp2_with fail
  generalize w.alloc (.cells #[.int .i64 kd, .string a, .string b, .string d, .int .u64 (x.a : Int), .int .u64 (x.b : Int), .int .u64 (x.c : Int), .int .u64 (x.d : Int)] 27) = W0 at *
  refine HN.out.mono ?_
  rintro e w1 ⟨⟨-, rfl⟩ | ⟨-, y, rfl, hyb, hym, hyn, hly, hri, hp1⟩, hb1⟩
  · have hq1 := below_chain ha0 ha0.size hb1
    go_wp2_with fail
    refine (bfixed_any _).mono ?_
    rintro e w2 ⟨rfl, hb2⟩
    have hq2 := below_chain hq1 hq1.size hb2
    go_wp2_with fail
    refine (bfixed_any _).mono ?_
    rintro e w3 ⟨rfl, hb3⟩
    have hq3 := below_chain hq2 hq2.size hb3
    go_wp2_with fail
    go_ret
    exact ⟨rfl, hq3⟩
  · have A1 := Acc.made hp1 hly hri hnl
    have hq1 := below_chain ha0 ha0.size hb1
    have hk1 := Kept.of_below hb1
    have hym' : w.heap.size ≤ y.m := Nat.le_trans ha0.size hym
    have HYN := Lib.hid (show y.n = ps.length from hyn)
    have hW1 : w.heap.size ≤ w1.heap.size := Nat.le_trans ha0.size hb1.size
    obtain ⟨yb, ym, yn, yf⟩ := y
    dsimp only at hym' HYN ⊢
    clear hyb hym hyn hly hri hp1 hb1 HN
    go_wp2_with fail
    refine (bfixed_any _).mono ?_
    rintro e w2 ⟨rfl, hb2⟩
    have A2 := A1.up hb2
    have hk2 := hk1.trans (Kept.of_below hb2)
    have HOD := Lib.hid (fun (W : World) (hW : BelS w2.drew W) => HO.out W ((hk2.trans (Kept.drew w2)).trans (Kept.of_below hW)))
    have A2d := A2.up (Below.drew (Below.refl _ _))
    have H1 := Lib.hid (fun (W : World) (hW : BelS w2.drew W) => (A2d.up hW).bal a d ha hd)
    have H2 := Lib.hid (fun (W : World) (hW : BelS w2.drew W) => (A2d.up hW).bal b d hb hd)
    have H3 := Lib.hid (fun (W : World) (hW : BelS w2.drew W) => (A2d.up hW).bal o d ho hd)
    have H4 := Lib.hid (fun (W : World) (hW : BelS w2.drew W) => (A2d.up hW).sup d hd)
    obtain ⟨XF, hXF⟩ : ∃ X, X = balM ps a d := ⟨_, rfl⟩
    obtain ⟨XT, hXT⟩ : ∃ X, X = balM ps b d := ⟨_, rfl⟩
    obtain ⟨XH, hXH⟩ : ∃ X, X = balM ps o d := ⟨_, rfl⟩
    obtain ⟨XS, hXS⟩ : ∃ X, X = supM ps d := ⟨_, rfl⟩
    rw [← hXF] at H1
    rw [← hXT] at H2
    rw [← hXH] at H3
    rw [← hXS] at H4
    have HXX := Lib.hid (And.intro hXF (And.intro hXT (And.intro hXH hXS)))
    clear hXF hXT hXH hXS A1 hk1 hb2 A2d
    unfold U4.val U4.cells at *
    go_wp2_with fail
    refine wp_region_held_drew (S := BelS w2.drew) (by kernel_rfl) (BelS.refl _) (fun hS0 => ?_)
    refine wpAnyH_take (i := 0) (oi := _) (v := ?_) rfl (by kernel_rfl) (by kernel_rfl) (by kernel_rfl) (fun _ _ _ h => h) (Or.inl ⟨by rfl, ?_⟩) hS0 ?_
    rotate_left
    · intro W hSW
      try go_simp
      all_goals with_reducible rfl
    simp only [Act.put, List.setIfInBounds_toArray, List.set_cons_zero, List.set_cons_succ, List.getElem_toArray, List.getElem_cons_zero, List.getElem_cons_succ]
    refine wpAnyH_take (i := 1) (oi := _) (v := ?_) rfl (by kernel_rfl) (by kernel_rfl) (by kernel_rfl) (fun _ _ _ h => h) (Or.inl ⟨by rfl, ?_⟩) hS0 ?_
    rotate_left
    · intro W hSW
      try go_simp
      all_goals with_reducible rfl
    simp only [Act.put, List.setIfInBounds_toArray, List.set_cons_zero, List.set_cons_succ, List.getElem_toArray, List.getElem_cons_zero, List.getElem_cons_succ]
    refine wpAnyH_take (i := 2) (oi := _) (v := ?_) rfl (by kernel_rfl) (by kernel_rfl) (by kernel_rfl) (fun _ _ _ h => h) (Or.inl ⟨by rfl, ?_⟩) hS0 ?_
    rotate_left
    · intro W hSW
      obtain ⟨c0, c1, c2, c3, c4, c5, c6, c7⟩ := HOD.out W hSW
      try go_simp
      all_goals with_reducible rfl
    simp only [Act.put, List.setIfInBounds_toArray, List.set_cons_zero, List.set_cons_succ, List.getElem_toArray, List.getElem_cons_zero, List.getElem_cons_succ]
    refine wpAnyH_take (i := 3) (oi := _) (v := ?_) rfl (by kernel_rfl) (by kernel_rfl) (by kernel_rfl) (fun _ _ _ h => h) (Or.inl ⟨by rfl, ?_⟩) hS0 ?_
    rotate_left
    · intro W hSW
      try go_simp
      all_goals with_reducible rfl
    simp only [Act.put, List.setIfInBounds_toArray, List.set_cons_zero, List.set_cons_succ, List.getElem_toArray, List.getElem_cons_zero, List.getElem_cons_succ]
    refine wpAnyH_take (i := 4) (oi := _) (v := ?_) rfl (by kernel_rfl) (by kernel_rfl) (by kernel_rfl) (fun _ _ _ h => h) (Or.inl ⟨by rfl, ?_⟩) hS0 ?_
    rotate_left
    · intro W hSW
      obtain ⟨c0, c1, c2, c3, c4, c5, c6, c7⟩ := HOD.out W hSW
      try go_simp
      all_goals with_reducible rfl
    simp only [Act.put, List.setIfInBounds_toArray, List.set_cons_zero, List.set_cons_succ, List.getElem_toArray, List.getElem_cons_zero, List.getElem_cons_succ]
    refine wpAnyH_take (i := 6) (oi := _) (v := ?_) rfl (by kernel_rfl) (by kernel_rfl) (by kernel_rfl) (fun _ _ _ h => h) (Or.inl ⟨by rfl, ?_⟩) hS0 ?_
    rotate_left
    · intro W hSW
      try go_simp
      all_goals with_reducible rfl
    simp only [Act.put, List.setIfInBounds_toArray, List.set_cons_zero, List.set_cons_succ, List.getElem_toArray, List.getElem_cons_zero, List.getElem_cons_succ]
    refine wpAnyH_take (i := 7) (oi := _) (v := ?_) rfl (by kernel_rfl) (by kernel_rfl) (by kernel_rfl) (fun _ _ _ h => h) (Or.inl ⟨by rfl, ?_⟩) hS0 ?_
    rotate_left
    · intro W hSW
      try go_simp
      all_goals with_reducible rfl
    simp only [Act.put, List.setIfInBounds_toArray, List.set_cons_zero, List.set_cons_succ, List.getElem_toArray, List.getElem_cons_zero, List.getElem_cons_succ]
    refine wpAnyH_take (i := 8) (oi := _) (v := ?_) rfl (by kernel_rfl) (by kernel_rfl) (by kernel_rfl) (fun _ _ _ h => h) (Or.inl ⟨by rfl, ?_⟩) hS0 ?_
    rotate_left
    · intro W hSW
      obtain ⟨c0, c1, c2, c3, c4, c5, c6, c7⟩ := HOD.out W hSW
      try go_simp
      all_goals with_reducible rfl
    simp only [Act.put, List.setIfInBounds_toArray, List.set_cons_zero, List.set_cons_succ, List.getElem_toArray, List.getElem_cons_zero, List.getElem_cons_succ]
    refine wpAnyH_take (i := 9) (oi := _) (v := ?_) rfl (by kernel_rfl) (by kernel_rfl) (by kernel_rfl) (fun _ _ _ h => h) (Or.inl ⟨by rfl, ?_⟩) hS0 ?_
    rotate_left
    · intro W hSW
      try go_simp
      all_goals with_reducible rfl
    simp only [Act.put, List.setIfInBounds_toArray, List.set_cons_zero, List.set_cons_succ, List.getElem_toArray, List.getElem_cons_zero, List.getElem_cons_succ]
    refine wpAnyH_take (i := 10) (oi := _) (v := ?_) rfl (by kernel_rfl) (by kernel_rfl) (by kernel_rfl) (fun _ _ _ h => h) (Or.inl ⟨by rfl, ?_⟩) hS0 ?_
    rotate_left
    · intro W hSW
      obtain ⟨c0, c1, c2, c3, c4, c5, c6, c7⟩ := HOD.out W hSW
      try go_simp
      all_goals with_reducible rfl
    simp only [Act.put, List.setIfInBounds_toArray, List.set_cons_zero, List.set_cons_succ, List.getElem_toArray, List.getElem_cons_zero, List.getElem_cons_succ]
    refine wpAnyH_take (i := 12) (oi := _) (v := ?_) rfl (by kernel_rfl) (by kernel_rfl) (by kernel_rfl) (fun _ _ _ h => h) (Or.inl ⟨by rfl, ?_⟩) hS0 ?_
    rotate_left
    · intro W hSW
      try go_simp
      all_goals with_reducible rfl
    simp only [Act.put, List.setIfInBounds_toArray, List.set_cons_zero, List.set_cons_succ, List.getElem_toArray, List.getElem_cons_zero, List.getElem_cons_succ]
    refine wpAnyH_take (i := 13) (oi := _) (v := ?_) rfl (by kernel_rfl) (by kernel_rfl) (by kernel_rfl) (fun _ _ _ h => h) (Or.inl ⟨by rfl, ?_⟩) hS0 ?_
    rotate_left
    · intro W hSW
      try go_simp
      all_goals with_reducible rfl
    simp only [Act.put, List.setIfInBounds_toArray, List.set_cons_zero, List.set_cons_succ, List.getElem_toArray, List.getElem_cons_zero, List.getElem_cons_succ]
    refine wpAnyH_take (i := 14) (oi := _) (v := ?_) rfl (by kernel_rfl) (by kernel_rfl) (by kernel_rfl) (fun _ _ _ h => h) (Or.inl ⟨by rfl, ?_⟩) hS0 ?_
    rotate_left
    · intro W hSW
      try go_simp
      all_goals with_reducible rfl
    simp only [Act.put, List.setIfInBounds_toArray, List.set_cons_zero, List.set_cons_succ, List.getElem_toArray, List.getElem_cons_zero, List.getElem_cons_succ]
    refine wpAnyH_take (i := 15) (oi := _) (v := ?_) rfl (by kernel_rfl) (by kernel_rfl) (by kernel_rfl) (fun _ _ _ h => h) (Or.inl ⟨by rfl, ?_⟩) hS0 ?_
    rotate_left
    · intro W hSW
      obtain ⟨c0, c1, c2, c3, c4, c5, c6, c7⟩ := HOD.out W hSW
      try go_simp
      all_goals with_reducible rfl
    simp only [Act.put, List.setIfInBounds_toArray, List.set_cons_zero, List.set_cons_succ, List.getElem_toArray, List.getElem_cons_zero, List.getElem_cons_succ]
    refine wpAnyH_take (i := 17) (oi := _) (v := ?_) rfl (by kernel_rfl) (by kernel_rfl) (by kernel_rfl) (fun _ _ _ h => h) (Or.inl ⟨by rfl, ?_⟩) hS0 ?_
    rotate_left
    · intro W hSW
      try go_simp
      all_goals with_reducible rfl
    simp only [Act.put, List.setIfInBounds_toArray, List.set_cons_zero, List.set_cons_succ, List.getElem_toArray, List.getElem_cons_zero, List.getElem_cons_succ]
    refine wpAnyH_take (i := 18) (oi := _) (v := ?_) rfl (by kernel_rfl) (by kernel_rfl) (by kernel_rfl) (fun _ _ _ h => h) (Or.inl ⟨by rfl, ?_⟩) hS0 ?_
    rotate_left
    · intro W hSW
      try go_simp
      all_goals with_reducible rfl
    simp only [Act.put, List.setIfInBounds_toArray, List.set_cons_zero, List.set_cons_succ, List.getElem_toArray, List.getElem_cons_zero, List.getElem_cons_succ]
    refine wpAnyH_take (i := 19) (oi := _) (v := ?_) rfl (by kernel_rfl) (by kernel_rfl) (by kernel_rfl) (fun _ _ _ h => h) (Or.inl ⟨by rfl, ?_⟩) hS0 ?_
    rotate_left
    · intro W hSW
      obtain ⟨c0, c1, c2, c3, c4, c5, c6, c7⟩ := HOD.out W hSW
      try go_simp
      all_goals with_reducible rfl
    simp only [Act.put, List.setIfInBounds_toArray, List.set_cons_zero, List.set_cons_succ, List.getElem_toArray, List.getElem_cons_zero, List.getElem_cons_succ]
    refine act_gen (C := fun a => wpAnyH _ _ _ _ _ _ _ a _) (fun T hT => ?_)
    refine wpAnyH_until (fuel := 4) (fun k L a W => ∃ (c : Nat) (b1 b2 b3 b4 : Bool) (g1 g2 g3 g4 : Nat), c ≤ 4 ∧ k = (4 - c) + nB b1 + nB b2 + nB b3 + nB b4 ∧ L = #[true, true, true, true, true, decide (1 ≤ c), true, true, true, true, true, decide (2 ≤ c), true, true, true, true, decide (3 ≤ c), true, true, true, decide (4 ≤ c), b1, b2, b3, b4, false, false, false, false] ∧ a = { tmps := (setB b4 12 (pU g4) (setB b3 11 (pU g3) (setB b2 10 (pU g2) (setB b1 9 (pU g1) (setB (decide (4 ≤ c)) 59 (.agg #[.int .u64 (XS.a : Int), .int .u64 (XS.b : Int), .int .u64 (XS.c : Int), .int .u64 (XS.d : Int)]) (setB (decide (3 ≤ c)) 55 (.agg #[.int .u64 (XH.a : Int), .int .u64 (XH.b : Int), .int .u64 (XH.c : Int), .int .u64 (XH.d : Int)]) (setB (decide (2 ≤ c)) 50 (.agg #[.int .u64 (XT.a : Int), .int .u64 (XT.b : Int), .int .u64 (XT.c : Int), .int .u64 (XT.d : Int)]) (setB (decide (1 ≤ c)) 44 (.agg #[.int .u64 (XF.a : Int), .int .u64 (XF.b : Int), .int .u64 (XF.c : Int), .int .u64 (XF.d : Int)]) T)))))))), defers := [] } ∧ Fl w2.drew b1 b2 b3 b4 g1 g2 g3 g4 W) ?h0 ?hstep 8 _ _ _ ?start
    case start => exact ⟨0, false, false, false, false, 0, 0, 0, 0, Nat.zero_le _, by simp [nB], by kernel_rfl, by simp [setB], Fl.none _⟩
    case hstep =>
      intro k IH L a W ⟨c, b1, b2, b3, b4, g1, g2, g3, g4, hc, hk, hL, ha, hfl⟩
      subst hT
      rcases (show c = 0 ∨ c = 1 ∨ c = 2 ∨ c = 3 ∨ c = 4 by omega) with rfl | rfl | rfl | rfl | rfl
      · cases b1 with
        | false =>
          cases b2 with
          | false =>
            cases b3 with
            | false =>
              cases b4 with
              | false =>
                obtain rfl : k = 7 := by simp [nB] at hk; omega
                subst hL; subst ha
                simp only [setB, pU, decide_eq_true_eq, Nat.reduceLeDiff, Nat.le_refl, Bool.false_eq_true, if_true, if_false, List.setIfInBounds_toArray, List.set_cons_zero, List.set_cons_succ]
                have hs := hfl.s
                refine wpAnyH_ready (rs := [5, 21, 22, 23, 24]) (by kernel_rfl) (by simp) ?_
                refine AllReadyH.cons rfl (fun K hK => ?_) ?_
                · have HC := Lib.hid (H1.out _ hs)
                  go_simp
                  go_wp2_with ((go_at_call 8; (with_reducible refine HC.out.mono ?_); rintro e wn ⟨rfl, hbn⟩))
                  refine hK.out _ _ (hfl.up hbn).s (fun _ => IH _ _ _ ?_)
                  exact ⟨1, false, false, false, false, g1, g2, g3, g4, by omega, by simp [nB], by kernel_rfl, by kernel_rfl, hfl.up hbn⟩
                refine AllReadyH.cons rfl (fun K hK => ?_) ?_
                · go_simp
                  refine hK.out _ _ hfl.new1.s (fun _ => IH _ _ _ ?_)
                  exact ⟨0, true, false, false, false, W.heap.size, g2, g3, g4, by omega, by simp [nB], by kernel_rfl, by kernel_rfl, hfl.new1⟩
                refine AllReadyH.cons rfl (fun K hK => ?_) ?_
                · go_simp
                  refine hK.out _ _ hfl.new2.s (fun _ => IH _ _ _ ?_)
                  exact ⟨0, false, true, false, false, g1, W.heap.size, g3, g4, by omega, by simp [nB], by kernel_rfl, by kernel_rfl, hfl.new2⟩
                refine AllReadyH.cons rfl (fun K hK => ?_) ?_
                · go_simp
                  refine hK.out _ _ hfl.new3.s (fun _ => IH _ _ _ ?_)
                  exact ⟨0, false, false, true, false, g1, g2, W.heap.size, g4, by omega, by simp [nB], by kernel_rfl, by kernel_rfl, hfl.new3⟩
                refine AllReadyH.cons rfl (fun K hK => ?_) ?_
                · go_simp
                  refine hK.out _ _ hfl.new4.s (fun _ => IH _ _ _ ?_)
                  exact ⟨0, false, false, false, true, g1, g2, g3, W.heap.size, by omega, by simp [nB], by kernel_rfl, by kernel_rfl, hfl.new4⟩
                exact AllReadyH.nil
              | true =>
                obtain rfl : k = 6 := by simp [nB] at hk; omega
                subst hL; subst ha
                simp only [setB, pU, decide_eq_true_eq, Nat.reduceLeDiff, Nat.le_refl, Bool.false_eq_true, if_true, if_false, List.setIfInBounds_toArray, List.set_cons_zero, List.set_cons_succ]
                have hs := hfl.s
                refine wpAnyH_ready (rs := [5, 21, 22, 23]) (by kernel_rfl) (by simp) ?_
                refine AllReadyH.cons rfl (fun K hK => ?_) ?_
                · have HC := Lib.hid (H1.out _ hs)
                  go_simp
                  go_wp2_with ((go_at_call 8; (with_reducible refine HC.out.mono ?_); rintro e wn ⟨rfl, hbn⟩))
                  refine hK.out _ _ (hfl.up hbn).s (fun _ => IH _ _ _ ?_)
                  exact ⟨1, false, false, false, true, g1, g2, g3, g4, by omega, by simp [nB], by kernel_rfl, by kernel_rfl, hfl.up hbn⟩
                refine AllReadyH.cons rfl (fun K hK => ?_) ?_
                · go_simp
                  refine hK.out _ _ hfl.new1.s (fun _ => IH _ _ _ ?_)
                  exact ⟨0, true, false, false, true, W.heap.size, g2, g3, g4, by omega, by simp [nB], by kernel_rfl, by kernel_rfl, hfl.new1⟩
                refine AllReadyH.cons rfl (fun K hK => ?_) ?_
                · go_simp
                  refine hK.out _ _ hfl.new2.s (fun _ => IH _ _ _ ?_)
                  exact ⟨0, false, true, false, true, g1, W.heap.size, g3, g4, by omega, by simp [nB], by kernel_rfl, by kernel_rfl, hfl.new2⟩
                refine AllReadyH.cons rfl (fun K hK => ?_) ?_
                · go_simp
                  refine hK.out _ _ hfl.new3.s (fun _ => IH _ _ _ ?_)
                  exact ⟨0, false, false, true, true, g1, g2, W.heap.size, g4, by omega, by simp [nB], by kernel_rfl, by kernel_rfl, hfl.new3⟩
                exact AllReadyH.nil
            | true =>
              cases b4 with
              | false =>
                obtain rfl : k = 6 := by simp [nB] at hk; omega
                subst hL; subst ha
                simp only [setB, pU, decide_eq_true_eq, Nat.reduceLeDiff, Nat.le_refl, Bool.false_eq_true, if_true, if_false, List.setIfInBounds_toArray, List.set_cons_zero, List.set_cons_succ]
                have hs := hfl.s
                refine wpAnyH_ready (rs := [5, 21, 22, 24]) (by kernel_rfl) (by simp) ?_
                refine AllReadyH.cons rfl (fun K hK => ?_) ?_
                · have HC := Lib.hid (H1.out _ hs)
                  go_simp
                  go_wp2_with ((go_at_call 8; (with_reducible refine HC.out.mono ?_); rintro e wn ⟨rfl, hbn⟩))
                  refine hK.out _ _ (hfl.up hbn).s (fun _ => IH _ _ _ ?_)
                  exact ⟨1, false, false, true, false, g1, g2, g3, g4, by omega, by simp [nB], by kernel_rfl, by kernel_rfl, hfl.up hbn⟩
                refine AllReadyH.cons rfl (fun K hK => ?_) ?_
                · go_simp
                  refine hK.out _ _ hfl.new1.s (fun _ => IH _ _ _ ?_)
                  exact ⟨0, true, false, true, false, W.heap.size, g2, g3, g4, by omega, by simp [nB], by kernel_rfl, by kernel_rfl, hfl.new1⟩
                refine AllReadyH.cons rfl (fun K hK => ?_) ?_
                · go_simp
                  refine hK.out _ _ hfl.new2.s (fun _ => IH _ _ _ ?_)
                  exact ⟨0, false, true, true, false, g1, W.heap.size, g3, g4, by omega, by simp [nB], by kernel_rfl, by kernel_rfl, hfl.new2⟩
                refine AllReadyH.cons rfl (fun K hK => ?_) ?_
                · go_simp
                  refine hK.out _ _ hfl.new4.s (fun _ => IH _ _ _ ?_)
                  exact ⟨0, false, false, true, true, g1, g2, g3, W.heap.size, by omega, by simp [nB], by kernel_rfl, by kernel_rfl, hfl.new4⟩
                exact AllReadyH.nil
              | true =>
                obtain rfl : k = 5 := by simp [nB] at hk; omega
                subst hL; subst ha
                simp only [setB, pU, decide_eq_true_eq, Nat.reduceLeDiff, Nat.le_refl, Bool.false_eq_true, if_true, if_false, List.setIfInBounds_toArray, List.set_cons_zero, List.set_cons_succ]
                have hs := hfl.s
                refine wpAnyH_ready (rs := [5, 21, 22]) (by kernel_rfl) (by simp) ?_
                refine AllReadyH.cons rfl (fun K hK => ?_) ?_
                · have HC := Lib.hid (H1.out _ hs)
                  go_simp
                  go_wp2_with ((go_at_call 8; (with_reducible refine HC.out.mono ?_); rintro e wn ⟨rfl, hbn⟩))
                  refine hK.out _ _ (hfl.up hbn).s (fun _ => IH _ _ _ ?_)
                  exact ⟨1, false, false, true, true, g1, g2, g3, g4, by omega, by simp [nB], by kernel_rfl, by kernel_rfl, hfl.up hbn⟩
                refine AllReadyH.cons rfl (fun K hK => ?_) ?_
                · go_simp
                  refine hK.out _ _ hfl.new1.s (fun _ => IH _ _ _ ?_)
                  exact ⟨0, true, false, true, true, W.heap.size, g2, g3, g4, by omega, by simp [nB], by kernel_rfl, by kernel_rfl, hfl.new1⟩
                refine AllReadyH.cons rfl (fun K hK => ?_) ?_
                · go_simp
                  refine hK.out _ _ hfl.new2.s (fun _ => IH _ _ _ ?_)
                  exact ⟨0, false, true, true, true, g1, W.heap.size, g3, g4, by omega, by simp [nB], by kernel_rfl, by kernel_rfl, hfl.new2⟩
                exact AllReadyH.nil
          | true =>
            cases b3 with
            | false =>
              cases b4 with
              | false =>
                obtain rfl : k = 6 := by simp [nB] at hk; omega
                subst hL; subst ha
                simp only [setB, pU, decide_eq_true_eq, Nat.reduceLeDiff, Nat.le_refl, Bool.false_eq_true, if_true, if_false, List.setIfInBounds_toArray, List.set_cons_zero, List.set_cons_succ]
                have hs := hfl.s
                refine wpAnyH_ready (rs := [5, 21, 23, 24]) (by kernel_rfl) (by simp) ?_
                refine AllReadyH.cons rfl (fun K hK => ?_) ?_
                · have HC := Lib.hid (H1.out _ hs)
                  go_simp
                  go_wp2_with ((go_at_call 8; (with_reducible refine HC.out.mono ?_); rintro e wn ⟨rfl, hbn⟩))
                  refine hK.out _ _ (hfl.up hbn).s (fun _ => IH _ _ _ ?_)
                  exact ⟨1, false, true, false, false, g1, g2, g3, g4, by omega, by simp [nB], by kernel_rfl, by kernel_rfl, hfl.up hbn⟩
                refine AllReadyH.cons rfl (fun K hK => ?_) ?_
                · go_simp
                  refine hK.out _ _ hfl.new1.s (fun _ => IH _ _ _ ?_)
                  exact ⟨0, true, true, false, false, W.heap.size, g2, g3, g4, by omega, by simp [nB], by kernel_rfl, by kernel_rfl, hfl.new1⟩
                refine AllReadyH.cons rfl (fun K hK => ?_) ?_
                · go_simp
                  refine hK.out _ _ hfl.new3.s (fun _ => IH _ _ _ ?_)
                  exact ⟨0, false, true, true, false, g1, g2, W.heap.size, g4, by omega, by simp [nB], by kernel_rfl, by kernel_rfl, hfl.new3⟩
                refine AllReadyH.cons rfl (fun K hK => ?_) ?_
                · go_simp
                  refine hK.out _ _ hfl.new4.s (fun _ => IH _ _ _ ?_)
                  exact ⟨0, false, true, false, true, g1, g2, g3, W.heap.size, by omega, by simp [nB], by kernel_rfl, by kernel_rfl, hfl.new4⟩
                exact AllReadyH.nil
              | true =>
                obtain rfl : k = 5 := by simp [nB] at hk; omega
                subst hL; subst ha
                simp only [setB, pU, decide_eq_true_eq, Nat.reduceLeDiff, Nat.le_refl, Bool.false_eq_true, if_true, if_false, List.setIfInBounds_toArray, List.set_cons_zero, List.set_cons_succ]
                have hs := hfl.s
                refine wpAnyH_ready (rs := [5, 21, 23]) (by kernel_rfl) (by simp) ?_
                refine AllReadyH.cons rfl (fun K hK => ?_) ?_
                · have HC := Lib.hid (H1.out _ hs)
                  go_simp
                  go_wp2_with ((go_at_call 8; (with_reducible refine HC.out.mono ?_); rintro e wn ⟨rfl, hbn⟩))
                  refine hK.out _ _ (hfl.up hbn).s (fun _ => IH _ _ _ ?_)
                  exact ⟨1, false, true, false, true, g1, g2, g3, g4, by omega, by simp [nB], by kernel_rfl, by kernel_rfl, hfl.up hbn⟩
                refine AllReadyH.cons rfl (fun K hK => ?_) ?_
                · go_simp
                  refine hK.out _ _ hfl.new1.s (fun _ => IH _ _ _ ?_)
                  exact ⟨0, true, true, false, true, W.heap.size, g2, g3, g4, by omega, by simp [nB], by kernel_rfl, by kernel_rfl, hfl.new1⟩
                refine AllReadyH.cons rfl (fun K hK => ?_) ?_
                · go_simp
                  refine hK.out _ _ hfl.new3.s (fun _ => IH _ _ _ ?_)
                  exact ⟨0, false, true, true, true, g1, g2, W.heap.size, g4, by omega, by simp [nB], by kernel_rfl, by kernel_rfl, hfl.new3⟩
                exact AllReadyH.nil
            | true =>
              cases b4 with
              | false =>
                obtain rfl : k = 5 := by simp [nB] at hk; omega
                subst hL; subst ha
                simp only [setB, pU, decide_eq_true_eq, Nat.reduceLeDiff, Nat.le_refl, Bool.false_eq_true, if_true, if_false, List.setIfInBounds_toArray, List.set_cons_zero, List.set_cons_succ]
                have hs := hfl.s
                refine wpAnyH_ready (rs := [5, 21, 24]) (by kernel_rfl) (by simp) ?_
                refine AllReadyH.cons rfl (fun K hK => ?_) ?_
                · have HC := Lib.hid (H1.out _ hs)
                  go_simp
                  go_wp2_with ((go_at_call 8; (with_reducible refine HC.out.mono ?_); rintro e wn ⟨rfl, hbn⟩))
                  refine hK.out _ _ (hfl.up hbn).s (fun _ => IH _ _ _ ?_)
                  exact ⟨1, false, true, true, false, g1, g2, g3, g4, by omega, by simp [nB], by kernel_rfl, by kernel_rfl, hfl.up hbn⟩
                refine AllReadyH.cons rfl (fun K hK => ?_) ?_
                · go_simp
                  refine hK.out _ _ hfl.new1.s (fun _ => IH _ _ _ ?_)
                  exact ⟨0, true, true, true, false, W.heap.size, g2, g3, g4, by omega, by simp [nB], by kernel_rfl, by kernel_rfl, hfl.new1⟩
                refine AllReadyH.cons rfl (fun K hK => ?_) ?_
                · go_simp
                  refine hK.out _ _ hfl.new4.s (fun _ => IH _ _ _ ?_)
                  exact ⟨0, false, true, true, true, g1, g2, g3, W.heap.size, by omega, by simp [nB], by kernel_rfl, by kernel_rfl, hfl.new4⟩
                exact AllReadyH.nil
              | true =>
                obtain rfl : k = 4 := by simp [nB] at hk; omega
                subst hL; subst ha
                simp only [setB, pU, decide_eq_true_eq, Nat.reduceLeDiff, Nat.le_refl, Bool.false_eq_true, if_true, if_false, List.setIfInBounds_toArray, List.set_cons_zero, List.set_cons_succ]
                have hs := hfl.s
                refine wpAnyH_ready (rs := [5, 21]) (by kernel_rfl) (by simp) ?_
                refine AllReadyH.cons rfl (fun K hK => ?_) ?_
                · have HC := Lib.hid (H1.out _ hs)
                  go_simp
                  go_wp2_with ((go_at_call 8; (with_reducible refine HC.out.mono ?_); rintro e wn ⟨rfl, hbn⟩))
                  refine hK.out _ _ (hfl.up hbn).s (fun _ => IH _ _ _ ?_)
                  exact ⟨1, false, true, true, true, g1, g2, g3, g4, by omega, by simp [nB], by kernel_rfl, by kernel_rfl, hfl.up hbn⟩
                refine AllReadyH.cons rfl (fun K hK => ?_) ?_
                · go_simp
                  refine hK.out _ _ hfl.new1.s (fun _ => IH _ _ _ ?_)
                  exact ⟨0, true, true, true, true, W.heap.size, g2, g3, g4, by omega, by simp [nB], by kernel_rfl, by kernel_rfl, hfl.new1⟩
                exact AllReadyH.nil
        | true =>
          cases b2 with
          | false =>
            cases b3 with
            | false =>
              cases b4 with
              | false =>
                obtain rfl : k = 6 := by simp [nB] at hk; omega
                subst hL; subst ha
                simp only [setB, pU, decide_eq_true_eq, Nat.reduceLeDiff, Nat.le_refl, Bool.false_eq_true, if_true, if_false, List.setIfInBounds_toArray, List.set_cons_zero, List.set_cons_succ]
                have hs := hfl.s
                refine wpAnyH_ready (rs := [5, 22, 23, 24]) (by kernel_rfl) (by simp) ?_
                refine AllReadyH.cons rfl (fun K hK => ?_) ?_
                · have HC := Lib.hid (H1.out _ hs)
                  go_simp
                  go_wp2_with ((go_at_call 8; (with_reducible refine HC.out.mono ?_); rintro e wn ⟨rfl, hbn⟩))
                  refine hK.out _ _ (hfl.up hbn).s (fun _ => IH _ _ _ ?_)
                  exact ⟨1, true, false, false, false, g1, g2, g3, g4, by omega, by simp [nB], by kernel_rfl, by kernel_rfl, hfl.up hbn⟩
                refine AllReadyH.cons rfl (fun K hK => ?_) ?_
                · go_simp
                  refine hK.out _ _ hfl.new2.s (fun _ => IH _ _ _ ?_)
                  exact ⟨0, true, true, false, false, g1, W.heap.size, g3, g4, by omega, by simp [nB], by kernel_rfl, by kernel_rfl, hfl.new2⟩
                refine AllReadyH.cons rfl (fun K hK => ?_) ?_
                · go_simp
                  refine hK.out _ _ hfl.new3.s (fun _ => IH _ _ _ ?_)
                  exact ⟨0, true, false, true, false, g1, g2, W.heap.size, g4, by omega, by simp [nB], by kernel_rfl, by kernel_rfl, hfl.new3⟩
                refine AllReadyH.cons rfl (fun K hK => ?_) ?_
                · go_simp
                  refine hK.out _ _ hfl.new4.s (fun _ => IH _ _ _ ?_)
                  exact ⟨0, true, false, false, true, g1, g2, g3, W.heap.size, by omega, by simp [nB], by kernel_rfl, by kernel_rfl, hfl.new4⟩
                exact AllReadyH.nil
              | true =>
                obtain rfl : k = 5 := by simp [nB] at hk; omega
                subst hL; subst ha
                simp only [setB, pU, decide_eq_true_eq, Nat.reduceLeDiff, Nat.le_refl, Bool.false_eq_true, if_true, if_false, List.setIfInBounds_toArray, List.set_cons_zero, List.set_cons_succ]
                have hs := hfl.s
                refine wpAnyH_ready (rs := [5, 22, 23]) (by kernel_rfl) (by simp) ?_
                refine AllReadyH.cons rfl (fun K hK => ?_) ?_
                · have HC := Lib.hid (H1.out _ hs)
                  go_simp
                  go_wp2_with ((go_at_call 8; (with_reducible refine HC.out.mono ?_); rintro e wn ⟨rfl, hbn⟩))
                  refine hK.out _ _ (hfl.up hbn).s (fun _ => IH _ _ _ ?_)
                  exact ⟨1, true, false, false, true, g1, g2, g3, g4, by omega, by simp [nB], by kernel_rfl, by kernel_rfl, hfl.up hbn⟩
                refine AllReadyH.cons rfl (fun K hK => ?_) ?_
                · go_simp
                  refine hK.out _ _ hfl.new2.s (fun _ => IH _ _ _ ?_)
                  exact ⟨0, true, true, false, true, g1, W.heap.size, g3, g4, by omega, by simp [nB], by kernel_rfl, by kernel_rfl, hfl.new2⟩
                refine AllReadyH.cons rfl (fun K hK => ?_) ?_
                · go_simp
                  refine hK.out _ _ hfl.new3.s (fun _ => IH _ _ _ ?_)
                  exact ⟨0, true, false, true, true, g1, g2, W.heap.size, g4, by omega, by simp [nB], by kernel_rfl, by kernel_rfl, hfl.new3⟩
                exact AllReadyH.nil
            | true =>
              cases b4 with
              | false =>
                obtain rfl : k = 5 := by simp [nB] at hk; omega
                subst hL; subst ha
                simp only [setB, pU, decide_eq_true_eq, Nat.reduceLeDiff, Nat.le_refl, Bool.false_eq_true, if_true, if_false, List.setIfInBounds_toArray, List.set_cons_zero, List.set_cons_succ]
                have hs := hfl.s
                refine wpAnyH_ready (rs := [5, 22, 24]) (by kernel_rfl) (by simp) ?_
                refine AllReadyH.cons rfl (fun K hK => ?_) ?_
                · have HC := Lib.hid (H1.out _ hs)
                  go_simp
                  go_wp2_with ((go_at_call 8; (with_reducible refine HC.out.mono ?_); rintro e wn ⟨rfl, hbn⟩))
                  refine hK.out _ _ (hfl.up hbn).s (fun _ => IH _ _ _ ?_)
                  exact ⟨1, true, false, true, false, g1, g2, g3, g4, by omega, by simp [nB], by kernel_rfl, by kernel_rfl, hfl.up hbn⟩
                refine AllReadyH.cons rfl (fun K hK => ?_) ?_
                · go_simp
                  refine hK.out _ _ hfl.new2.s (fun _ => IH _ _ _ ?_)
                  exact ⟨0, true, true, true, false, g1, W.heap.size, g3, g4, by omega, by simp [nB], by kernel_rfl, by kernel_rfl, hfl.new2⟩
                refine AllReadyH.cons rfl (fun K hK => ?_) ?_
                · go_simp
                  refine hK.out _ _ hfl.new4.s (fun _ => IH _ _ _ ?_)
                  exact ⟨0, true, false, true, true, g1, g2, g3, W.heap.size, by omega, by simp [nB], by kernel_rfl, by kernel_rfl, hfl.new4⟩
                exact AllReadyH.nil
              | true =>
                obtain rfl : k = 4 := by simp [nB] at hk; omega
                subst hL; subst ha
                simp only [setB, pU, decide_eq_true_eq, Nat.reduceLeDiff, Nat.le_refl, Bool.false_eq_true, if_true, if_false, List.setIfInBounds_toArray, List.set_cons_zero, List.set_cons_succ]
                have hs := hfl.s
                refine wpAnyH_ready (rs := [5, 22]) (by kernel_rfl) (by simp) ?_
                refine AllReadyH.cons rfl (fun K hK => ?_) ?_
                · have HC := Lib.hid (H1.out _ hs)
                  go_simp
                  go_wp2_with ((go_at_call 8; (with_reducible refine HC.out.mono ?_); rintro e wn ⟨rfl, hbn⟩))
                  refine hK.out _ _ (hfl.up hbn).s (fun _ => IH _ _ _ ?_)
                  exact ⟨1, true, false, true, true, g1, g2, g3, g4, by omega, by simp [nB], by kernel_rfl, by kernel_rfl, hfl.up hbn⟩
                refine AllReadyH.cons rfl (fun K hK => ?_) ?_
                · go_simp
                  refine hK.out _ _ hfl.new2.s (fun _ => IH _ _ _ ?_)
                  exact ⟨0, true, true, true, true, g1, W.heap.size, g3, g4, by omega, by simp [nB], by kernel_rfl, by kernel_rfl, hfl.new2⟩
                exact AllReadyH.nil
          | true =>
            cases b3 with
            | false =>
              cases b4 with
              | false =>
                obtain rfl : k = 5 := by simp [nB] at hk; omega
                subst hL; subst ha
                simp only [setB, pU, decide_eq_true_eq, Nat.reduceLeDiff, Nat.le_refl, Bool.false_eq_true, if_true, if_false, List.setIfInBounds_toArray, List.set_cons_zero, List.set_cons_succ]
                have hs := hfl.s
                refine wpAnyH_ready (rs := [5, 23, 24]) (by kernel_rfl) (by simp) ?_
                refine AllReadyH.cons rfl (fun K hK => ?_) ?_
                · have HC := Lib.hid (H1.out _ hs)
                  go_simp
                  go_wp2_with ((go_at_call 8; (with_reducible refine HC.out.mono ?_); rintro e wn ⟨rfl, hbn⟩))
                  refine hK.out _ _ (hfl.up hbn).s (fun _ => IH _ _ _ ?_)
                  exact ⟨1, true, true, false, false, g1, g2, g3, g4, by omega, by simp [nB], by kernel_rfl, by kernel_rfl, hfl.up hbn⟩
                refine AllReadyH.cons rfl (fun K hK => ?_) ?_
                · go_simp
                  refine hK.out _ _ hfl.new3.s (fun _ => IH _ _ _ ?_)
                  exact ⟨0, true, true, true, false, g1, g2, W.heap.size, g4, by omega, by simp [nB], by kernel_rfl, by kernel_rfl, hfl.new3⟩
                refine AllReadyH.cons rfl (fun K hK => ?_) ?_
                · go_simp
                  refine hK.out _ _ hfl.new4.s (fun _ => IH _ _ _ ?_)
                  exact ⟨0, true, true, false, true, g1, g2, g3, W.heap.size, by omega, by simp [nB], by kernel_rfl, by kernel_rfl, hfl.new4⟩
                exact AllReadyH.nil
              | true =>
                obtain rfl : k = 4 := by simp [nB] at hk; omega
                subst hL; subst ha
                simp only [setB, pU, decide_eq_true_eq, Nat.reduceLeDiff, Nat.le_refl, Bool.false_eq_true, if_true, if_false, List.setIfInBounds_toArray, List.set_cons_zero, List.set_cons_succ]
                have hs := hfl.s
                refine wpAnyH_ready (rs := [5, 23]) (by kernel_rfl) (by simp) ?_
                refine AllReadyH.cons rfl (fun K hK => ?_) ?_
                · have HC := Lib.hid (H1.out _ hs)
                  go_simp
                  go_wp2_with ((go_at_call 8; (with_reducible refine HC.out.mono ?_); rintro e wn ⟨rfl, hbn⟩))
                  refine hK.out _ _ (hfl.up hbn).s (fun _ => IH _ _ _ ?_)
                  exact ⟨1, true, true, false, true, g1, g2, g3, g4, by omega, by simp [nB], by kernel_rfl, by kernel_rfl, hfl.up hbn⟩
                refine AllReadyH.cons rfl (fun K hK => ?_) ?_
                · go_simp
                  refine hK.out _ _ hfl.new3.s (fun _ => IH _ _ _ ?_)
                  exact ⟨0, true, true, true, true, g1, g2, W.heap.size, g4, by omega, by simp [nB], by kernel_rfl, by kernel_rfl, hfl.new3⟩
                exact AllReadyH.nil
            | true =>
              cases b4 with
              | false =>
                obtain rfl : k = 4 := by simp [nB] at hk; omega
                subst hL; subst ha
                simp only [setB, pU, decide_eq_true_eq, Nat.reduceLeDiff, Nat.le_refl, Bool.false_eq_true, if_true, if_false, List.setIfInBounds_toArray, List.set_cons_zero, List.set_cons_succ]
                have hs := hfl.s
                refine wpAnyH_ready (rs := [5, 24]) (by kernel_rfl) (by simp) ?_
                refine AllReadyH.cons rfl (fun K hK => ?_) ?_
                · have HC := Lib.hid (H1.out _ hs)
                  go_simp
                  go_wp2_with ((go_at_call 8; (with_reducible refine HC.out.mono ?_); rintro e wn ⟨rfl, hbn⟩))
                  refine hK.out _ _ (hfl.up hbn).s (fun _ => IH _ _ _ ?_)
                  exact ⟨1, true, true, true, false, g1, g2, g3, g4, by omega, by simp [nB], by kernel_rfl, by kernel_rfl, hfl.up hbn⟩
                refine AllReadyH.cons rfl (fun K hK => ?_) ?_
                · go_simp
                  refine hK.out _ _ hfl.new4.s (fun _ => IH _ _ _ ?_)
                  exact ⟨0, true, true, true, true, g1, g2, g3, W.heap.size, by omega, by simp [nB], by kernel_rfl, by kernel_rfl, hfl.new4⟩
                exact AllReadyH.nil
              | true =>
                obtain rfl : k = 3 := by simp [nB] at hk; omega
                subst hL; subst ha
                simp only [setB, pU, decide_eq_true_eq, Nat.reduceLeDiff, Nat.le_refl, Bool.false_eq_true, if_true, if_false, List.setIfInBounds_toArray, List.set_cons_zero, List.set_cons_succ]
                have hs := hfl.s
                refine wpAnyH_ready (rs := [5]) (by kernel_rfl) (by simp) ?_
                refine AllReadyH.cons rfl (fun K hK => ?_) ?_
                · have HC := Lib.hid (H1.out _ hs)
                  go_simp
                  go_wp2_with ((go_at_call 8; (with_reducible refine HC.out.mono ?_); rintro e wn ⟨rfl, hbn⟩))
                  refine hK.out _ _ (hfl.up hbn).s (fun _ => IH _ _ _ ?_)
                  exact ⟨1, true, true, true, true, g1, g2, g3, g4, by omega, by simp [nB], by kernel_rfl, by kernel_rfl, hfl.up hbn⟩
                exact AllReadyH.nil
      · cases b1 with
        | false =>
          cases b2 with
          | false =>
            cases b3 with
            | false =>
              cases b4 with
              | false =>
                obtain rfl : k = 6 := by simp [nB] at hk; omega
                subst hL; subst ha
                simp only [setB, pU, decide_eq_true_eq, Nat.reduceLeDiff, Nat.le_refl, Bool.false_eq_true, if_true, if_false, List.setIfInBounds_toArray, List.set_cons_zero, List.set_cons_succ]
                have hs := hfl.s
                refine wpAnyH_ready (rs := [11, 21, 22, 23, 24]) (by kernel_rfl) (by simp) ?_
                refine AllReadyH.cons rfl (fun K hK => ?_) ?_
                · have HC := Lib.hid (H2.out _ hs)
                  go_simp
                  go_wp2_with ((go_at_call 8; (with_reducible refine HC.out.mono ?_); rintro e wn ⟨rfl, hbn⟩))
                  refine hK.out _ _ (hfl.up hbn).s (fun _ => IH _ _ _ ?_)
                  exact ⟨2, false, false, false, false, g1, g2, g3, g4, by omega, by simp [nB], by kernel_rfl, by kernel_rfl, hfl.up hbn⟩
                refine AllReadyH.cons rfl (fun K hK => ?_) ?_
                · go_simp
                  refine hK.out _ _ hfl.new1.s (fun _ => IH _ _ _ ?_)
                  exact ⟨1, true, false, false, false, W.heap.size, g2, g3, g4, by omega, by simp [nB], by kernel_rfl, by kernel_rfl, hfl.new1⟩
                refine AllReadyH.cons rfl (fun K hK => ?_) ?_
                · go_simp
                  refine hK.out _ _ hfl.new2.s (fun _ => IH _ _ _ ?_)
                  exact ⟨1, false, true, false, false, g1, W.heap.size, g3, g4, by omega, by simp [nB], by kernel_rfl, by kernel_rfl, hfl.new2⟩
                refine AllReadyH.cons rfl (fun K hK => ?_) ?_
                · go_simp
                  refine hK.out _ _ hfl.new3.s (fun _ => IH _ _ _ ?_)
                  exact ⟨1, false, false, true, false, g1, g2, W.heap.size, g4, by omega, by simp [nB], by kernel_rfl, by kernel_rfl, hfl.new3⟩
                refine AllReadyH.cons rfl (fun K hK => ?_) ?_
                · go_simp
                  refine hK.out _ _ hfl.new4.s (fun _ => IH _ _ _ ?_)
                  exact ⟨1, false, false, false, true, g1, g2, g3, W.heap.size, by omega, by simp [nB], by kernel_rfl, by kernel_rfl, hfl.new4⟩
                exact AllReadyH.nil
              | true =>
                obtain rfl : k = 5 := by simp [nB] at hk; omega
                subst hL; subst ha
                simp only [setB, pU, decide_eq_true_eq, Nat.reduceLeDiff, Nat.le_refl, Bool.false_eq_true, if_true, if_false, List.setIfInBounds_toArray, List.set_cons_zero, List.set_cons_succ]
                have hs := hfl.s
                refine wpAnyH_ready (rs := [11, 21, 22, 23]) (by kernel_rfl) (by simp) ?_
                refine AllReadyH.cons rfl (fun K hK => ?_) ?_
                · have HC := Lib.hid (H2.out _ hs)
                  go_simp
                  go_wp2_with ((go_at_call 8; (with_reducible refine HC.out.mono ?_); rintro e wn ⟨rfl, hbn⟩))
                  refine hK.out _ _ (hfl.up hbn).s (fun _ => IH _ _ _ ?_)
                  exact ⟨2, false, false, false, true, g1, g2, g3, g4, by omega, by simp [nB], by kernel_rfl, by kernel_rfl, hfl.up hbn⟩
                refine AllReadyH.cons rfl (fun K hK => ?_) ?_
                · go_simp
                  refine hK.out _ _ hfl.new1.s (fun _ => IH _ _ _ ?_)
                  exact ⟨1, true, false, false, true, W.heap.size, g2, g3, g4, by omega, by simp [nB], by kernel_rfl, by kernel_rfl, hfl.new1⟩
                refine AllReadyH.cons rfl (fun K hK => ?_) ?_
                · go_simp
                  refine hK.out _ _ hfl.new2.s (fun _ => IH _ _ _ ?_)
                  exact ⟨1, false, true, false, true, g1, W.heap.size, g3, g4, by omega, by simp [nB], by kernel_rfl, by kernel_rfl, hfl.new2⟩
                refine AllReadyH.cons rfl (fun K hK => ?_) ?_
                · go_simp
                  refine hK.out _ _ hfl.new3.s (fun _ => IH _ _ _ ?_)
                  exact ⟨1, false, false, true, true, g1, g2, W.heap.size, g4, by omega, by simp [nB], by kernel_rfl, by kernel_rfl, hfl.new3⟩
                exact AllReadyH.nil
            | true =>
              cases b4 with
              | false =>
                obtain rfl : k = 5 := by simp [nB] at hk; omega
                subst hL; subst ha
                simp only [setB, pU, decide_eq_true_eq, Nat.reduceLeDiff, Nat.le_refl, Bool.false_eq_true, if_true, if_false, List.setIfInBounds_toArray, List.set_cons_zero, List.set_cons_succ]
                have hs := hfl.s
                refine wpAnyH_ready (rs := [11, 21, 22, 24]) (by kernel_rfl) (by simp) ?_
                refine AllReadyH.cons rfl (fun K hK => ?_) ?_
                · have HC := Lib.hid (H2.out _ hs)
                  go_simp
                  go_wp2_with ((go_at_call 8; (with_reducible refine HC.out.mono ?_); rintro e wn ⟨rfl, hbn⟩))
                  refine hK.out _ _ (hfl.up hbn).s (fun _ => IH _ _ _ ?_)
                  exact ⟨2, false, false, true, false, g1, g2, g3, g4, by omega, by simp [nB], by kernel_rfl, by kernel_rfl, hfl.up hbn⟩
                refine AllReadyH.cons rfl (fun K hK => ?_) ?_
                · go_simp
                  refine hK.out _ _ hfl.new1.s (fun _ => IH _ _ _ ?_)
                  exact ⟨1, true, false, true, false, W.heap.size, g2, g3, g4, by omega, by simp [nB], by kernel_rfl, by kernel_rfl, hfl.new1⟩
                refine AllReadyH.cons rfl (fun K hK => ?_) ?_
                · go_simp
                  refine hK.out _ _ hfl.new2.s (fun _ => IH _ _ _ ?_)
                  exact ⟨1, false, true, true, false, g1, W.heap.size, g3, g4, by omega, by simp [nB], by kernel_rfl, by kernel_rfl, hfl.new2⟩
                refine AllReadyH.cons rfl (fun K hK => ?_) ?_
                · go_simp
                  refine hK.out _ _ hfl.new4.s (fun _ => IH _ _ _ ?_)
                  exact ⟨1, false, false, true, true, g1, g2, g3, W.heap.size, by omega, by simp [nB], by kernel_rfl, by kernel_rfl, hfl.new4⟩
                exact AllReadyH.nil
              | true =>
                obtain rfl : k = 4 := by simp [nB] at hk; omega
                subst hL; subst ha
                simp only [setB, pU, decide_eq_true_eq, Nat.reduceLeDiff, Nat.le_refl, Bool.false_eq_true, if_true, if_false, List.setIfInBounds_toArray, List.set_cons_zero, List.set_cons_succ]
                have hs := hfl.s
                refine wpAnyH_ready (rs := [11, 21, 22]) (by kernel_rfl) (by simp) ?_
                refine AllReadyH.cons rfl (fun K hK => ?_) ?_
                · have HC := Lib.hid (H2.out _ hs)
                  go_simp
                  go_wp2_with ((go_at_call 8; (with_reducible refine HC.out.mono ?_); rintro e wn ⟨rfl, hbn⟩))
                  refine hK.out _ _ (hfl.up hbn).s (fun _ => IH _ _ _ ?_)
                  exact ⟨2, false, false, true, true, g1, g2, g3, g4, by omega, by simp [nB], by kernel_rfl, by kernel_rfl, hfl.up hbn⟩
                refine AllReadyH.cons rfl (fun K hK => ?_) ?_
                · go_simp
                  refine hK.out _ _ hfl.new1.s (fun _ => IH _ _ _ ?_)
                  exact ⟨1, true, false, true, true, W.heap.size, g2, g3, g4, by omega, by simp [nB], by kernel_rfl, by kernel_rfl, hfl.new1⟩
                refine AllReadyH.cons rfl (fun K hK => ?_) ?_
                · go_simp
                  refine hK.out _ _ hfl.new2.s (fun _ => IH _ _ _ ?_)
                  exact ⟨1, false, true, true, true, g1, W.heap.size, g3, g4, by omega, by simp [nB], by kernel_rfl, by kernel_rfl, hfl.new2⟩
                exact AllReadyH.nil
          | true =>
            cases b3 with
            | false =>
              cases b4 with
              | false =>
                obtain rfl : k = 5 := by simp [nB] at hk; omega
                subst hL; subst ha
                simp only [setB, pU, decide_eq_true_eq, Nat.reduceLeDiff, Nat.le_refl, Bool.false_eq_true, if_true, if_false, List.setIfInBounds_toArray, List.set_cons_zero, List.set_cons_succ]
                have hs := hfl.s
                refine wpAnyH_ready (rs := [11, 21, 23, 24]) (by kernel_rfl) (by simp) ?_
                refine AllReadyH.cons rfl (fun K hK => ?_) ?_
                · have HC := Lib.hid (H2.out _ hs)
                  go_simp
                  go_wp2_with ((go_at_call 8; (with_reducible refine HC.out.mono ?_); rintro e wn ⟨rfl, hbn⟩))
                  refine hK.out _ _ (hfl.up hbn).s (fun _ => IH _ _ _ ?_)
                  exact ⟨2, false, true, false, false, g1, g2, g3, g4, by omega, by simp [nB], by kernel_rfl, by kernel_rfl, hfl.up hbn⟩
                refine AllReadyH.cons rfl (fun K hK => ?_) ?_
                · go_simp
                  refine hK.out _ _ hfl.new1.s (fun _ => IH _ _ _ ?_)
                  exact ⟨1, true, true, false, false, W.heap.size, g2, g3, g4, by omega, by simp [nB], by kernel_rfl, by kernel_rfl, hfl.new1⟩
                refine AllReadyH.cons rfl (fun K hK => ?_) ?_
                · go_simp
                  refine hK.out _ _ hfl.new3.s (fun _ => IH _ _ _ ?_)
                  exact ⟨1, false, true, true, false, g1, g2, W.heap.size, g4, by omega, by simp [nB], by kernel_rfl, by kernel_rfl, hfl.new3⟩
                refine AllReadyH.cons rfl (fun K hK => ?_) ?_
                · go_simp
                  refine hK.out _ _ hfl.new4.s (fun _ => IH _ _ _ ?_)
                  exact ⟨1, false, true, false, true, g1, g2, g3, W.heap.size, by omega, by simp [nB], by kernel_rfl, by kernel_rfl, hfl.new4⟩
                exact AllReadyH.nil
              | true =>
                obtain rfl : k = 4 := by simp [nB] at hk; omega
                subst hL; subst ha
                simp only [setB, pU, decide_eq_true_eq, Nat.reduceLeDiff, Nat.le_refl, Bool.false_eq_true, if_true, if_false, List.setIfInBounds_toArray, List.set_cons_zero, List.set_cons_succ]
                have hs := hfl.s
                refine wpAnyH_ready (rs := [11, 21, 23]) (by kernel_rfl) (by simp) ?_
                refine AllReadyH.cons rfl (fun K hK => ?_) ?_
                · have HC := Lib.hid (H2.out _ hs)
                  go_simp
                  go_wp2_with ((go_at_call 8; (with_reducible refine HC.out.mono ?_); rintro e wn ⟨rfl, hbn⟩))
                  refine hK.out _ _ (hfl.up hbn).s (fun _ => IH _ _ _ ?_)
                  exact ⟨2, false, true, false, true, g1, g2, g3, g4, by omega, by simp [nB], by kernel_rfl, by kernel_rfl, hfl.up hbn⟩
                refine AllReadyH.cons rfl (fun K hK => ?_) ?_
                · go_simp
                  refine hK.out _ _ hfl.new1.s (fun _ => IH _ _ _ ?_)
                  exact ⟨1, true, true, false, true, W.heap.size, g2, g3, g4, by omega, by simp [nB], by kernel_rfl, by kernel_rfl, hfl.new1⟩
                refine AllReadyH.cons rfl (fun K hK => ?_) ?_
                · go_simp
                  refine hK.out _ _ hfl.new3.s (fun _ => IH _ _ _ ?_)
                  exact ⟨1, false, true, true, true, g1, g2, W.heap.size, g4, by omega, by simp [nB], by kernel_rfl, by kernel_rfl, hfl.new3⟩
                exact AllReadyH.nil
            | true =>
              cases b4 with
              | false =>
                obtain rfl : k = 4 := by simp [nB] at hk; omega
                subst hL; subst ha
                simp only [setB, pU, decide_eq_true_eq, Nat.reduceLeDiff, Nat.le_refl, Bool.false_eq_true, if_true, if_false, List.setIfInBounds_toArray, List.set_cons_zero, List.set_cons_succ]
                have hs := hfl.s
                refine wpAnyH_ready (rs := [11, 21, 24]) (by kernel_rfl) (by simp) ?_
                refine AllReadyH.cons rfl (fun K hK => ?_) ?_
                · have HC := Lib.hid (H2.out _ hs)
                  go_simp
                  go_wp2_with ((go_at_call 8; (with_reducible refine HC.out.mono ?_); rintro e wn ⟨rfl, hbn⟩))
                  refine hK.out _ _ (hfl.up hbn).s (fun _ => IH _ _ _ ?_)
                  exact ⟨2, false, true, true, false, g1, g2, g3, g4, by omega, by simp [nB], by kernel_rfl, by kernel_rfl, hfl.up hbn⟩
                refine AllReadyH.cons rfl (fun K hK => ?_) ?_
                · go_simp
                  refine hK.out _ _ hfl.new1.s (fun _ => IH _ _ _ ?_)
                  exact ⟨1, true, true, true, false, W.heap.size, g2, g3, g4, by omega, by simp [nB], by kernel_rfl, by kernel_rfl, hfl.new1⟩
                refine AllReadyH.cons rfl (fun K hK => ?_) ?_
                · go_simp
                  refine hK.out _ _ hfl.new4.s (fun _ => IH _ _ _ ?_)
                  exact ⟨1, false, true, true, true, g1, g2, g3, W.heap.size, by omega, by simp [nB], by kernel_rfl, by kernel_rfl, hfl.new4⟩
                exact AllReadyH.nil
              | true =>
                obtain rfl : k = 3 := by simp [nB] at hk; omega
                subst hL; subst ha
                simp only [setB, pU, decide_eq_true_eq, Nat.reduceLeDiff, Nat.le_refl, Bool.false_eq_true, if_true, if_false, List.setIfInBounds_toArray, List.set_cons_zero, List.set_cons_succ]
                have hs := hfl.s
                refine wpAnyH_ready (rs := [11, 21]) (by kernel_rfl) (by simp) ?_
                refine AllReadyH.cons rfl (fun K hK => ?_) ?_
                · have HC := Lib.hid (H2.out _ hs)
                  go_simp
                  go_wp2_with ((go_at_call 8; (with_reducible refine HC.out.mono ?_); rintro e wn ⟨rfl, hbn⟩))
                  refine hK.out _ _ (hfl.up hbn).s (fun _ => IH _ _ _ ?_)
                  exact ⟨2, false, true, true, true, g1, g2, g3, g4, by omega, by simp [nB], by kernel_rfl, by kernel_rfl, hfl.up hbn⟩
                refine AllReadyH.cons rfl (fun K hK => ?_) ?_
                · go_simp
                  refine hK.out _ _ hfl.new1.s (fun _ => IH _ _ _ ?_)
                  exact ⟨1, true, true, true, true, W.heap.size, g2, g3, g4, by omega, by simp [nB], by kernel_rfl, by kernel_rfl, hfl.new1⟩
                exact AllReadyH.nil
        | true =>
          cases b2 with
          | false =>
            cases b3 with
            | false =>
              cases b4 with
              | false =>
                obtain rfl : k = 5 := by simp [nB] at hk; omega
                subst hL; subst ha
                simp only [setB, pU, decide_eq_true_eq, Nat.reduceLeDiff, Nat.le_refl, Bool.false_eq_true, if_true, if_false, List.setIfInBounds_toArray, List.set_cons_zero, List.set_cons_succ]
                have hs := hfl.s
                refine wpAnyH_ready (rs := [11, 22, 23, 24]) (by kernel_rfl) (by simp) ?_
                refine AllReadyH.cons rfl (fun K hK => ?_) ?_
                · have HC := Lib.hid (H2.out _ hs)
                  go_simp
                  go_wp2_with ((go_at_call 8; (with_reducible refine HC.out.mono ?_); rintro e wn ⟨rfl, hbn⟩))
                  refine hK.out _ _ (hfl.up hbn).s (fun _ => IH _ _ _ ?_)
                  exact ⟨2, true, false, false, false, g1, g2, g3, g4, by omega, by simp [nB], by kernel_rfl, by kernel_rfl, hfl.up hbn⟩
                refine AllReadyH.cons rfl (fun K hK => ?_) ?_
                · go_simp
                  refine hK.out _ _ hfl.new2.s (fun _ => IH _ _ _ ?_)
                  exact ⟨1, true, true, false, false, g1, W.heap.size, g3, g4, by omega, by simp [nB], by kernel_rfl, by kernel_rfl, hfl.new2⟩
                refine AllReadyH.cons rfl (fun K hK => ?_) ?_
                · go_simp
                  refine hK.out _ _ hfl.new3.s (fun _ => IH _ _ _ ?_)
                  exact ⟨1, true, false, true, false, g1, g2, W.heap.size, g4, by omega, by simp [nB], by kernel_rfl, by kernel_rfl, hfl.new3⟩
                refine AllReadyH.cons rfl (fun K hK => ?_) ?_
                · go_simp
                  refine hK.out _ _ hfl.new4.s (fun _ => IH _ _ _ ?_)
                  exact ⟨1, true, false, false, true, g1, g2, g3, W.heap.size, by omega, by simp [nB], by kernel_rfl, by kernel_rfl, hfl.new4⟩
                exact AllReadyH.nil
              | true =>
                obtain rfl : k = 4 := by simp [nB] at hk; omega
                subst hL; subst ha
                simp only [setB, pU, decide_eq_true_eq, Nat.reduceLeDiff, Nat.le_refl, Bool.false_eq_true, if_true, if_false, List.setIfInBounds_toArray, List.set_cons_zero, List.set_cons_succ]
                have hs := hfl.s
                refine wpAnyH_ready (rs := [11, 22, 23]) (by kernel_rfl) (by simp) ?_
                refine AllReadyH.cons rfl (fun K hK => ?_) ?_
                · have HC := Lib.hid (H2.out _ hs)
                  go_simp
                  go_wp2_with ((go_at_call 8; (with_reducible refine HC.out.mono ?_); rintro e wn ⟨rfl, hbn⟩))
                  refine hK.out _ _ (hfl.up hbn).s (fun _ => IH _ _ _ ?_)
                  exact ⟨2, true, false, false, true, g1, g2, g3, g4, by omega, by simp [nB], by kernel_rfl, by kernel_rfl, hfl.up hbn⟩
                refine AllReadyH.cons rfl (fun K hK => ?_) ?_
                · go_simp
                  refine hK.out _ _ hfl.new2.s (fun _ => IH _ _ _ ?_)
                  exact ⟨1, true, true, false, true, g1, W.heap.size, g3, g4, by omega, by simp [nB], by kernel_rfl, by kernel_rfl, hfl.new2⟩
                refine AllReadyH.cons rfl (fun K hK => ?_) ?_
                · go_simp
                  refine hK.out _ _ hfl.new3.s (fun _ => IH _ _ _ ?_)
                  exact ⟨1, true, false, true, true, g1, g2, W.heap.size, g4, by omega, by simp [nB], by kernel_rfl, by kernel_rfl, hfl.new3⟩
                exact AllReadyH.nil
            | true =>
              cases b4 with
              | false =>
                obtain rfl : k = 4 := by simp [nB] at hk; omega
                subst hL; subst ha
                simp only [setB, pU, decide_eq_true_eq, Nat.reduceLeDiff, Nat.le_refl, Bool.false_eq_true, if_true, if_false, List.setIfInBounds_toArray, List.set_cons_zero, List.set_cons_succ]
                have hs := hfl.s
                refine wpAnyH_ready (rs := [11, 22, 24]) (by kernel_rfl) (by simp) ?_
                refine AllReadyH.cons rfl (fun K hK => ?_) ?_
                · have HC := Lib.hid (H2.out _ hs)
                  go_simp
                  go_wp2_with ((go_at_call 8; (with_reducible refine HC.out.mono ?_); rintro e wn ⟨rfl, hbn⟩))
                  refine hK.out _ _ (hfl.up hbn).s (fun _ => IH _ _ _ ?_)
                  exact ⟨2, true, false, true, false, g1, g2, g3, g4, by omega, by simp [nB], by kernel_rfl, by kernel_rfl, hfl.up hbn⟩
                refine AllReadyH.cons rfl (fun K hK => ?_) ?_
                · go_simp
                  refine hK.out _ _ hfl.new2.s (fun _ => IH _ _ _ ?_)
                  exact ⟨1, true, true, true, false, g1, W.heap.size, g3, g4, by omega, by simp [nB], by kernel_rfl, by kernel_rfl, hfl.new2⟩
                refine AllReadyH.cons rfl (fun K hK => ?_) ?_
                · go_simp
                  refine hK.out _ _ hfl.new4.s (fun _ => IH _ _ _ ?_)
                  exact ⟨1, true, false, true, true, g1, g2, g3, W.heap.size, by omega, by simp [nB], by kernel_rfl, by kernel_rfl, hfl.new4⟩
                exact AllReadyH.nil
              | true =>
                obtain rfl : k = 3 := by simp [nB] at hk; omega
                subst hL; subst ha
                simp only [setB, pU, decide_eq_true_eq, Nat.reduceLeDiff, Nat.le_refl, Bool.false_eq_true, if_true, if_false, List.setIfInBounds_toArray, List.set_cons_zero, List.set_cons_succ]
                have hs := hfl.s
                refine wpAnyH_ready (rs := [11, 22]) (by kernel_rfl) (by simp) ?_
                refine AllReadyH.cons rfl (fun K hK => ?_) ?_
                · have HC := Lib.hid (H2.out _ hs)
                  go_simp
                  go_wp2_with ((go_at_call 8; (with_reducible refine HC.out.mono ?_); rintro e wn ⟨rfl, hbn⟩))
                  refine hK.out _ _ (hfl.up hbn).s (fun _ => IH _ _ _ ?_)
                  exact ⟨2, true, false, true, true, g1, g2, g3, g4, by omega, by simp [nB], by kernel_rfl, by kernel_rfl, hfl.up hbn⟩
                refine AllReadyH.cons rfl (fun K hK => ?_) ?_
                · go_simp
                  refine hK.out _ _ hfl.new2.s (fun _ => IH _ _ _ ?_)
                  exact ⟨1, true, true, true, true, g1, W.heap.size, g3, g4, by omega, by simp [nB], by kernel_rfl, by kernel_rfl, hfl.new2⟩
                exact AllReadyH.nil
          | true =>
            cases b3 with
            | false =>
              cases b4 with
              | false =>
                obtain rfl : k = 4 := by simp [nB] at hk; omega
                subst hL; subst ha
                simp only [setB, pU, decide_eq_true_eq, Nat.reduceLeDiff, Nat.le_refl, Bool.false_eq_true, if_true, if_false, List.setIfInBounds_toArray, List.set_cons_zero, List.set_cons_succ]
                have hs := hfl.s
                refine wpAnyH_ready (rs := [11, 23, 24]) (by kernel_rfl) (by simp) ?_
                refine AllReadyH.cons rfl (fun K hK => ?_) ?_
                · have HC := Lib.hid (H2.out _ hs)
                  go_simp
                  go_wp2_with ((go_at_call 8; (with_reducible refine HC.out.mono ?_); rintro e wn ⟨rfl, hbn⟩))
                  refine hK.out _ _ (hfl.up hbn).s (fun _ => IH _ _ _ ?_)
                  exact ⟨2, true, true, false, false, g1, g2, g3, g4, by omega, by simp [nB], by kernel_rfl, by kernel_rfl, hfl.up hbn⟩
                refine AllReadyH.cons rfl (fun K hK => ?_) ?_
                · go_simp
                  refine hK.out _ _ hfl.new3.s (fun _ => IH _ _ _ ?_)
                  exact ⟨1, true, true, true, false, g1, g2, W.heap.size, g4, by omega, by simp [nB], by kernel_rfl, by kernel_rfl, hfl.new3⟩
                refine AllReadyH.cons rfl (fun K hK => ?_) ?_
                · go_simp
                  refine hK.out _ _ hfl.new4.s (fun _ => IH _ _ _ ?_)
                  exact ⟨1, true, true, false, true, g1, g2, g3, W.heap.size, by omega, by simp [nB], by kernel_rfl, by kernel_rfl, hfl.new4⟩
                exact AllReadyH.nil
              | true =>
                obtain rfl : k = 3 := by simp [nB] at hk; omega
                subst hL; subst ha
                simp only [setB, pU, decide_eq_true_eq, Nat.reduceLeDiff, Nat.le_refl, Bool.false_eq_true, if_true, if_false, List.setIfInBounds_toArray, List.set_cons_zero, List.set_cons_succ]
                have hs := hfl.s
                refine wpAnyH_ready (rs := [11, 23]) (by kernel_rfl) (by simp) ?_
                refine AllReadyH.cons rfl (fun K hK => ?_) ?_
                · have HC := Lib.hid (H2.out _ hs)
                  go_simp
                  go_wp2_with ((go_at_call 8; (with_reducible refine HC.out.mono ?_); rintro e wn ⟨rfl, hbn⟩))
                  refine hK.out _ _ (hfl.up hbn).s (fun _ => IH _ _ _ ?_)
                  exact ⟨2, true, true, false, true, g1, g2, g3, g4, by omega, by simp [nB], by kernel_rfl, by kernel_rfl, hfl.up hbn⟩
                refine AllReadyH.cons rfl (fun K hK => ?_) ?_
                · go_simp
                  refine hK.out _ _ hfl.new3.s (fun _ => IH _ _ _ ?_)
                  exact ⟨1, true, true, true, true, g1, g2, W.heap.size, g4, by omega, by simp [nB], by kernel_rfl, by kernel_rfl, hfl.new3⟩
                exact AllReadyH.nil
            | true =>
              cases b4 with
              | false =>
                obtain rfl : k = 3 := by simp [nB] at hk; omega
                subst hL; subst ha
                simp only [setB, pU, decide_eq_true_eq, Nat.reduceLeDiff, Nat.le_refl, Bool.false_eq_true, if_true, if_false, List.setIfInBounds_toArray, List.set_cons_zero, List.set_cons_succ]
                have hs := hfl.s
                refine wpAnyH_ready (rs := [11, 24]) (by kernel_rfl) (by simp) ?_
                refine AllReadyH.cons rfl (fun K hK => ?_) ?_
                · have HC := Lib.hid (H2.out _ hs)
                  go_simp
                  go_wp2_with ((go_at_call 8; (with_reducible refine HC.out.mono ?_); rintro e wn ⟨rfl, hbn⟩))
                  refine hK.out _ _ (hfl.up hbn).s (fun _ => IH _ _ _ ?_)
                  exact ⟨2, true, true, true, false, g1, g2, g3, g4, by omega, by simp [nB], by kernel_rfl, by kernel_rfl, hfl.up hbn⟩
                refine AllReadyH.cons rfl (fun K hK => ?_) ?_
                · go_simp
                  refine hK.out _ _ hfl.new4.s (fun _ => IH _ _ _ ?_)
                  exact ⟨1, true, true, true, true, g1, g2, g3, W.heap.size, by omega, by simp [nB], by kernel_rfl, by kernel_rfl, hfl.new4⟩
                exact AllReadyH.nil
              | true =>
                obtain rfl : k = 2 := by simp [nB] at hk; omega
                subst hL; subst ha
                simp only [setB, pU, decide_eq_true_eq, Nat.reduceLeDiff, Nat.le_refl, Bool.false_eq_true, if_true, if_false, List.setIfInBounds_toArray, List.set_cons_zero, List.set_cons_succ]
                have hs := hfl.s
                refine wpAnyH_ready (rs := [11]) (by kernel_rfl) (by simp) ?_
                refine AllReadyH.cons rfl (fun K hK => ?_) ?_
                · have HC := Lib.hid (H2.out _ hs)
                  go_simp
                  go_wp2_with ((go_at_call 8; (with_reducible refine HC.out.mono ?_); rintro e wn ⟨rfl, hbn⟩))
                  refine hK.out _ _ (hfl.up hbn).s (fun _ => IH _ _ _ ?_)
                  exact ⟨2, true, true, true, true, g1, g2, g3, g4, by omega, by simp [nB], by kernel_rfl, by kernel_rfl, hfl.up hbn⟩
                exact AllReadyH.nil
      · cases b1 with
        | false =>
          cases b2 with
          | false =>
            cases b3 with
            | false =>
              cases b4 with
              | false =>
                obtain rfl : k = 5 := by simp [nB] at hk; omega
                subst hL; subst ha
                simp only [setB, pU, decide_eq_true_eq, Nat.reduceLeDiff, Nat.le_refl, Bool.false_eq_true, if_true, if_false, List.setIfInBounds_toArray, List.set_cons_zero, List.set_cons_succ]
                have hs := hfl.s
                refine wpAnyH_ready (rs := [16, 21, 22, 23, 24]) (by kernel_rfl) (by simp) ?_
                refine AllReadyH.cons rfl (fun K hK => ?_) ?_
                · have HC := Lib.hid (H3.out _ hs)
                  go_simp
                  go_wp2_with ((go_at_call 8; (with_reducible refine HC.out.mono ?_); rintro e wn ⟨rfl, hbn⟩))
                  refine hK.out _ _ (hfl.up hbn).s (fun _ => IH _ _ _ ?_)
                  exact ⟨3, false, false, false, false, g1, g2, g3, g4, by omega, by simp [nB], by kernel_rfl, by kernel_rfl, hfl.up hbn⟩
                refine AllReadyH.cons rfl (fun K hK => ?_) ?_
                · go_simp
                  refine hK.out _ _ hfl.new1.s (fun _ => IH _ _ _ ?_)
                  exact ⟨2, true, false, false, false, W.heap.size, g2, g3, g4, by omega, by simp [nB], by kernel_rfl, by kernel_rfl, hfl.new1⟩
                refine AllReadyH.cons rfl (fun K hK => ?_) ?_
                · go_simp
                  refine hK.out _ _ hfl.new2.s (fun _ => IH _ _ _ ?_)
                  exact ⟨2, false, true, false, false, g1, W.heap.size, g3, g4, by omega, by simp [nB], by kernel_rfl, by kernel_rfl, hfl.new2⟩
                refine AllReadyH.cons rfl (fun K hK => ?_) ?_
                · go_simp
                  refine hK.out _ _ hfl.new3.s (fun _ => IH _ _ _ ?_)
                  exact ⟨2, false, false, true, false, g1, g2, W.heap.size, g4, by omega, by simp [nB], by kernel_rfl, by kernel_rfl, hfl.new3⟩
                refine AllReadyH.cons rfl (fun K hK => ?_) ?_
                · go_simp
                  refine hK.out _ _ hfl.new4.s (fun _ => IH _ _ _ ?_)
                  exact ⟨2, false, false, false, true, g1, g2, g3, W.heap.size, by omega, by simp [nB], by kernel_rfl, by kernel_rfl, hfl.new4⟩
                exact AllReadyH.nil
              | true =>
                obtain rfl : k = 4 := by simp [nB] at hk; omega
                subst hL; subst ha
                simp only [setB, pU, decide_eq_true_eq, Nat.reduceLeDiff, Nat.le_refl, Bool.false_eq_true, if_true, if_false, List.setIfInBounds_toArray, List.set_cons_zero, List.set_cons_succ]
                have hs := hfl.s
                refine wpAnyH_ready (rs := [16, 21, 22, 23]) (by kernel_rfl) (by simp) ?_
                refine AllReadyH.cons rfl (fun K hK => ?_) ?_
                · have HC := Lib.hid (H3.out _ hs)
                  go_simp
                  go_wp2_with ((go_at_call 8; (with_reducible refine HC.out.mono ?_); rintro e wn ⟨rfl, hbn⟩))
                  refine hK.out _ _ (hfl.up hbn).s (fun _ => IH _ _ _ ?_)
                  exact ⟨3, false, false, false, true, g1, g2, g3, g4, by omega, by simp [nB], by kernel_rfl, by kernel_rfl, hfl.up hbn⟩
                refine AllReadyH.cons rfl (fun K hK => ?_) ?_
                · go_simp
                  refine hK.out _ _ hfl.new1.s (fun _ => IH _ _ _ ?_)
                  exact ⟨2, true, false, false, true, W.heap.size, g2, g3, g4, by omega, by simp [nB], by kernel_rfl, by kernel_rfl, hfl.new1⟩
                refine AllReadyH.cons rfl (fun K hK => ?_) ?_
                · go_simp
                  refine hK.out _ _ hfl.new2.s (fun _ => IH _ _ _ ?_)
                  exact ⟨2, false, true, false, true, g1, W.heap.size, g3, g4, by omega, by simp [nB], by kernel_rfl, by kernel_rfl, hfl.new2⟩
                refine AllReadyH.cons rfl (fun K hK => ?_) ?_
                · go_simp
                  refine hK.out _ _ hfl.new3.s (fun _ => IH _ _ _ ?_)
                  exact ⟨2, false, false, true, true, g1, g2, W.heap.size, g4, by omega, by simp [nB], by kernel_rfl, by kernel_rfl, hfl.new3⟩
                exact AllReadyH.nil
            | true =>
              cases b4 with
              | false =>
                obtain rfl : k = 4 := by simp [nB] at hk; omega
                subst hL; subst ha
                simp only [setB, pU, decide_eq_true_eq, Nat.reduceLeDiff, Nat.le_refl, Bool.false_eq_true, if_true, if_false, List.setIfInBounds_toArray, List.set_cons_zero, List.set_cons_succ]
                have hs := hfl.s
                refine wpAnyH_ready (rs := [16, 21, 22, 24]) (by kernel_rfl) (by simp) ?_
                refine AllReadyH.cons rfl (fun K hK => ?_) ?_
                · have HC := Lib.hid (H3.out _ hs)
                  go_simp
                  go_wp2_with ((go_at_call 8; (with_reducible refine HC.out.mono ?_); rintro e wn ⟨rfl, hbn⟩))
                  refine hK.out _ _ (hfl.up hbn).s (fun _ => IH _ _ _ ?_)
                  exact ⟨3, false, false, true, false, g1, g2, g3, g4, by omega, by simp [nB], by kernel_rfl, by kernel_rfl, hfl.up hbn⟩
                refine AllReadyH.cons rfl (fun K hK => ?_) ?_
                · go_simp
                  refine hK.out _ _ hfl.new1.s (fun _ => IH _ _ _ ?_)
                  exact ⟨2, true, false, true, false, W.heap.size, g2, g3, g4, by omega, by simp [nB], by kernel_rfl, by kernel_rfl, hfl.new1⟩
                refine AllReadyH.cons rfl (fun K hK => ?_) ?_
                · go_simp
                  refine hK.out _ _ hfl.new2.s (fun _ => IH _ _ _ ?_)
                  exact ⟨2, false, true, true, false, g1, W.heap.size, g3, g4, by omega, by simp [nB], by kernel_rfl, by kernel_rfl, hfl.new2⟩
                refine AllReadyH.cons rfl (fun K hK => ?_) ?_
                · go_simp
                  refine hK.out _ _ hfl.new4.s (fun _ => IH _ _ _ ?_)
                  exact ⟨2, false, false, true, true, g1, g2, g3, W.heap.size, by omega, by simp [nB], by kernel_rfl, by kernel_rfl, hfl.new4⟩
                exact AllReadyH.nil
              | true =>
                obtain rfl : k = 3 := by simp [nB] at hk; omega
                subst hL; subst ha
                simp only [setB, pU, decide_eq_true_eq, Nat.reduceLeDiff, Nat.le_refl, Bool.false_eq_true, if_true, if_false, List.setIfInBounds_toArray, List.set_cons_zero, List.set_cons_succ]
                have hs := hfl.s
                refine wpAnyH_ready (rs := [16, 21, 22]) (by kernel_rfl) (by simp) ?_
                refine AllReadyH.cons rfl (fun K hK => ?_) ?_
                · have HC := Lib.hid (H3.out _ hs)
                  go_simp
                  go_wp2_with ((go_at_call 8; (with_reducible refine HC.out.mono ?_); rintro e wn ⟨rfl, hbn⟩))
                  refine hK.out _ _ (hfl.up hbn).s (fun _ => IH _ _ _ ?_)
                  exact ⟨3, false, false, true, true, g1, g2, g3, g4, by omega, by simp [nB], by kernel_rfl, by kernel_rfl, hfl.up hbn⟩
                refine AllReadyH.cons rfl (fun K hK => ?_) ?_
                · go_simp
                  refine hK.out _ _ hfl.new1.s (fun _ => IH _ _ _ ?_)
                  exact ⟨2, true, false, true, true, W.heap.size, g2, g3, g4, by omega, by simp [nB], by kernel_rfl, by kernel_rfl, hfl.new1⟩
                refine AllReadyH.cons rfl (fun K hK => ?_) ?_
                · go_simp
                  refine hK.out _ _ hfl.new2.s (fun _ => IH _ _ _ ?_)
                  exact ⟨2, false, true, true, true, g1, W.heap.size, g3, g4, by omega, by simp [nB], by kernel_rfl, by kernel_rfl, hfl.new2⟩
                exact AllReadyH.nil
          | true =>
            cases b3 with
            | false =>
              cases b4 with
              | false =>
                obtain rfl : k = 4 := by simp [nB] at hk; omega
                subst hL; subst ha
                simp only [setB, pU, decide_eq_true_eq, Nat.reduceLeDiff, Nat.le_refl, Bool.false_eq_true, if_true, if_false, List.setIfInBounds_toArray, List.set_cons_zero, List.set_cons_succ]
                have hs := hfl.s
                refine wpAnyH_ready (rs := [16, 21, 23, 24]) (by kernel_rfl) (by simp) ?_
                refine AllReadyH.cons rfl (fun K hK => ?_) ?_
                · have HC := Lib.hid (H3.out _ hs)
                  go_simp
                  go_wp2_with ((go_at_call 8; (with_reducible refine HC.out.mono ?_); rintro e wn ⟨rfl, hbn⟩))
                  refine hK.out _ _ (hfl.up hbn).s (fun _ => IH _ _ _ ?_)
                  exact ⟨3, false, true, false, false, g1, g2, g3, g4, by omega, by simp [nB], by kernel_rfl, by kernel_rfl, hfl.up hbn⟩
                refine AllReadyH.cons rfl (fun K hK => ?_) ?_
                · go_simp
                  refine hK.out _ _ hfl.new1.s (fun _ => IH _ _ _ ?_)
                  exact ⟨2, true, true, false, false, W.heap.size, g2, g3, g4, by omega, by simp [nB], by kernel_rfl, by kernel_rfl, hfl.new1⟩
                refine AllReadyH.cons rfl (fun K hK => ?_) ?_
                · go_simp
                  refine hK.out _ _ hfl.new3.s (fun _ => IH _ _ _ ?_)
                  exact ⟨2, false, true, true, false, g1, g2, W.heap.size, g4, by omega, by simp [nB], by kernel_rfl, by kernel_rfl, hfl.new3⟩
                refine AllReadyH.cons rfl (fun K hK => ?_) ?_
                · go_simp
                  refine hK.out _ _ hfl.new4.s (fun _ => IH _ _ _ ?_)
                  exact ⟨2, false, true, false, true, g1, g2, g3, W.heap.size, by omega, by simp [nB], by kernel_rfl, by kernel_rfl, hfl.new4⟩
                exact AllReadyH.nil
              | true =>
                obtain rfl : k = 3 := by simp [nB] at hk; omega
                subst hL; subst ha
                simp only [setB, pU, decide_eq_true_eq, Nat.reduceLeDiff, Nat.le_refl, Bool.false_eq_true, if_true, if_false, List.setIfInBounds_toArray, List.set_cons_zero, List.set_cons_succ]
                have hs := hfl.s
                refine wpAnyH_ready (rs := [16, 21, 23]) (by kernel_rfl) (by simp) ?_
                refine AllReadyH.cons rfl (fun K hK => ?_) ?_
                · have HC := Lib.hid (H3.out _ hs)
                  go_simp
                  go_wp2_with ((go_at_call 8; (with_reducible refine HC.out.mono ?_); rintro e wn ⟨rfl, hbn⟩))
                  refine hK.out _ _ (hfl.up hbn).s (fun _ => IH _ _ _ ?_)
                  exact ⟨3, false, true, false, true, g1, g2, g3, g4, by omega, by simp [nB], by kernel_rfl, by kernel_rfl, hfl.up hbn⟩
                refine AllReadyH.cons rfl (fun K hK => ?_) ?_
                · go_simp
                  refine hK.out _ _ hfl.new1.s (fun _ => IH _ _ _ ?_)
                  exact ⟨2, true, true, false, true, W.heap.size, g2, g3, g4, by omega, by simp [nB], by kernel_rfl, by kernel_rfl, hfl.new1⟩
                refine AllReadyH.cons rfl (fun K hK => ?_) ?_
                · go_simp
                  refine hK.out _ _ hfl.new3.s (fun _ => IH _ _ _ ?_)
                  exact ⟨2, false, true, true, true, g1, g2, W.heap.size, g4, by omega, by simp [nB], by kernel_rfl, by kernel_rfl, hfl.new3⟩
                exact AllReadyH.nil
            | true =>
              cases b4 with
              | false =>
                obtain rfl : k = 3 := by simp [nB] at hk; omega
                subst hL; subst ha
                simp only [setB, pU, decide_eq_true_eq, Nat.reduceLeDiff, Nat.le_refl, Bool.false_eq_true, if_true, if_false, List.setIfInBounds_toArray, List.set_cons_zero, List.set_cons_succ]
                have hs := hfl.s
                refine wpAnyH_ready (rs := [16, 21, 24]) (by kernel_rfl) (by simp) ?_
                refine AllReadyH.cons rfl (fun K hK => ?_) ?_
                · have HC := Lib.hid (H3.out _ hs)
                  go_simp
                  go_wp2_with ((go_at_call 8; (with_reducible refine HC.out.mono ?_); rintro e wn ⟨rfl, hbn⟩))
                  refine hK.out _ _ (hfl.up hbn).s (fun _ => IH _ _ _ ?_)
                  exact ⟨3, false, true, true, false, g1, g2, g3, g4, by omega, by simp [nB], by kernel_rfl, by kernel_rfl, hfl.up hbn⟩
                refine AllReadyH.cons rfl (fun K hK => ?_) ?_
                · go_simp
                  refine hK.out _ _ hfl.new1.s (fun _ => IH _ _ _ ?_)
                  exact ⟨2, true, true, true, false, W.heap.size, g2, g3, g4, by omega, by simp [nB], by kernel_rfl, by kernel_rfl, hfl.new1⟩
                refine AllReadyH.cons rfl (fun K hK => ?_) ?_
                · go_simp
                  refine hK.out _ _ hfl.new4.s (fun _ => IH _ _ _ ?_)
                  exact ⟨2, false, true, true, true, g1, g2, g3, W.heap.size, by omega, by simp [nB], by kernel_rfl, by kernel_rfl, hfl.new4⟩
                exact AllReadyH.nil
              | true =>
                obtain rfl : k = 2 := by simp [nB] at hk; omega
                subst hL; subst ha
                simp only [setB, pU, decide_eq_true_eq, Nat.reduceLeDiff, Nat.le_refl, Bool.false_eq_true, if_true, if_false, List.setIfInBounds_toArray, List.set_cons_zero, List.set_cons_succ]
                have hs := hfl.s
                refine wpAnyH_ready (rs := [16, 21]) (by kernel_rfl) (by simp) ?_
                refine AllReadyH.cons rfl (fun K hK => ?_) ?_
                · have HC := Lib.hid (H3.out _ hs)
                  go_simp
                  go_wp2_with ((go_at_call 8; (with_reducible refine HC.out.mono ?_); rintro e wn ⟨rfl, hbn⟩))
                  refine hK.out _ _ (hfl.up hbn).s (fun _ => IH _ _ _ ?_)
                  exact ⟨3, false, true, true, true, g1, g2, g3, g4, by omega, by simp [nB], by kernel_rfl, by kernel_rfl, hfl.up hbn⟩
                refine AllReadyH.cons rfl (fun K hK => ?_) ?_
                · go_simp
                  refine hK.out _ _ hfl.new1.s (fun _ => IH _ _ _ ?_)
                  exact ⟨2, true, true, true, true, W.heap.size, g2, g3, g4, by omega, by simp [nB], by kernel_rfl, by kernel_rfl, hfl.new1⟩
                exact AllReadyH.nil
        | true =>
          cases b2 with
          | false =>
            cases b3 with
            | false =>
              cases b4 with
              | false =>
                obtain rfl : k = 4 := by simp [nB] at hk; omega
                subst hL; subst ha
                simp only [setB, pU, decide_eq_true_eq, Nat.reduceLeDiff, Nat.le_refl, Bool.false_eq_true, if_true, if_false, List.setIfInBounds_toArray, List.set_cons_zero, List.set_cons_succ]
                have hs := hfl.s
                refine wpAnyH_ready (rs := [16, 22, 23, 24]) (by kernel_rfl) (by simp) ?_
                refine AllReadyH.cons rfl (fun K hK => ?_) ?_
                · have HC := Lib.hid (H3.out _ hs)
                  go_simp
                  go_wp2_with ((go_at_call 8; (with_reducible refine HC.out.mono ?_); rintro e wn ⟨rfl, hbn⟩))
                  refine hK.out _ _ (hfl.up hbn).s (fun _ => IH _ _ _ ?_)
                  exact ⟨3, true, false, false, false, g1, g2, g3, g4, by omega, by simp [nB], by kernel_rfl, by kernel_rfl, hfl.up hbn⟩
                refine AllReadyH.cons rfl (fun K hK => ?_) ?_
                · go_simp
                  refine hK.out _ _ hfl.new2.s (fun _ => IH _ _ _ ?_)
                  exact ⟨2, true, true, false, false, g1, W.heap.size, g3, g4, by omega, by simp [nB], by kernel_rfl, by kernel_rfl, hfl.new2⟩
                refine AllReadyH.cons rfl (fun K hK => ?_) ?_
                · go_simp
                  refine hK.out _ _ hfl.new3.s (fun _ => IH _ _ _ ?_)
                  exact ⟨2, true, false, true, false, g1, g2, W.heap.size, g4, by omega, by simp [nB], by kernel_rfl, by kernel_rfl, hfl.new3⟩
                refine AllReadyH.cons rfl (fun K hK => ?_) ?_
                · go_simp
                  refine hK.out _ _ hfl.new4.s (fun _ => IH _ _ _ ?_)
                  exact ⟨2, true, false, false, true, g1, g2, g3, W.heap.size, by omega, by simp [nB], by kernel_rfl, by kernel_rfl, hfl.new4⟩
                exact AllReadyH.nil
              | true =>
                obtain rfl : k = 3 := by simp [nB] at hk; omega
                subst hL; subst ha
                simp only [setB, pU, decide_eq_true_eq, Nat.reduceLeDiff, Nat.le_refl, Bool.false_eq_true, if_true, if_false, List.setIfInBounds_toArray, List.set_cons_zero, List.set_cons_succ]
                have hs := hfl.s
                refine wpAnyH_ready (rs := [16, 22, 23]) (by kernel_rfl) (by simp) ?_
                refine AllReadyH.cons rfl (fun K hK => ?_) ?_
                · have HC := Lib.hid (H3.out _ hs)
                  go_simp
                  go_wp2_with ((go_at_call 8; (with_reducible refine HC.out.mono ?_); rintro e wn ⟨rfl, hbn⟩))
                  refine hK.out _ _ (hfl.up hbn).s (fun _ => IH _ _ _ ?_)
                  exact ⟨3, true, false, false, true, g1, g2, g3, g4, by omega, by simp [nB], by kernel_rfl, by kernel_rfl, hfl.up hbn⟩
                refine AllReadyH.cons rfl (fun K hK => ?_) ?_
                · go_simp
                  refine hK.out _ _ hfl.new2.s (fun _ => IH _ _ _ ?_)
                  exact ⟨2, true, true, false, true, g1, W.heap.size, g3, g4, by omega, by simp [nB], by kernel_rfl, by kernel_rfl, hfl.new2⟩
                refine AllReadyH.cons rfl (fun K hK => ?_) ?_
                · go_simp
                  refine hK.out _ _ hfl.new3.s (fun _ => IH _ _ _ ?_)
                  exact ⟨2, true, false, true, true, g1, g2, W.heap.size, g4, by omega, by simp [nB], by kernel_rfl, by kernel_rfl, hfl.new3⟩
                exact AllReadyH.nil
            | true =>
              cases b4 with
              | false =>
                obtain rfl : k = 3 := by simp [nB] at hk; omega
                subst hL; subst ha
                simp only [setB, pU, decide_eq_true_eq, Nat.reduceLeDiff, Nat.le_refl, Bool.false_eq_true, if_true, if_false, List.setIfInBounds_toArray, List.set_cons_zero, List.set_cons_succ]
                have hs := hfl.s
                refine wpAnyH_ready (rs := [16, 22, 24]) (by kernel_rfl) (by simp) ?_
                refine AllReadyH.cons rfl (fun K hK => ?_) ?_
                · have HC := Lib.hid (H3.out _ hs)
                  go_simp
                  go_wp2_with ((go_at_call 8; (with_reducible refine HC.out.mono ?_); rintro e wn ⟨rfl, hbn⟩))
                  refine hK.out _ _ (hfl.up hbn).s (fun _ => IH _ _ _ ?_)
                  exact ⟨3, true, false, true, false, g1, g2, g3, g4, by omega, by simp [nB], by kernel_rfl, by kernel_rfl, hfl.up hbn⟩
                refine AllReadyH.cons rfl (fun K hK => ?_) ?_
                · go_simp
                  refine hK.out _ _ hfl.new2.s (fun _ => IH _ _ _ ?_)
                  exact ⟨2, true, true, true, false, g1, W.heap.size, g3, g4, by omega, by simp [nB], by kernel_rfl, by kernel_rfl, hfl.new2⟩
                refine AllReadyH.cons rfl (fun K hK => ?_) ?_
                · go_simp
                  refine hK.out _ _ hfl.new4.s (fun _ => IH _ _ _ ?_)
                  exact ⟨2, true, false, true, true, g1, g2, g3, W.heap.size, by omega, by simp [nB], by kernel_rfl, by kernel_rfl, hfl.new4⟩
                exact AllReadyH.nil
              | true =>
                obtain rfl : k = 2 := by simp [nB] at hk; omega
                subst hL; subst ha
                simp only [setB, pU, decide_eq_true_eq, Nat.reduceLeDiff, Nat.le_refl, Bool.false_eq_true, if_true, if_false, List.setIfInBounds_toArray, List.set_cons_zero, List.set_cons_succ]
                have hs := hfl.s
                refine wpAnyH_ready (rs := [16, 22]) (by kernel_rfl) (by simp) ?_
                refine AllReadyH.cons rfl (fun K hK => ?_) ?_
                · have HC := Lib.hid (H3.out _ hs)
                  go_simp
                  go_wp2_with ((go_at_call 8; (with_reducible refine HC.out.mono ?_); rintro e wn ⟨rfl, hbn⟩))
                  refine hK.out _ _ (hfl.up hbn).s (fun _ => IH _ _ _ ?_)
                  exact ⟨3, true, false, true, true, g1, g2, g3, g4, by omega, by simp [nB], by kernel_rfl, by kernel_rfl, hfl.up hbn⟩
                refine AllReadyH.cons rfl (fun K hK => ?_) ?_
                · go_simp
                  refine hK.out _ _ hfl.new2.s (fun _ => IH _ _ _ ?_)
                  exact ⟨2, true, true, true, true, g1, W.heap.size, g3, g4, by omega, by simp [nB], by kernel_rfl, by kernel_rfl, hfl.new2⟩
                exact AllReadyH.nil
          | true =>
            cases b3 with
            | false =>
              cases b4 with
              | false =>
                obtain rfl : k = 3 := by simp [nB] at hk; omega
                subst hL; subst ha
                simp only [setB, pU, decide_eq_true_eq, Nat.reduceLeDiff, Nat.le_refl, Bool.false_eq_true, if_true, if_false, List.setIfInBounds_toArray, List.set_cons_zero, List.set_cons_succ]
                have hs := hfl.s
                refine wpAnyH_ready (rs := [16, 23, 24]) (by kernel_rfl) (by simp) ?_
                refine AllReadyH.cons rfl (fun K hK => ?_) ?_
                · have HC := Lib.hid (H3.out _ hs)
                  go_simp
                  go_wp2_with ((go_at_call 8; (with_reducible refine HC.out.mono ?_); rintro e wn ⟨rfl, hbn⟩))
                  refine hK.out _ _ (hfl.up hbn).s (fun _ => IH _ _ _ ?_)
                  exact ⟨3, true, true, false, false, g1, g2, g3, g4, by omega, by simp [nB], by kernel_rfl, by kernel_rfl, hfl.up hbn⟩
                refine AllReadyH.cons rfl (fun K hK => ?_) ?_
                · go_simp
                  refine hK.out _ _ hfl.new3.s (fun _ => IH _ _ _ ?_)
                  exact ⟨2, true, true, true, false, g1, g2, W.heap.size, g4, by omega, by simp [nB], by kernel_rfl, by kernel_rfl, hfl.new3⟩
                refine AllReadyH.cons rfl (fun K hK => ?_) ?_
                · go_simp
                  refine hK.out _ _ hfl.new4.s (fun _ => IH _ _ _ ?_)
                  exact ⟨2, true, true, false, true, g1, g2, g3, W.heap.size, by omega, by simp [nB], by kernel_rfl, by kernel_rfl, hfl.new4⟩
                exact AllReadyH.nil
              | true =>
                obtain rfl : k = 2 := by simp [nB] at hk; omega
                subst hL; subst ha
                simp only [setB, pU, decide_eq_true_eq, Nat.reduceLeDiff, Nat.le_refl, Bool.false_eq_true, if_true, if_false, List.setIfInBounds_toArray, List.set_cons_zero, List.set_cons_succ]
                have hs := hfl.s
                refine wpAnyH_ready (rs := [16, 23]) (by kernel_rfl) (by simp) ?_
                refine AllReadyH.cons rfl (fun K hK => ?_) ?_
                · have HC := Lib.hid (H3.out _ hs)
                  go_simp
                  go_wp2_with ((go_at_call 8; (with_reducible refine HC.out.mono ?_); rintro e wn ⟨rfl, hbn⟩))
                  refine hK.out _ _ (hfl.up hbn).s (fun _ => IH _ _ _ ?_)
                  exact ⟨3, true, true, false, true, g1, g2, g3, g4, by omega, by simp [nB], by kernel_rfl, by kernel_rfl, hfl.up hbn⟩
                refine AllReadyH.cons rfl (fun K hK => ?_) ?_
                · go_simp
                  refine hK.out _ _ hfl.new3.s (fun _ => IH _ _ _ ?_)
                  exact ⟨2, true, true, true, true, g1, g2, W.heap.size, g4, by omega, by simp [nB], by kernel_rfl, by kernel_rfl, hfl.new3⟩
                exact AllReadyH.nil
            | true =>
              cases b4 with
              | false =>
                obtain rfl : k = 2 := by simp [nB] at hk; omega
                subst hL; subst ha
                simp only [setB, pU, decide_eq_true_eq, Nat.reduceLeDiff, Nat.le_refl, Bool.false_eq_true, if_true, if_false, List.setIfInBounds_toArray, List.set_cons_zero, List.set_cons_succ]
                have hs := hfl.s
                refine wpAnyH_ready (rs := [16, 24]) (by kernel_rfl) (by simp) ?_
                refine AllReadyH.cons rfl (fun K hK => ?_) ?_
                · have HC := Lib.hid (H3.out _ hs)
                  go_simp
                  go_wp2_with ((go_at_call 8; (with_reducible refine HC.out.mono ?_); rintro e wn ⟨rfl, hbn⟩))
                  refine hK.out _ _ (hfl.up hbn).s (fun _ => IH _ _ _ ?_)
                  exact ⟨3, true, true, true, false, g1, g2, g3, g4, by omega, by simp [nB], by kernel_rfl, by kernel_rfl, hfl.up hbn⟩
                refine AllReadyH.cons rfl (fun K hK => ?_) ?_
                · go_simp
                  refine hK.out _ _ hfl.new4.s (fun _ => IH _ _ _ ?_)
                  exact ⟨2, true, true, true, true, g1, g2, g3, W.heap.size, by omega, by simp [nB], by kernel_rfl, by kernel_rfl, hfl.new4⟩
                exact AllReadyH.nil
              | true =>
                obtain rfl : k = 1 := by simp [nB] at hk; omega
                subst hL; subst ha
                simp only [setB, pU, decide_eq_true_eq, Nat.reduceLeDiff, Nat.le_refl, Bool.false_eq_true, if_true, if_false, List.setIfInBounds_toArray, List.set_cons_zero, List.set_cons_succ]
                have hs := hfl.s
                refine wpAnyH_ready (rs := [16]) (by kernel_rfl) (by simp) ?_
                refine AllReadyH.cons rfl (fun K hK => ?_) ?_
                · have HC := Lib.hid (H3.out _ hs)
                  go_simp
                  go_wp2_with ((go_at_call 8; (with_reducible refine HC.out.mono ?_); rintro e wn ⟨rfl, hbn⟩))
                  refine hK.out _ _ (hfl.up hbn).s (fun _ => IH _ _ _ ?_)
                  exact ⟨3, true, true, true, true, g1, g2, g3, g4, by omega, by simp [nB], by kernel_rfl, by kernel_rfl, hfl.up hbn⟩
                exact AllReadyH.nil
      · cases b1 with
        | false =>
          cases b2 with
          | false =>
            cases b3 with
            | false =>
              cases b4 with
              | false =>
                obtain rfl : k = 4 := by simp [nB] at hk; omega
                subst hL; subst ha
                simp only [setB, pU, decide_eq_true_eq, Nat.reduceLeDiff, Nat.le_refl, Bool.false_eq_true, if_true, if_false, List.setIfInBounds_toArray, List.set_cons_zero, List.set_cons_succ]
                have hs := hfl.s
                refine wpAnyH_ready (rs := [20, 21, 22, 23, 24]) (by kernel_rfl) (by simp) ?_
                refine AllReadyH.cons rfl (fun K hK => ?_) ?_
                · have HC := Lib.hid (H4.out _ hs)
                  go_simp
                  go_wp2_with ((go_at_call 9; (with_reducible refine HC.out.mono ?_); rintro e wn ⟨rfl, hbn⟩))
                  refine hK.out _ _ (hfl.up hbn).s (fun _ => IH _ _ _ ?_)
                  exact ⟨4, false, false, false, false, g1, g2, g3, g4, by omega, by simp [nB], by kernel_rfl, by kernel_rfl, hfl.up hbn⟩
                refine AllReadyH.cons rfl (fun K hK => ?_) ?_
                · go_simp
                  refine hK.out _ _ hfl.new1.s (fun _ => IH _ _ _ ?_)
                  exact ⟨3, true, false, false, false, W.heap.size, g2, g3, g4, by omega, by simp [nB], by kernel_rfl, by kernel_rfl, hfl.new1⟩
                refine AllReadyH.cons rfl (fun K hK => ?_) ?_
                · go_simp
                  refine hK.out _ _ hfl.new2.s (fun _ => IH _ _ _ ?_)
                  exact ⟨3, false, true, false, false, g1, W.heap.size, g3, g4, by omega, by simp [nB], by kernel_rfl, by kernel_rfl, hfl.new2⟩
                refine AllReadyH.cons rfl (fun K hK => ?_) ?_
                · go_simp
                  refine hK.out _ _ hfl.new3.s (fun _ => IH _ _ _ ?_)
                  exact ⟨3, false, false, true, false, g1, g2, W.heap.size, g4, by omega, by simp [nB], by kernel_rfl, by kernel_rfl, hfl.new3⟩
                refine AllReadyH.cons rfl (fun K hK => ?_) ?_
                · go_simp
                  refine hK.out _ _ hfl.new4.s (fun _ => IH _ _ _ ?_)
                  exact ⟨3, false, false, false, true, g1, g2, g3, W.heap.size, by omega, by simp [nB], by kernel_rfl, by kernel_rfl, hfl.new4⟩
                exact AllReadyH.nil
              | true =>
                obtain rfl : k = 3 := by simp [nB] at hk; omega
                subst hL; subst ha
                simp only [setB, pU, decide_eq_true_eq, Nat.reduceLeDiff, Nat.le_refl, Bool.false_eq_true, if_true, if_false, List.setIfInBounds_toArray, List.set_cons_zero, List.set_cons_succ]
                have hs := hfl.s
                refine wpAnyH_ready (rs := [20, 21, 22, 23]) (by kernel_rfl) (by simp) ?_
                refine AllReadyH.cons rfl (fun K hK => ?_) ?_
                · have HC := Lib.hid (H4.out _ hs)
                  go_simp
                  go_wp2_with ((go_at_call 9; (with_reducible refine HC.out.mono ?_); rintro e wn ⟨rfl, hbn⟩))
                  refine hK.out _ _ (hfl.up hbn).s (fun _ => IH _ _ _ ?_)
                  exact ⟨4, false, false, false, true, g1, g2, g3, g4, by omega, by simp [nB], by kernel_rfl, by kernel_rfl, hfl.up hbn⟩
                refine AllReadyH.cons rfl (fun K hK => ?_) ?_
                · go_simp
                  refine hK.out _ _ hfl.new1.s (fun _ => IH _ _ _ ?_)
                  exact ⟨3, true, false, false, true, W.heap.size, g2, g3, g4, by omega, by simp [nB], by kernel_rfl, by kernel_rfl, hfl.new1⟩
                refine AllReadyH.cons rfl (fun K hK => ?_) ?_
                · go_simp
                  refine hK.out _ _ hfl.new2.s (fun _ => IH _ _ _ ?_)
                  exact ⟨3, false, true, false, true, g1, W.heap.size, g3, g4, by omega, by simp [nB], by kernel_rfl, by kernel_rfl, hfl.new2⟩
                refine AllReadyH.cons rfl (fun K hK => ?_) ?_
                · go_simp
                  refine hK.out _ _ hfl.new3.s (fun _ => IH _ _ _ ?_)
                  exact ⟨3, false, false, true, true, g1, g2, W.heap.size, g4, by omega, by simp [nB], by kernel_rfl, by kernel_rfl, hfl.new3⟩
                exact AllReadyH.nil
            | true =>
              cases b4 with
              | false =>
                obtain rfl : k = 3 := by simp [nB] at hk; omega
                subst hL; subst ha
                simp only [setB, pU, decide_eq_true_eq, Nat.reduceLeDiff, Nat.le_refl, Bool.false_eq_true, if_true, if_false, List.setIfInBounds_toArray, List.set_cons_zero, List.set_cons_succ]
                have hs := hfl.s
                refine wpAnyH_ready (rs := [20, 21, 22, 24]) (by kernel_rfl) (by simp) ?_
                refine AllReadyH.cons rfl (fun K hK => ?_) ?_
                · have HC := Lib.hid (H4.out _ hs)
                  go_simp
                  go_wp2_with ((go_at_call 9; (with_reducible refine HC.out.mono ?_); rintro e wn ⟨rfl, hbn⟩))
                  refine hK.out _ _ (hfl.up hbn).s (fun _ => IH _ _ _ ?_)
                  exact ⟨4, false, false, true, false, g1, g2, g3, g4, by omega, by simp [nB], by kernel_rfl, by kernel_rfl, hfl.up hbn⟩
                refine AllReadyH.cons rfl (fun K hK => ?_) ?_
                · go_simp
                  refine hK.out _ _ hfl.new1.s (fun _ => IH _ _ _ ?_)
                  exact ⟨3, true, false, true, false, W.heap.size, g2, g3, g4, by omega, by simp [nB], by kernel_rfl, by kernel_rfl, hfl.new1⟩
                refine AllReadyH.cons rfl (fun K hK => ?_) ?_
                · go_simp
                  refine hK.out _ _ hfl.new2.s (fun _ => IH _ _ _ ?_)
                  exact ⟨3, false, true, true, false, g1, W.heap.size, g3, g4, by omega, by simp [nB], by kernel_rfl, by kernel_rfl, hfl.new2⟩
                refine AllReadyH.cons rfl (fun K hK => ?_) ?_
                · go_simp
                  refine hK.out _ _ hfl.new4.s (fun _ => IH _ _ _ ?_)
                  exact ⟨3, false, false, true, true, g1, g2, g3, W.heap.size, by omega, by simp [nB], by kernel_rfl, by kernel_rfl, hfl.new4⟩
                exact AllReadyH.nil
              | true =>
                obtain rfl : k = 2 := by simp [nB] at hk; omega
                subst hL; subst ha
                simp only [setB, pU, decide_eq_true_eq, Nat.reduceLeDiff, Nat.le_refl, Bool.false_eq_true, if_true, if_false, List.setIfInBounds_toArray, List.set_cons_zero, List.set_cons_succ]
                have hs := hfl.s
                refine wpAnyH_ready (rs := [20, 21, 22]) (by kernel_rfl) (by simp) ?_
                refine AllReadyH.cons rfl (fun K hK => ?_) ?_
                · have HC := Lib.hid (H4.out _ hs)
                  go_simp
                  go_wp2_with ((go_at_call 9; (with_reducible refine HC.out.mono ?_); rintro e wn ⟨rfl, hbn⟩))
                  refine hK.out _ _ (hfl.up hbn).s (fun _ => IH _ _ _ ?_)
                  exact ⟨4, false, false, true, true, g1, g2, g3, g4, by omega, by simp [nB], by kernel_rfl, by kernel_rfl, hfl.up hbn⟩
                refine AllReadyH.cons rfl (fun K hK => ?_) ?_
                · go_simp
                  refine hK.out _ _ hfl.new1.s (fun _ => IH _ _ _ ?_)
                  exact ⟨3, true, false, true, true, W.heap.size, g2, g3, g4, by omega, by simp [nB], by kernel_rfl, by kernel_rfl, hfl.new1⟩
                refine AllReadyH.cons rfl (fun K hK => ?_) ?_
                · go_simp
                  refine hK.out _ _ hfl.new2.s (fun _ => IH _ _ _ ?_)
                  exact ⟨3, false, true, true, true, g1, W.heap.size, g3, g4, by omega, by simp [nB], by kernel_rfl, by kernel_rfl, hfl.new2⟩
                exact AllReadyH.nil
          | true =>
            cases b3 with
            | false =>
              cases b4 with
              | false =>
                obtain rfl : k = 3 := by simp [nB] at hk; omega
                subst hL; subst ha
                simp only [setB, pU, decide_eq_true_eq, Nat.reduceLeDiff, Nat.le_refl, Bool.false_eq_true, if_true, if_false, List.setIfInBounds_toArray, List.set_cons_zero, List.set_cons_succ]
                have hs := hfl.s
                refine wpAnyH_ready (rs := [20, 21, 23, 24]) (by kernel_rfl) (by simp) ?_
                refine AllReadyH.cons rfl (fun K hK => ?_) ?_
                · have HC := Lib.hid (H4.out _ hs)
                  go_simp
                  go_wp2_with ((go_at_call 9; (with_reducible refine HC.out.mono ?_); rintro e wn ⟨rfl, hbn⟩))
                  refine hK.out _ _ (hfl.up hbn).s (fun _ => IH _ _ _ ?_)
                  exact ⟨4, false, true, false, false, g1, g2, g3, g4, by omega, by simp [nB], by kernel_rfl, by kernel_rfl, hfl.up hbn⟩
                refine AllReadyH.cons rfl (fun K hK => ?_) ?_
                · go_simp
                  refine hK.out _ _ hfl.new1.s (fun _ => IH _ _ _ ?_)
                  exact ⟨3, true, true, false, false, W.heap.size, g2, g3, g4, by omega, by simp [nB], by kernel_rfl, by kernel_rfl, hfl.new1⟩
                refine AllReadyH.cons rfl (fun K hK => ?_) ?_
                · go_simp
                  refine hK.out _ _ hfl.new3.s (fun _ => IH _ _ _ ?_)
                  exact ⟨3, false, true, true, false, g1, g2, W.heap.size, g4, by omega, by simp [nB], by kernel_rfl, by kernel_rfl, hfl.new3⟩
                refine AllReadyH.cons rfl (fun K hK => ?_) ?_
                · go_simp
                  refine hK.out _ _ hfl.new4.s (fun _ => IH _ _ _ ?_)
                  exact ⟨3, false, true, false, true, g1, g2, g3, W.heap.size, by omega, by simp [nB], by kernel_rfl, by kernel_rfl, hfl.new4⟩
                exact AllReadyH.nil
              | true =>
                obtain rfl : k = 2 := by simp [nB] at hk; omega
                subst hL; subst ha
                simp only [setB, pU, decide_eq_true_eq, Nat.reduceLeDiff, Nat.le_refl, Bool.false_eq_true, if_true, if_false, List.setIfInBounds_toArray, List.set_cons_zero, List.set_cons_succ]
                have hs := hfl.s
                refine wpAnyH_ready (rs := [20, 21, 23]) (by kernel_rfl) (by simp) ?_
                refine AllReadyH.cons rfl (fun K hK => ?_) ?_
                · have HC := Lib.hid (H4.out _ hs)
                  go_simp
                  go_wp2_with ((go_at_call 9; (with_reducible refine HC.out.mono ?_); rintro e wn ⟨rfl, hbn⟩))
                  refine hK.out _ _ (hfl.up hbn).s (fun _ => IH _ _ _ ?_)
                  exact ⟨4, false, true, false, true, g1, g2, g3, g4, by omega, by simp [nB], by kernel_rfl, by kernel_rfl, hfl.up hbn⟩
                refine AllReadyH.cons rfl (fun K hK => ?_) ?_
                · go_simp
                  refine hK.out _ _ hfl.new1.s (fun _ => IH _ _ _ ?_)
                  exact ⟨3, true, true, false, true, W.heap.size, g2, g3, g4, by omega, by simp [nB], by kernel_rfl, by kernel_rfl, hfl.new1⟩
                refine AllReadyH.cons rfl (fun K hK => ?_) ?_
                · go_simp
                  refine hK.out _ _ hfl.new3.s (fun _ => IH _ _ _ ?_)
                  exact ⟨3, false, true, true, true, g1, g2, W.heap.size, g4, by omega, by simp [nB], by kernel_rfl, by kernel_rfl, hfl.new3⟩
                exact AllReadyH.nil
            | true =>
              cases b4 with
              | false =>
                obtain rfl : k = 2 := by simp [nB] at hk; omega
                subst hL; subst ha
                simp only [setB, pU, decide_eq_true_eq, Nat.reduceLeDiff, Nat.le_refl, Bool.false_eq_true, if_true, if_false, List.setIfInBounds_toArray, List.set_cons_zero, List.set_cons_succ]
                have hs := hfl.s
                refine wpAnyH_ready (rs := [20, 21, 24]) (by kernel_rfl) (by simp) ?_
                refine AllReadyH.cons rfl (fun K hK => ?_) ?_
                · have HC := Lib.hid (H4.out _ hs)
                  go_simp
                  go_wp2_with ((go_at_call 9; (with_reducible refine HC.out.mono ?_); rintro e wn ⟨rfl, hbn⟩))
                  refine hK.out _ _ (hfl.up hbn).s (fun _ => IH _ _ _ ?_)
                  exact ⟨4, false, true, true, false, g1, g2, g3, g4, by omega, by simp [nB], by kernel_rfl, by kernel_rfl, hfl.up hbn⟩
                refine AllReadyH.cons rfl (fun K hK => ?_) ?_
                · go_simp
                  refine hK.out _ _ hfl.new1.s (fun _ => IH _ _ _ ?_)
                  exact ⟨3, true, true, true, false, W.heap.size, g2, g3, g4, by omega, by simp [nB], by kernel_rfl, by kernel_rfl, hfl.new1⟩
                refine AllReadyH.cons rfl (fun K hK => ?_) ?_
                · go_simp
                  refine hK.out _ _ hfl.new4.s (fun _ => IH _ _ _ ?_)
                  exact ⟨3, false, true, true, true, g1, g2, g3, W.heap.size, by omega, by simp [nB], by kernel_rfl, by kernel_rfl, hfl.new4⟩
                exact AllReadyH.nil
              | true =>
                obtain rfl : k = 1 := by simp [nB] at hk; omega
                subst hL; subst ha
                simp only [setB, pU, decide_eq_true_eq, Nat.reduceLeDiff, Nat.le_refl, Bool.false_eq_true, if_true, if_false, List.setIfInBounds_toArray, List.set_cons_zero, List.set_cons_succ]
                have hs := hfl.s
                refine wpAnyH_ready (rs := [20, 21]) (by kernel_rfl) (by simp) ?_
                refine AllReadyH.cons rfl (fun K hK => ?_) ?_
                · have HC := Lib.hid (H4.out _ hs)
                  go_simp
                  go_wp2_with ((go_at_call 9; (with_reducible refine HC.out.mono ?_); rintro e wn ⟨rfl, hbn⟩))
                  refine hK.out _ _ (hfl.up hbn).s (fun _ => IH _ _ _ ?_)
                  exact ⟨4, false, true, true, true, g1, g2, g3, g4, by omega, by simp [nB], by kernel_rfl, by kernel_rfl, hfl.up hbn⟩
                refine AllReadyH.cons rfl (fun K hK => ?_) ?_
                · go_simp
                  refine hK.out _ _ hfl.new1.s (fun _ => IH _ _ _ ?_)
                  exact ⟨3, true, true, true, true, W.heap.size, g2, g3, g4, by omega, by simp [nB], by kernel_rfl, by kernel_rfl, hfl.new1⟩
                exact AllReadyH.nil
        | true =>
          cases b2 with
          | false =>
            cases b3 with
            | false =>
              cases b4 with
              | false =>
                obtain rfl : k = 3 := by simp [nB] at hk; omega
                subst hL; subst ha
                simp only [setB, pU, decide_eq_true_eq, Nat.reduceLeDiff, Nat.le_refl, Bool.false_eq_true, if_true, if_false, List.setIfInBounds_toArray, List.set_cons_zero, List.set_cons_succ]
                have hs := hfl.s
                refine wpAnyH_ready (rs := [20, 22, 23, 24]) (by kernel_rfl) (by simp) ?_
                refine AllReadyH.cons rfl (fun K hK => ?_) ?_
                · have HC := Lib.hid (H4.out _ hs)
                  go_simp
                  go_wp2_with ((go_at_call 9; (with_reducible refine HC.out.mono ?_); rintro e wn ⟨rfl, hbn⟩))
                  refine hK.out _ _ (hfl.up hbn).s (fun _ => IH _ _ _ ?_)
                  exact ⟨4, true, false, false, false, g1, g2, g3, g4, by omega, by simp [nB], by kernel_rfl, by kernel_rfl, hfl.up hbn⟩
                refine AllReadyH.cons rfl (fun K hK => ?_) ?_
                · go_simp
                  refine hK.out _ _ hfl.new2.s (fun _ => IH _ _ _ ?_)
                  exact ⟨3, true, true, false, false, g1, W.heap.size, g3, g4, by omega, by simp [nB], by kernel_rfl, by kernel_rfl, hfl.new2⟩
                refine AllReadyH.cons rfl (fun K hK => ?_) ?_
                · go_simp
                  refine hK.out _ _ hfl.new3.s (fun _ => IH _ _ _ ?_)
                  exact ⟨3, true, false, true, false, g1, g2, W.heap.size, g4, by omega, by simp [nB], by kernel_rfl, by kernel_rfl, hfl.new3⟩
                refine AllReadyH.cons rfl (fun K hK => ?_) ?_
                · go_simp
                  refine hK.out _ _ hfl.new4.s (fun _ => IH _ _ _ ?_)
                  exact ⟨3, true, false, false, true, g1, g2, g3, W.heap.size, by omega, by simp [nB], by kernel_rfl, by kernel_rfl, hfl.new4⟩
                exact AllReadyH.nil
              | true =>
                obtain rfl : k = 2 := by simp [nB] at hk; omega
                subst hL; subst ha
                simp only [setB, pU, decide_eq_true_eq, Nat.reduceLeDiff, Nat.le_refl, Bool.false_eq_true, if_true, if_false, List.setIfInBounds_toArray, List.set_cons_zero, List.set_cons_succ]
                have hs := hfl.s
                refine wpAnyH_ready (rs := [20, 22, 23]) (by kernel_rfl) (by simp) ?_
                refine AllReadyH.cons rfl (fun K hK => ?_) ?_
                · have HC := Lib.hid (H4.out _ hs)
                  go_simp
                  go_wp2_with ((go_at_call 9; (with_reducible refine HC.out.mono ?_); rintro e wn ⟨rfl, hbn⟩))
                  refine hK.out _ _ (hfl.up hbn).s (fun _ => IH _ _ _ ?_)
                  exact ⟨4, true, false, false, true, g1, g2, g3, g4, by omega, by simp [nB], by kernel_rfl, by kernel_rfl, hfl.up hbn⟩
                refine AllReadyH.cons rfl (fun K hK => ?_) ?_
                · go_simp
                  refine hK.out _ _ hfl.new2.s (fun _ => IH _ _ _ ?_)
                  exact ⟨3, true, true, false, true, g1, W.heap.size, g3, g4, by omega, by simp [nB], by kernel_rfl, by kernel_rfl, hfl.new2⟩
                refine AllReadyH.cons rfl (fun K hK => ?_) ?_
                · go_simp
                  refine hK.out _ _ hfl.new3.s (fun _ => IH _ _ _ ?_)
                  exact ⟨3, true, false, true, true, g1, g2, W.heap.size, g4, by omega, by simp [nB], by kernel_rfl, by kernel_rfl, hfl.new3⟩
                exact AllReadyH.nil
            | true =>
              cases b4 with
              | false =>
                obtain rfl : k = 2 := by simp [nB] at hk; omega
                subst hL; subst ha
                simp only [setB, pU, decide_eq_true_eq, Nat.reduceLeDiff, Nat.le_refl, Bool.false_eq_true, if_true, if_false, List.setIfInBounds_toArray, List.set_cons_zero, List.set_cons_succ]
                have hs := hfl.s
                refine wpAnyH_ready (rs := [20, 22, 24]) (by kernel_rfl) (by simp) ?_
                refine AllReadyH.cons rfl (fun K hK => ?_) ?_
                · have HC := Lib.hid (H4.out _ hs)
                  go_simp
                  go_wp2_with ((go_at_call 9; (with_reducible refine HC.out.mono ?_); rintro e wn ⟨rfl, hbn⟩))
                  refine hK.out _ _ (hfl.up hbn).s (fun _ => IH _ _ _ ?_)
                  exact ⟨4, true, false, true, false, g1, g2, g3, g4, by omega, by simp [nB], by kernel_rfl, by kernel_rfl, hfl.up hbn⟩
                refine AllReadyH.cons rfl (fun K hK => ?_) ?_
                · go_simp
                  refine hK.out _ _ hfl.new2.s (fun _ => IH _ _ _ ?_)
                  exact ⟨3, true, true, true, false, g1, W.heap.size, g3, g4, by omega, by simp [nB], by kernel_rfl, by kernel_rfl, hfl.new2⟩
                refine AllReadyH.cons rfl (fun K hK => ?_) ?_
                · go_simp
                  refine hK.out _ _ hfl.new4.s (fun _ => IH _ _ _ ?_)
                  exact ⟨3, true, false, true, true, g1, g2, g3, W.heap.size, by omega, by simp [nB], by kernel_rfl, by kernel_rfl, hfl.new4⟩
                exact AllReadyH.nil
              | true =>
                obtain rfl : k = 1 := by simp [nB] at hk; omega
                subst hL; subst ha
                simp only [setB, pU, decide_eq_true_eq, Nat.reduceLeDiff, Nat.le_refl, Bool.false_eq_true, if_true, if_false, List.setIfInBounds_toArray, List.set_cons_zero, List.set_cons_succ]
                have hs := hfl.s
                refine wpAnyH_ready (rs := [20, 22]) (by kernel_rfl) (by simp) ?_
                refine AllReadyH.cons rfl (fun K hK => ?_) ?_
                · have HC := Lib.hid (H4.out _ hs)
                  go_simp
                  go_wp2_with ((go_at_call 9; (with_reducible refine HC.out.mono ?_); rintro e wn ⟨rfl, hbn⟩))
                  refine hK.out _ _ (hfl.up hbn).s (fun _ => IH _ _ _ ?_)
                  exact ⟨4, true, false, true, true, g1, g2, g3, g4, by omega, by simp [nB], by kernel_rfl, by kernel_rfl, hfl.up hbn⟩
                refine AllReadyH.cons rfl (fun K hK => ?_) ?_
                · go_simp
                  refine hK.out _ _ hfl.new2.s (fun _ => IH _ _ _ ?_)
                  exact ⟨3, true, true, true, true, g1, W.heap.size, g3, g4, by omega, by simp [nB], by kernel_rfl, by kernel_rfl, hfl.new2⟩
                exact AllReadyH.nil
          | true =>
            cases b3 with
            | false =>
              cases b4 with
              | false =>
                obtain rfl : k = 2 := by simp [nB] at hk; omega
                subst hL; subst ha
                simp only [setB, pU, decide_eq_true_eq, Nat.reduceLeDiff, Nat.le_refl, Bool.false_eq_true, if_true, if_false, List.setIfInBounds_toArray, List.set_cons_zero, List.set_cons_succ]
                have hs := hfl.s
                refine wpAnyH_ready (rs := [20, 23, 24]) (by kernel_rfl) (by simp) ?_
                refine AllReadyH.cons rfl (fun K hK => ?_) ?_
                · have HC := Lib.hid (H4.out _ hs)
                  go_simp
                  go_wp2_with ((go_at_call 9; (with_reducible refine HC.out.mono ?_); rintro e wn ⟨rfl, hbn⟩))
                  refine hK.out _ _ (hfl.up hbn).s (fun _ => IH _ _ _ ?_)
                  exact ⟨4, true, true, false, false, g1, g2, g3, g4, by omega, by simp [nB], by kernel_rfl, by kernel_rfl, hfl.up hbn⟩
                refine AllReadyH.cons rfl (fun K hK => ?_) ?_
                · go_simp
                  refine hK.out _ _ hfl.new3.s (fun _ => IH _ _ _ ?_)
                  exact ⟨3, true, true, true, false, g1, g2, W.heap.size, g4, by omega, by simp [nB], by kernel_rfl, by kernel_rfl, hfl.new3⟩
                refine AllReadyH.cons rfl (fun K hK => ?_) ?_
                · go_simp
                  refine hK.out _ _ hfl.new4.s (fun _ => IH _ _ _ ?_)
                  exact ⟨3, true, true, false, true, g1, g2, g3, W.heap.size, by omega, by simp [nB], by kernel_rfl, by kernel_rfl, hfl.new4⟩
                exact AllReadyH.nil
              | true =>
                obtain rfl : k = 1 := by simp [nB] at hk; omega
                subst hL; subst ha
                simp only [setB, pU, decide_eq_true_eq, Nat.reduceLeDiff, Nat.le_refl, Bool.false_eq_true, if_true, if_false, List.setIfInBounds_toArray, List.set_cons_zero, List.set_cons_succ]
                have hs := hfl.s
                refine wpAnyH_ready (rs := [20, 23]) (by kernel_rfl) (by simp) ?_
                refine AllReadyH.cons rfl (fun K hK => ?_) ?_
                · have HC := Lib.hid (H4.out _ hs)
                  go_simp
                  go_wp2_with ((go_at_call 9; (with_reducible refine HC.out.mono ?_); rintro e wn ⟨rfl, hbn⟩))
                  refine hK.out _ _ (hfl.up hbn).s (fun _ => IH _ _ _ ?_)
                  exact ⟨4, true, true, false, true, g1, g2, g3, g4, by omega, by simp [nB], by kernel_rfl, by kernel_rfl, hfl.up hbn⟩
                refine AllReadyH.cons rfl (fun K hK => ?_) ?_
                · go_simp
                  refine hK.out _ _ hfl.new3.s (fun _ => IH _ _ _ ?_)
                  exact ⟨3, true, true, true, true, g1, g2, W.heap.size, g4, by omega, by simp [nB], by kernel_rfl, by kernel_rfl, hfl.new3⟩
                exact AllReadyH.nil
            | true =>
              cases b4 with
              | false =>
                obtain rfl : k = 1 := by simp [nB] at hk; omega
                subst hL; subst ha
                simp only [setB, pU, decide_eq_true_eq, Nat.reduceLeDiff, Nat.le_refl, Bool.false_eq_true, if_true, if_false, List.setIfInBounds_toArray, List.set_cons_zero, List.set_cons_succ]
                have hs := hfl.s
                refine wpAnyH_ready (rs := [20, 24]) (by kernel_rfl) (by simp) ?_
                refine AllReadyH.cons rfl (fun K hK => ?_) ?_
                · have HC := Lib.hid (H4.out _ hs)
                  go_simp
                  go_wp2_with ((go_at_call 9; (with_reducible refine HC.out.mono ?_); rintro e wn ⟨rfl, hbn⟩))
                  refine hK.out _ _ (hfl.up hbn).s (fun _ => IH _ _ _ ?_)
                  exact ⟨4, true, true, true, false, g1, g2, g3, g4, by omega, by simp [nB], by kernel_rfl, by kernel_rfl, hfl.up hbn⟩
                refine AllReadyH.cons rfl (fun K hK => ?_) ?_
                · go_simp
                  refine hK.out _ _ hfl.new4.s (fun _ => IH _ _ _ ?_)
                  exact ⟨3, true, true, true, true, g1, g2, g3, W.heap.size, by omega, by simp [nB], by kernel_rfl, by kernel_rfl, hfl.new4⟩
                exact AllReadyH.nil
              | true =>
                obtain rfl : k = 0 := by simp [nB] at hk; omega
                subst hL; subst ha
                simp only [setB, pU, decide_eq_true_eq, Nat.reduceLeDiff, Nat.le_refl, Bool.false_eq_true, if_true, if_false, List.setIfInBounds_toArray, List.set_cons_zero, List.set_cons_succ]
                have hs := hfl.s
                refine wpAnyH_ready (rs := [20]) (by kernel_rfl) (by simp) ?_
                refine AllReadyH.cons rfl (fun K hK => ?_) ?_
                · have HC := Lib.hid (H4.out _ hs)
                  go_simp
                  go_wp2_with ((go_at_call 9; (with_reducible refine HC.out.mono ?_); rintro e wn ⟨rfl, hbn⟩))
                  refine hK.out _ _ (hfl.up hbn).s (fun _ => IH _ _ _ ?_)
                  exact ⟨4, true, true, true, true, g1, g2, g3, g4, by omega, by simp [nB], by kernel_rfl, by kernel_rfl, hfl.up hbn⟩
                exact AllReadyH.nil
      · cases b1 with
        | false =>
          cases b2 with
          | false =>
            cases b3 with
            | false =>
              cases b4 with
              | false =>
                obtain rfl : k = 3 := by simp [nB] at hk; omega
                subst hL; subst ha
                simp only [setB, pU, decide_eq_true_eq, Nat.reduceLeDiff, Nat.le_refl, Bool.false_eq_true, if_true, if_false, List.setIfInBounds_toArray, List.set_cons_zero, List.set_cons_succ]
                have hs := hfl.s
                refine wpAnyH_ready (rs := [21, 22, 23, 24]) (by kernel_rfl) (by simp) ?_
                refine AllReadyH.cons rfl (fun K hK => ?_) ?_
                · go_simp
                  refine hK.out _ _ hfl.new1.s (fun _ => IH _ _ _ ?_)
                  exact ⟨4, true, false, false, false, W.heap.size, g2, g3, g4, by omega, by simp [nB], by kernel_rfl, by kernel_rfl, hfl.new1⟩
                refine AllReadyH.cons rfl (fun K hK => ?_) ?_
                · go_simp
                  refine hK.out _ _ hfl.new2.s (fun _ => IH _ _ _ ?_)
                  exact ⟨4, false, true, false, false, g1, W.heap.size, g3, g4, by omega, by simp [nB], by kernel_rfl, by kernel_rfl, hfl.new2⟩
                refine AllReadyH.cons rfl (fun K hK => ?_) ?_
                · go_simp
                  refine hK.out _ _ hfl.new3.s (fun _ => IH _ _ _ ?_)
                  exact ⟨4, false, false, true, false, g1, g2, W.heap.size, g4, by omega, by simp [nB], by kernel_rfl, by kernel_rfl, hfl.new3⟩
                refine AllReadyH.cons rfl (fun K hK => ?_) ?_
                · go_simp
                  refine hK.out _ _ hfl.new4.s (fun _ => IH _ _ _ ?_)
                  exact ⟨4, false, false, false, true, g1, g2, g3, W.heap.size, by omega, by simp [nB], by kernel_rfl, by kernel_rfl, hfl.new4⟩
                exact AllReadyH.nil
              | true =>
                obtain rfl : k = 2 := by simp [nB] at hk; omega
                subst hL; subst ha
                simp only [setB, pU, decide_eq_true_eq, Nat.reduceLeDiff, Nat.le_refl, Bool.false_eq_true, if_true, if_false, List.setIfInBounds_toArray, List.set_cons_zero, List.set_cons_succ]
                have hs := hfl.s
                refine wpAnyH_ready (rs := [21, 22, 23]) (by kernel_rfl) (by simp) ?_
                refine AllReadyH.cons rfl (fun K hK => ?_) ?_
                · go_simp
                  refine hK.out _ _ hfl.new1.s (fun _ => IH _ _ _ ?_)
                  exact ⟨4, true, false, false, true, W.heap.size, g2, g3, g4, by omega, by simp [nB], by kernel_rfl, by kernel_rfl, hfl.new1⟩
                refine AllReadyH.cons rfl (fun K hK => ?_) ?_
                · go_simp
                  refine hK.out _ _ hfl.new2.s (fun _ => IH _ _ _ ?_)
                  exact ⟨4, false, true, false, true, g1, W.heap.size, g3, g4, by omega, by simp [nB], by kernel_rfl, by kernel_rfl, hfl.new2⟩
                refine AllReadyH.cons rfl (fun K hK => ?_) ?_
                · go_simp
                  refine hK.out _ _ hfl.new3.s (fun _ => IH _ _ _ ?_)
                  exact ⟨4, false, false, true, true, g1, g2, W.heap.size, g4, by omega, by simp [nB], by kernel_rfl, by kernel_rfl, hfl.new3⟩
                exact AllReadyH.nil
            | true =>
              cases b4 with
              | false =>
                obtain rfl : k = 2 := by simp [nB] at hk; omega
                subst hL; subst ha
                simp only [setB, pU, decide_eq_true_eq, Nat.reduceLeDiff, Nat.le_refl, Bool.false_eq_true, if_true, if_false, List.setIfInBounds_toArray, List.set_cons_zero, List.set_cons_succ]
                have hs := hfl.s
                refine wpAnyH_ready (rs := [21, 22, 24]) (by kernel_rfl) (by simp) ?_
                refine AllReadyH.cons rfl (fun K hK => ?_) ?_
                · go_simp
                  refine hK.out _ _ hfl.new1.s (fun _ => IH _ _ _ ?_)
                  exact ⟨4, true, false, true, false, W.heap.size, g2, g3, g4, by omega, by simp [nB], by kernel_rfl, by kernel_rfl, hfl.new1⟩
                refine AllReadyH.cons rfl (fun K hK => ?_) ?_
                · go_simp
                  refine hK.out _ _ hfl.new2.s (fun _ => IH _ _ _ ?_)
                  exact ⟨4, false, true, true, false, g1, W.heap.size, g3, g4, by omega, by simp [nB], by kernel_rfl, by kernel_rfl, hfl.new2⟩
                refine AllReadyH.cons rfl (fun K hK => ?_) ?_
                · go_simp
                  refine hK.out _ _ hfl.new4.s (fun _ => IH _ _ _ ?_)
                  exact ⟨4, false, false, true, true, g1, g2, g3, W.heap.size, by omega, by simp [nB], by kernel_rfl, by kernel_rfl, hfl.new4⟩
                exact AllReadyH.nil
              | true =>
                obtain rfl : k = 1 := by simp [nB] at hk; omega
                subst hL; subst ha
                simp only [setB, pU, decide_eq_true_eq, Nat.reduceLeDiff, Nat.le_refl, Bool.false_eq_true, if_true, if_false, List.setIfInBounds_toArray, List.set_cons_zero, List.set_cons_succ]
                have hs := hfl.s
                refine wpAnyH_ready (rs := [21, 22]) (by kernel_rfl) (by simp) ?_
                refine AllReadyH.cons rfl (fun K hK => ?_) ?_
                · go_simp
                  refine hK.out _ _ hfl.new1.s (fun _ => IH _ _ _ ?_)
                  exact ⟨4, true, false, true, true, W.heap.size, g2, g3, g4, by omega, by simp [nB], by kernel_rfl, by kernel_rfl, hfl.new1⟩
                refine AllReadyH.cons rfl (fun K hK => ?_) ?_
                · go_simp
                  refine hK.out _ _ hfl.new2.s (fun _ => IH _ _ _ ?_)
                  exact ⟨4, false, true, true, true, g1, W.heap.size, g3, g4, by omega, by simp [nB], by kernel_rfl, by kernel_rfl, hfl.new2⟩
                exact AllReadyH.nil
          | true =>
            cases b3 with
            | false =>
              cases b4 with
              | false =>
                obtain rfl : k = 2 := by simp [nB] at hk; omega
                subst hL; subst ha
                simp only [setB, pU, decide_eq_true_eq, Nat.reduceLeDiff, Nat.le_refl, Bool.false_eq_true, if_true, if_false, List.setIfInBounds_toArray, List.set_cons_zero, List.set_cons_succ]
                have hs := hfl.s
                refine wpAnyH_ready (rs := [21, 23, 24]) (by kernel_rfl) (by simp) ?_
                refine AllReadyH.cons rfl (fun K hK => ?_) ?_
                · go_simp
                  refine hK.out _ _ hfl.new1.s (fun _ => IH _ _ _ ?_)
                  exact ⟨4, true, true, false, false, W.heap.size, g2, g3, g4, by omega, by simp [nB], by kernel_rfl, by kernel_rfl, hfl.new1⟩
                refine AllReadyH.cons rfl (fun K hK => ?_) ?_
                · go_simp
                  refine hK.out _ _ hfl.new3.s (fun _ => IH _ _ _ ?_)
                  exact ⟨4, false, true, true, false, g1, g2, W.heap.size, g4, by omega, by simp [nB], by kernel_rfl, by kernel_rfl, hfl.new3⟩
                refine AllReadyH.cons rfl (fun K hK => ?_) ?_
                · go_simp
                  refine hK.out _ _ hfl.new4.s (fun _ => IH _ _ _ ?_)
                  exact ⟨4, false, true, false, true, g1, g2, g3, W.heap.size, by omega, by simp [nB], by kernel_rfl, by kernel_rfl, hfl.new4⟩
                exact AllReadyH.nil
              | true =>
                obtain rfl : k = 1 := by simp [nB] at hk; omega
                subst hL; subst ha
                simp only [setB, pU, decide_eq_true_eq, Nat.reduceLeDiff, Nat.le_refl, Bool.false_eq_true, if_true, if_false, List.setIfInBounds_toArray, List.set_cons_zero, List.set_cons_succ]
                have hs := hfl.s
                refine wpAnyH_ready (rs := [21, 23]) (by kernel_rfl) (by simp) ?_
                refine AllReadyH.cons rfl (fun K hK => ?_) ?_
                · go_simp
                  refine hK.out _ _ hfl.new1.s (fun _ => IH _ _ _ ?_)
                  exact ⟨4, true, true, false, true, W.heap.size, g2, g3, g4, by omega, by simp [nB], by kernel_rfl, by kernel_rfl, hfl.new1⟩
                refine AllReadyH.cons rfl (fun K hK => ?_) ?_
                · go_simp
                  refine hK.out _ _ hfl.new3.s (fun _ => IH _ _ _ ?_)
                  exact ⟨4, false, true, true, true, g1, g2, W.heap.size, g4, by omega, by simp [nB], by kernel_rfl, by kernel_rfl, hfl.new3⟩
                exact AllReadyH.nil
            | true =>
              cases b4 with
              | false =>
                obtain rfl : k = 1 := by simp [nB] at hk; omega
                subst hL; subst ha
                simp only [setB, pU, decide_eq_true_eq, Nat.reduceLeDiff, Nat.le_refl, Bool.false_eq_true, if_true, if_false, List.setIfInBounds_toArray, List.set_cons_zero, List.set_cons_succ]
                have hs := hfl.s
                refine wpAnyH_ready (rs := [21, 24]) (by kernel_rfl) (by simp) ?_
                refine AllReadyH.cons rfl (fun K hK => ?_) ?_
                · go_simp
                  refine hK.out _ _ hfl.new1.s (fun _ => IH _ _ _ ?_)
                  exact ⟨4, true, true, true, false, W.heap.size, g2, g3, g4, by omega, by simp [nB], by kernel_rfl, by kernel_rfl, hfl.new1⟩
                refine AllReadyH.cons rfl (fun K hK => ?_) ?_
                · go_simp
                  refine hK.out _ _ hfl.new4.s (fun _ => IH _ _ _ ?_)
                  exact ⟨4, false, true, true, true, g1, g2, g3, W.heap.size, by omega, by simp [nB], by kernel_rfl, by kernel_rfl, hfl.new4⟩
                exact AllReadyH.nil
              | true =>
                obtain rfl : k = 0 := by simp [nB] at hk; omega
                subst hL; subst ha
                simp only [setB, pU, decide_eq_true_eq, Nat.reduceLeDiff, Nat.le_refl, Bool.false_eq_true, if_true, if_false, List.setIfInBounds_toArray, List.set_cons_zero, List.set_cons_succ]
                have hs := hfl.s
                refine wpAnyH_ready (rs := [21]) (by kernel_rfl) (by simp) ?_
                refine AllReadyH.cons rfl (fun K hK => ?_) ?_
                · go_simp
                  refine hK.out _ _ hfl.new1.s (fun _ => IH _ _ _ ?_)
                  exact ⟨4, true, true, true, true, W.heap.size, g2, g3, g4, by omega, by simp [nB], by kernel_rfl, by kernel_rfl, hfl.new1⟩
                exact AllReadyH.nil
        | true =>
          cases b2 with
          | false =>
            cases b3 with
            | false =>
              cases b4 with
              | false =>
                obtain rfl : k = 2 := by simp [nB] at hk; omega
                subst hL; subst ha
                simp only [setB, pU, decide_eq_true_eq, Nat.reduceLeDiff, Nat.le_refl, Bool.false_eq_true, if_true, if_false, List.setIfInBounds_toArray, List.set_cons_zero, List.set_cons_succ]
                have hs := hfl.s
                refine wpAnyH_ready (rs := [22, 23, 24]) (by kernel_rfl) (by simp) ?_
                refine AllReadyH.cons rfl (fun K hK => ?_) ?_
                · go_simp
                  refine hK.out _ _ hfl.new2.s (fun _ => IH _ _ _ ?_)
                  exact ⟨4, true, true, false, false, g1, W.heap.size, g3, g4, by omega, by simp [nB], by kernel_rfl, by kernel_rfl, hfl.new2⟩
                refine AllReadyH.cons rfl (fun K hK => ?_) ?_
                · go_simp
                  refine hK.out _ _ hfl.new3.s (fun _ => IH _ _ _ ?_)
                  exact ⟨4, true, false, true, false, g1, g2, W.heap.size, g4, by omega, by simp [nB], by kernel_rfl, by kernel_rfl, hfl.new3⟩
                refine AllReadyH.cons rfl (fun K hK => ?_) ?_
                · go_simp
                  refine hK.out _ _ hfl.new4.s (fun _ => IH _ _ _ ?_)
                  exact ⟨4, true, false, false, true, g1, g2, g3, W.heap.size, by omega, by simp [nB], by kernel_rfl, by kernel_rfl, hfl.new4⟩
                exact AllReadyH.nil
              | true =>
                obtain rfl : k = 1 := by simp [nB] at hk; omega
                subst hL; subst ha
                simp only [setB, pU, decide_eq_true_eq, Nat.reduceLeDiff, Nat.le_refl, Bool.false_eq_true, if_true, if_false, List.setIfInBounds_toArray, List.set_cons_zero, List.set_cons_succ]
                have hs := hfl.s
                refine wpAnyH_ready (rs := [22, 23]) (by kernel_rfl) (by simp) ?_
                refine AllReadyH.cons rfl (fun K hK => ?_) ?_
                · go_simp
                  refine hK.out _ _ hfl.new2.s (fun _ => IH _ _ _ ?_)
                  exact ⟨4, true, true, false, true, g1, W.heap.size, g3, g4, by omega, by simp [nB], by kernel_rfl, by kernel_rfl, hfl.new2⟩
                refine AllReadyH.cons rfl (fun K hK => ?_) ?_
                · go_simp
                  refine hK.out _ _ hfl.new3.s (fun _ => IH _ _ _ ?_)
                  exact ⟨4, true, false, true, true, g1, g2, W.heap.size, g4, by omega, by simp [nB], by kernel_rfl, by kernel_rfl, hfl.new3⟩
                exact AllReadyH.nil
            | true =>
              cases b4 with
              | false =>
                obtain rfl : k = 1 := by simp [nB] at hk; omega
                subst hL; subst ha
                simp only [setB, pU, decide_eq_true_eq, Nat.reduceLeDiff, Nat.le_refl, Bool.false_eq_true, if_true, if_false, List.setIfInBounds_toArray, List.set_cons_zero, List.set_cons_succ]
                have hs := hfl.s
                refine wpAnyH_ready (rs := [22, 24]) (by kernel_rfl) (by simp) ?_
                refine AllReadyH.cons rfl (fun K hK => ?_) ?_
                · go_simp
                  refine hK.out _ _ hfl.new2.s (fun _ => IH _ _ _ ?_)
                  exact ⟨4, true, true, true, false, g1, W.heap.size, g3, g4, by omega, by simp [nB], by kernel_rfl, by kernel_rfl, hfl.new2⟩
                refine AllReadyH.cons rfl (fun K hK => ?_) ?_
                · go_simp
                  refine hK.out _ _ hfl.new4.s (fun _ => IH _ _ _ ?_)
                  exact ⟨4, true, false, true, true, g1, g2, g3, W.heap.size, by omega, by simp [nB], by kernel_rfl, by kernel_rfl, hfl.new4⟩
                exact AllReadyH.nil
              | true =>
                obtain rfl : k = 0 := by simp [nB] at hk; omega
                subst hL; subst ha
                simp only [setB, pU, decide_eq_true_eq, Nat.reduceLeDiff, Nat.le_refl, Bool.false_eq_true, if_true, if_false, List.setIfInBounds_toArray, List.set_cons_zero, List.set_cons_succ]
                have hs := hfl.s
                refine wpAnyH_ready (rs := [22]) (by kernel_rfl) (by simp) ?_
                refine AllReadyH.cons rfl (fun K hK => ?_) ?_
                · go_simp
                  refine hK.out _ _ hfl.new2.s (fun _ => IH _ _ _ ?_)
                  exact ⟨4, true, true, true, true, g1, W.heap.size, g3, g4, by omega, by simp [nB], by kernel_rfl, by kernel_rfl, hfl.new2⟩
                exact AllReadyH.nil
          | true =>
            cases b3 with
            | false =>
              cases b4 with
              | false =>
                obtain rfl : k = 1 := by simp [nB] at hk; omega
                subst hL; subst ha
                simp only [setB, pU, decide_eq_true_eq, Nat.reduceLeDiff, Nat.le_refl, Bool.false_eq_true, if_true, if_false, List.setIfInBounds_toArray, List.set_cons_zero, List.set_cons_succ]
                have hs := hfl.s
                refine wpAnyH_ready (rs := [23, 24]) (by kernel_rfl) (by simp) ?_
                refine AllReadyH.cons rfl (fun K hK => ?_) ?_
                · go_simp
                  refine hK.out _ _ hfl.new3.s (fun _ => IH _ _ _ ?_)
                  exact ⟨4, true, true, true, false, g1, g2, W.heap.size, g4, by omega, by simp [nB], by kernel_rfl, by kernel_rfl, hfl.new3⟩
                refine AllReadyH.cons rfl (fun K hK => ?_) ?_
                · go_simp
                  refine hK.out _ _ hfl.new4.s (fun _ => IH _ _ _ ?_)
                  exact ⟨4, true, true, false, true, g1, g2, g3, W.heap.size, by omega, by simp [nB], by kernel_rfl, by kernel_rfl, hfl.new4⟩
                exact AllReadyH.nil
              | true =>
                obtain rfl : k = 0 := by simp [nB] at hk; omega
                subst hL; subst ha
                simp only [setB, pU, decide_eq_true_eq, Nat.reduceLeDiff, Nat.le_refl, Bool.false_eq_true, if_true, if_false, List.setIfInBounds_toArray, List.set_cons_zero, List.set_cons_succ]
                have hs := hfl.s
                refine wpAnyH_ready (rs := [23]) (by kernel_rfl) (by simp) ?_
                refine AllReadyH.cons rfl (fun K hK => ?_) ?_
                · go_simp
                  refine hK.out _ _ hfl.new3.s (fun _ => IH _ _ _ ?_)
                  exact ⟨4, true, true, true, true, g1, g2, W.heap.size, g4, by omega, by simp [nB], by kernel_rfl, by kernel_rfl, hfl.new3⟩
                exact AllReadyH.nil
            | true =>
              cases b4 with
              | false =>
                obtain rfl : k = 0 := by simp [nB] at hk; omega
                subst hL; subst ha
                simp only [setB, pU, decide_eq_true_eq, Nat.reduceLeDiff, Nat.le_refl, Bool.false_eq_true, if_true, if_false, List.setIfInBounds_toArray, List.set_cons_zero, List.set_cons_succ]
                have hs := hfl.s
                refine wpAnyH_ready (rs := [24]) (by kernel_rfl) (by simp) ?_
                refine AllReadyH.cons rfl (fun K hK => ?_) ?_
                · go_simp
                  refine hK.out _ _ hfl.new4.s (fun _ => IH _ _ _ ?_)
                  exact ⟨4, true, true, true, true, g1, g2, g3, W.heap.size, by omega, by simp [nB], by kernel_rfl, by kernel_rfl, hfl.new4⟩
                exact AllReadyH.nil
              | true =>
                exfalso; simp [nB] at hk
    case h0 =>
      intro L a W ⟨c, b1, b2, b3, b4, g1, g2, g3, g4, hc, hk, hL, ha, hfl⟩
      subst hT
      obtain rfl : c = 4 := by omega
      skip
      have eb1 : b1 = true := by
        cases b1 with
        | true => rfl
        | false => exact absurd hk (by simp only [nB, Bool.false_eq_true, if_false]; omega)
      have eb2 : b2 = true := by
        cases b2 with
        | true => rfl
        | false => exact absurd hk (by simp only [nB, Bool.false_eq_true, if_false]; omega)
      have eb3 : b3 = true := by
        cases b3 with
        | true => rfl
        | false => exact absurd hk (by simp only [nB, Bool.false_eq_true, if_false]; omega)
      have eb4 : b4 = true := by
        cases b4 with
        | true => rfl
        | false => exact absurd hk (by simp only [nB, Bool.false_eq_true, if_false]; omega)
      subst eb1
      subst eb2
      subst eb3
      subst eb4
      subst hL; subst ha
      simp only [setB, pU, decide_eq_true_eq, Nat.reduceLeDiff, Nat.le_refl, Bool.false_eq_true, if_true, if_false, List.setIfInBounds_toArray, List.set_cons_zero, List.set_cons_succ]
      obtain ⟨hu1, hg1⟩ := hfl.u1 rfl
      obtain ⟨hu2, hg2⟩ := hfl.u2 rfl
      obtain ⟨hu3, hg3⟩ := hfl.u3 rfl
      obtain ⟨hu4, hg4⟩ := hfl.u4 rfl
      have n12 := hfl.d12 rfl rfl
      have n13 := hfl.d13 rfl rfl
      have n14 := hfl.d14 rfl rfl
      have n23 := hfl.d23 rfl rfl
      have n24 := hfl.d24 rfl rfl
      have n34 := hfl.d34 rfl rfl
      have hs0 := hfl.s
      clear hfl hk hc
      obtain ⟨z0, z1, z2, z3⟩ := LBlk.all (s := U4.zero) hu1
      have f0 := hu1.free 0
      have f1 := hu1.free 1
      have f2 := hu1.free 2
      have f3 := hu1.free 3
      have hs1 : BelS w2.drew ((((W.setCell ⟨g1, 0, none⟩ (.int .u64 (XF.a : Int))).setCell ⟨g1, 1, none⟩ (.int .u64 (XF.b : Int))).setCell ⟨g1, 2, none⟩ (.int .u64 (XF.c : Int))).setCell ⟨g1, 3, none⟩ (.int .u64 (XF.d : Int))) := Below.set4U hs0 hg1 (.int .u64 (XF.a : Int)) (.int .u64 (XF.b : Int)) (.int .u64 (XF.c : Int)) (.int .u64 (XF.d : Int))
      refine wpAnyH_ready (rs := [25]) (by kernel_rfl) (by simp) (AllReadyH.cons rfl (fun K hK => ?_) AllReadyH.nil)
      go_simp
      refine hK.out _ _ hs1 (fun _ => ?_)
      clear hK K z0 z1 z2 z3 f0 f1 f2 f3
      replace hu1 := LBlk.set4 (s := U4.zero) hu1 XF
      replace hu2 := LBlk.far4U hu2 n12.symm (.int .u64 (XF.a : Int)) (.int .u64 (XF.b : Int)) (.int .u64 (XF.c : Int)) (.int .u64 (XF.d : Int))
      replace hu3 := LBlk.far4U hu3 n13.symm (.int .u64 (XF.a : Int)) (.int .u64 (XF.b : Int)) (.int .u64 (XF.c : Int)) (.int .u64 (XF.d : Int))
      replace hu4 := LBlk.far4U hu4 n14.symm (.int .u64 (XF.a : Int)) (.int .u64 (XF.b : Int)) (.int .u64 (XF.c : Int)) (.int .u64 (XF.d : Int))
      generalize ((((W.setCell ⟨g1, 0, none⟩ (.int .u64 (XF.a : Int))).setCell ⟨g1, 1, none⟩ (.int .u64 (XF.b : Int))).setCell ⟨g1, 2, none⟩ (.int .u64 (XF.c : Int))).setCell ⟨g1, 3, none⟩ (.int .u64 (XF.d : Int))) = Wa1 at *
      obtain ⟨z0, z1, z2, z3⟩ := LBlk.all (s := U4.zero) hu2
      have f0 := hu2.free 0
      have f1 := hu2.free 1
      have f2 := hu2.free 2
      have f3 := hu2.free 3
      have hs2 : BelS w2.drew ((((Wa1.setCell ⟨g2, 0, none⟩ (.int .u64 (XT.a : Int))).setCell ⟨g2, 1, none⟩ (.int .u64 (XT.b : Int))).setCell ⟨g2, 2, none⟩ (.int .u64 (XT.c : Int))).setCell ⟨g2, 3, none⟩ (.int .u64 (XT.d : Int))) := Below.set4U hs1 hg2 (.int .u64 (XT.a : Int)) (.int .u64 (XT.b : Int)) (.int .u64 (XT.c : Int)) (.int .u64 (XT.d : Int))
      refine wpAnyH_ready (rs := [26]) (by kernel_rfl) (by simp) (AllReadyH.cons rfl (fun K hK => ?_) AllReadyH.nil)
      go_simp
      refine hK.out _ _ hs2 (fun _ => ?_)
      clear hK K z0 z1 z2 z3 f0 f1 f2 f3
      replace hu2 := LBlk.set4 (s := U4.zero) hu2 XT
      replace hu1 := LBlk.far4U hu1 n12 (.int .u64 (XT.a : Int)) (.int .u64 (XT.b : Int)) (.int .u64 (XT.c : Int)) (.int .u64 (XT.d : Int))
      replace hu3 := LBlk.far4U hu3 n23.symm (.int .u64 (XT.a : Int)) (.int .u64 (XT.b : Int)) (.int .u64 (XT.c : Int)) (.int .u64 (XT.d : Int))
      replace hu4 := LBlk.far4U hu4 n24.symm (.int .u64 (XT.a : Int)) (.int .u64 (XT.b : Int)) (.int .u64 (XT.c : Int)) (.int .u64 (XT.d : Int))
      generalize ((((Wa1.setCell ⟨g2, 0, none⟩ (.int .u64 (XT.a : Int))).setCell ⟨g2, 1, none⟩ (.int .u64 (XT.b : Int))).setCell ⟨g2, 2, none⟩ (.int .u64 (XT.c : Int))).setCell ⟨g2, 3, none⟩ (.int .u64 (XT.d : Int))) = Wa2 at *
      obtain ⟨z0, z1, z2, z3⟩ := LBlk.all (s := U4.zero) hu3
      have f0 := hu3.free 0
      have f1 := hu3.free 1
      have f2 := hu3.free 2
      have f3 := hu3.free 3
      have hs3 : BelS w2.drew ((((Wa2.setCell ⟨g3, 0, none⟩ (.int .u64 (XH.a : Int))).setCell ⟨g3, 1, none⟩ (.int .u64 (XH.b : Int))).setCell ⟨g3, 2, none⟩ (.int .u64 (XH.c : Int))).setCell ⟨g3, 3, none⟩ (.int .u64 (XH.d : Int))) := Below.set4U hs2 hg3 (.int .u64 (XH.a : Int)) (.int .u64 (XH.b : Int)) (.int .u64 (XH.c : Int)) (.int .u64 (XH.d : Int))
      refine wpAnyH_ready (rs := [27]) (by kernel_rfl) (by simp) (AllReadyH.cons rfl (fun K hK => ?_) AllReadyH.nil)
      go_simp
      refine hK.out _ _ hs3 (fun _ => ?_)
      clear hK K z0 z1 z2 z3 f0 f1 f2 f3
      replace hu3 := LBlk.set4 (s := U4.zero) hu3 XH
      replace hu1 := LBlk.far4U hu1 n13 (.int .u64 (XH.a : Int)) (.int .u64 (XH.b : Int)) (.int .u64 (XH.c : Int)) (.int .u64 (XH.d : Int))
      replace hu2 := LBlk.far4U hu2 n23 (.int .u64 (XH.a : Int)) (.int .u64 (XH.b : Int)) (.int .u64 (XH.c : Int)) (.int .u64 (XH.d : Int))
      replace hu4 := LBlk.far4U hu4 n34.symm (.int .u64 (XH.a : Int)) (.int .u64 (XH.b : Int)) (.int .u64 (XH.c : Int)) (.int .u64 (XH.d : Int))
      generalize ((((Wa2.setCell ⟨g3, 0, none⟩ (.int .u64 (XH.a : Int))).setCell ⟨g3, 1, none⟩ (.int .u64 (XH.b : Int))).setCell ⟨g3, 2, none⟩ (.int .u64 (XH.c : Int))).setCell ⟨g3, 3, none⟩ (.int .u64 (XH.d : Int))) = Wa3 at *
      obtain ⟨z0, z1, z2, z3⟩ := LBlk.all (s := U4.zero) hu4
      have f0 := hu4.free 0
      have f1 := hu4.free 1
      have f2 := hu4.free 2
      have f3 := hu4.free 3
      have hs4 : BelS w2.drew ((((Wa3.setCell ⟨g4, 0, none⟩ (.int .u64 (XS.a : Int))).setCell ⟨g4, 1, none⟩ (.int .u64 (XS.b : Int))).setCell ⟨g4, 2, none⟩ (.int .u64 (XS.c : Int))).setCell ⟨g4, 3, none⟩ (.int .u64 (XS.d : Int))) := Below.set4U hs3 hg4 (.int .u64 (XS.a : Int)) (.int .u64 (XS.b : Int)) (.int .u64 (XS.c : Int)) (.int .u64 (XS.d : Int))
      refine wpAnyH_ready (rs := [28]) (by kernel_rfl) (by simp) (AllReadyH.cons rfl (fun K hK => ?_) AllReadyH.nil)
      go_simp
      refine hK.out _ _ hs4 (fun _ => ?_)
      clear hK K z0 z1 z2 z3 f0 f1 f2 f3
      replace hu4 := LBlk.set4 (s := U4.zero) hu4 XS
      replace hu1 := LBlk.far4U hu1 n14 (.int .u64 (XS.a : Int)) (.int .u64 (XS.b : Int)) (.int .u64 (XS.c : Int)) (.int .u64 (XS.d : Int))
      replace hu2 := LBlk.far4U hu2 n24 (.int .u64 (XS.a : Int)) (.int .u64 (XS.b : Int)) (.int .u64 (XS.c : Int)) (.int .u64 (XS.d : Int))
      replace hu3 := LBlk.far4U hu3 n34 (.int .u64 (XS.a : Int)) (.int .u64 (XS.b : Int)) (.int .u64 (XS.c : Int)) (.int .u64 (XS.d : Int))
      generalize ((((Wa3.setCell ⟨g4, 0, none⟩ (.int .u64 (XS.a : Int))).setCell ⟨g4, 1, none⟩ (.int .u64 (XS.b : Int))).setCell ⟨g4, 2, none⟩ (.int .u64 (XS.c : Int))).setCell ⟨g4, 3, none⟩ (.int .u64 (XS.d : Int))) = Wa4 at *
      refine wpAnyH_done (by kernel_rfl) ?_ _
      
      have A4 := (A2.up (Below.drew (Below.refl _ _))).up hs4
      have hk4 : Kept W0 Wa4 := (hk2.trans (Kept.drew w2)).trans (Kept.of_below hs4)
      have HOE := Lib.hid (fun (W : World) (hW : Kept Wa4 W) => HO.out W (hk4.trans hW))
      have HUU : Hid (∀ W, Kept Wa4 W → W.cell? ⟨g1, 0, none⟩ = some (.int .u64 (XF.a : Int)) ∧ W.cell? ⟨g1, 1, none⟩ = some (.int .u64 (XF.b : Int)) ∧ W.cell? ⟨g1, 2, none⟩ = some (.int .u64 (XF.c : Int)) ∧ W.cell? ⟨g1, 3, none⟩ = some (.int .u64 (XF.d : Int)) ∧ W.cell? ⟨g2, 0, none⟩ = some (.int .u64 (XT.a : Int)) ∧ W.cell? ⟨g2, 1, none⟩ = some (.int .u64 (XT.b : Int)) ∧ W.cell? ⟨g2, 2, none⟩ = some (.int .u64 (XT.c : Int)) ∧ W.cell? ⟨g2, 3, none⟩ = some (.int .u64 (XT.d : Int)) ∧ W.cell? ⟨g3, 0, none⟩ = some (.int .u64 (XH.a : Int)) ∧ W.cell? ⟨g3, 1, none⟩ = some (.int .u64 (XH.b : Int)) ∧ W.cell? ⟨g3, 2, none⟩ = some (.int .u64 (XH.c : Int)) ∧ W.cell? ⟨g3, 3, none⟩ = some (.int .u64 (XH.d : Int)) ∧ W.cell? ⟨g4, 0, none⟩ = some (.int .u64 (XS.a : Int)) ∧ W.cell? ⟨g4, 1, none⟩ = some (.int .u64 (XS.b : Int)) ∧ W.cell? ⟨g4, 2, none⟩ = some (.int .u64 (XS.c : Int)) ∧ W.cell? ⟨g4, 3, none⟩ = some (.int .u64 (XS.d : Int))) := Lib.hid (fun W hk => by
        obtain ⟨a0, a1, a2, a3⟩ := LBlk.all (s := XF) hu1
        obtain ⟨b0, b1, b2, b3⟩ := LBlk.all (s := XT) hu2
        obtain ⟨d0, d1, d2, d3⟩ := LBlk.all (s := XH) hu3
        obtain ⟨e0, e1, e2, e3⟩ := LBlk.all (s := XS) hu4
        exact ⟨hk.cell a0, hk.cell a1, hk.cell a2, hk.cell a3, hk.cell b0, hk.cell b1, hk.cell b2, hk.cell b3, hk.cell d0, hk.cell d1, hk.cell d2, hk.cell d3, hk.cell e0, hk.cell e1, hk.cell e2, hk.cell e3⟩)
      obtain ⟨c0, c1, c2, c3, c4, c5, c6, c7⟩ := HOE.out _ (Kept.refl _)
      have HS := Lib.hid (A4.send (show yn + 0 + 2 ≤ maxLen by have := HYN.out; unfold maxLen; omega) a b d x hx ha hb hd)
      obtain ⟨E, hE⟩ : ∃ E, E = (sendM ps a b d x).1 := ⟨_, rfl⟩
      obtain ⟨R, hR⟩ : ∃ R, R = (sendM ps a b d x).2 := ⟨_, rfl⟩
      rw [← hE, ← hR] at HS
      have HEE := Lib.hid (And.intro hE hR)
      unfold U4.val U4.cells at HS
      clear hE hR A4 A2 hk2 hk4 HOD H1 H2 H3 H4 hS0 hg1 hg2 hg3 hg4 n12 n13 n14 n23 n24 n34 hs0 hs1 hs2 hs3 hs4 hu1 hu2 hu3 hu4
      go_wp2_with fail
      refine HS.out.mono ?_
      rintro e w5 ⟨rfl, A5, hk5⟩
      clear HS c0 c1 c2 c3 c4 c5 c6 c7
      have A5d := A5.up (Below.drew (Below.refl _ _))
      have HOF := Lib.hid (fun (W : World) (hW : BelS w5.drew W) => HOE.out W ((hk5.trans (Kept.drew w5)).trans (Kept.of_below hW)))
      have HUF := Lib.hid (fun (W : World) (hW : BelS w5.drew W) => HUU.out W ((hk5.trans (Kept.drew w5)).trans (Kept.of_below hW)))
      have HA5 := Lib.hid (fun (W : World) (hW : BelS w5.drew W) => A5d.up hW)
      have H5 := Lib.hid (fun (W : World) (hW : BelS w5.drew W) => (A5d.up hW).bal a d ha hd)
      have H6 := Lib.hid (fun (W : World) (hW : BelS w5.drew W) => (A5d.up hW).bal b d hb hd)
      obtain ⟨XA, hXA⟩ : ∃ X, X = balM R a d := ⟨_, rfl⟩
      obtain ⟨XB, hXB⟩ : ∃ X, X = balM R b d := ⟨_, rfl⟩
      rw [← hXA] at H5
      rw [← hXB] at H6
      have HAB := Lib.hid (And.intro hXA hXB)
      unfold U4.val U4.cells at H5 H6
      clear hXA hXB A5 A5d hk5 HOE HUU
      go_wp2_with fail
      refine wp_region_held_drew (S := BelS w5.drew) (by kernel_rfl) (BelS.refl _) (fun hS0 => ?_)
      refine wpAnyH_take (i := 0) (oi := _) (v := ?_) rfl (by kernel_rfl) (by kernel_rfl) (by kernel_rfl) (fun _ _ _ h => h) (Or.inl ⟨by rfl, ?_⟩) hS0 ?_
      rotate_left
      · intro W hSW
        try go_simp
        all_goals with_reducible rfl
      simp only [Act.put, List.setIfInBounds_toArray, List.set_cons_zero, List.set_cons_succ, List.getElem_toArray, List.getElem_cons_zero, List.getElem_cons_succ]
      refine wpAnyH_take (i := 1) (oi := _) (v := ?_) rfl (by kernel_rfl) (by kernel_rfl) (by kernel_rfl) (fun _ _ _ h => h) (Or.inl ⟨by rfl, ?_⟩) hS0 ?_
      rotate_left
      · intro W hSW
        try go_simp
        all_goals with_reducible rfl
      simp only [Act.put, List.setIfInBounds_toArray, List.set_cons_zero, List.set_cons_succ, List.getElem_toArray, List.getElem_cons_zero, List.getElem_cons_succ]
      refine wpAnyH_take (i := 2) (oi := _) (v := ?_) rfl (by kernel_rfl) (by kernel_rfl) (by kernel_rfl) (fun _ _ _ h => h) (Or.inl ⟨by rfl, ?_⟩) hS0 ?_
      rotate_left
      · intro W hSW
        obtain ⟨c0, c1, c2, c3, c4, c5, c6, c7⟩ := HOF.out W hSW
        try go_simp
        all_goals with_reducible rfl
      simp only [Act.put, List.setIfInBounds_toArray, List.set_cons_zero, List.set_cons_succ, List.getElem_toArray, List.getElem_cons_zero, List.getElem_cons_succ]
      refine wpAnyH_take (i := 3) (oi := _) (v := ?_) rfl (by kernel_rfl) (by kernel_rfl) (by kernel_rfl) (fun _ _ _ h => h) (Or.inl ⟨by rfl, ?_⟩) hS0 ?_
      rotate_left
      · intro W hSW
        try go_simp
        all_goals with_reducible rfl
      simp only [Act.put, List.setIfInBounds_toArray, List.set_cons_zero, List.set_cons_succ, List.getElem_toArray, List.getElem_cons_zero, List.getElem_cons_succ]
      refine wpAnyH_take (i := 4) (oi := _) (v := ?_) rfl (by kernel_rfl) (by kernel_rfl) (by kernel_rfl) (fun _ _ _ h => h) (Or.inl ⟨by rfl, ?_⟩) hS0 ?_
      rotate_left
      · intro W hSW
        obtain ⟨c0, c1, c2, c3, c4, c5, c6, c7⟩ := HOF.out W hSW
        try go_simp
        all_goals with_reducible rfl
      simp only [Act.put, List.setIfInBounds_toArray, List.set_cons_zero, List.set_cons_succ, List.getElem_toArray, List.getElem_cons_zero, List.getElem_cons_succ]
      refine wpAnyH_take (i := 6) (oi := _) (v := ?_) rfl (by kernel_rfl) (by kernel_rfl) (by kernel_rfl) (fun _ _ _ h => h) (Or.inl ⟨by rfl, ?_⟩) hS0 ?_
      rotate_left
      · intro W hSW
        try go_simp
        all_goals with_reducible rfl
      simp only [Act.put, List.setIfInBounds_toArray, List.set_cons_zero, List.set_cons_succ, List.getElem_toArray, List.getElem_cons_zero, List.getElem_cons_succ]
      refine wpAnyH_take (i := 7) (oi := _) (v := ?_) rfl (by kernel_rfl) (by kernel_rfl) (by kernel_rfl) (fun _ _ _ h => h) (Or.inl ⟨by rfl, ?_⟩) hS0 ?_
      rotate_left
      · intro W hSW
        try go_simp
        all_goals with_reducible rfl
      simp only [Act.put, List.setIfInBounds_toArray, List.set_cons_zero, List.set_cons_succ, List.getElem_toArray, List.getElem_cons_zero, List.getElem_cons_succ]
      refine wpAnyH_take (i := 8) (oi := _) (v := ?_) rfl (by kernel_rfl) (by kernel_rfl) (by kernel_rfl) (fun _ _ _ h => h) (Or.inl ⟨by rfl, ?_⟩) hS0 ?_
      rotate_left
      · intro W hSW
        obtain ⟨c0, c1, c2, c3, c4, c5, c6, c7⟩ := HOF.out W hSW
        try go_simp
        all_goals with_reducible rfl
      simp only [Act.put, List.setIfInBounds_toArray, List.set_cons_zero, List.set_cons_succ, List.getElem_toArray, List.getElem_cons_zero, List.getElem_cons_succ]
      refine wpAnyH_take (i := 9) (oi := _) (v := ?_) rfl (by kernel_rfl) (by kernel_rfl) (by kernel_rfl) (fun _ _ _ h => h) (Or.inl ⟨by rfl, ?_⟩) hS0 ?_
      rotate_left
      · intro W hSW
        try go_simp
        all_goals with_reducible rfl
      simp only [Act.put, List.setIfInBounds_toArray, List.set_cons_zero, List.set_cons_succ, List.getElem_toArray, List.getElem_cons_zero, List.getElem_cons_succ]
      refine wpAnyH_take (i := 10) (oi := _) (v := ?_) rfl (by kernel_rfl) (by kernel_rfl) (by kernel_rfl) (fun _ _ _ h => h) (Or.inl ⟨by rfl, ?_⟩) hS0 ?_
      rotate_left
      · intro W hSW
        obtain ⟨c0, c1, c2, c3, c4, c5, c6, c7⟩ := HOF.out W hSW
        try go_simp
        all_goals with_reducible rfl
      simp only [Act.put, List.setIfInBounds_toArray, List.set_cons_zero, List.set_cons_succ, List.getElem_toArray, List.getElem_cons_zero, List.getElem_cons_succ]
      refine act_gen (C := fun a => wpAnyH _ _ _ _ _ _ _ a _) (fun T hT => ?_)
      refine wpAnyH_until (fuel := 2) (fun k L a W => ∃ (c : Nat) (b1 b2 : Bool) (p1 p2 p3 p4 : Nat), c ≤ 2 ∧ k = (2 - c) + nB b1 + nB b2 ∧ L = #[true, true, true, true, true, decide (1 ≤ c), true, true, true, true, true, decide (2 ≤ c), b1, b2, false, false] ∧ a = { tmps := (setB b2 14 (pU p2) (setB b1 13 (pU p1) (setB (decide (2 ≤ c)) 81 (.agg #[.int .u64 (XB.a : Int), .int .u64 (XB.b : Int), .int .u64 (XB.c : Int), .int .u64 (XB.d : Int)]) (setB (decide (1 ≤ c)) 75 (.agg #[.int .u64 (XA.a : Int), .int .u64 (XA.b : Int), .int .u64 (XA.c : Int), .int .u64 (XA.d : Int)]) T)))), defers := [] } ∧ Fl w5.drew b1 b2 false false p1 p2 p3 p4 W) ?h0 ?hstep 4 _ _ _ ?start
      case start => exact ⟨0, false, false, 0, 0, 0, 0, Nat.zero_le _, by simp [nB], by kernel_rfl, by simp [setB], Fl.none _⟩
      case hstep =>
        intro k IH L a W ⟨c, b1, b2, p1, p2, p3, p4, hc, hk, hL, ha, hfl⟩
        subst hT
        rcases (show c = 0 ∨ c = 1 ∨ c = 2 by omega) with rfl | rfl | rfl
        · cases b1 with
          | false =>
            cases b2 with
            | false =>
              obtain rfl : k = 3 := by simp [nB] at hk; omega
              subst hL; subst ha
              simp only [setB, pU, decide_eq_true_eq, Nat.reduceLeDiff, Nat.le_refl, Bool.false_eq_true, if_true, if_false, List.setIfInBounds_toArray, List.set_cons_zero, List.set_cons_succ]
              have hs := hfl.s
              refine wpAnyH_ready (rs := [5, 12, 13]) (by kernel_rfl) (by simp) ?_
              refine AllReadyH.cons rfl (fun K hK => ?_) ?_
              · have HC := Lib.hid (H5.out _ hs)
                go_simp
                go_wp2_with ((go_at_call 8; (with_reducible refine HC.out.mono ?_); rintro e wn ⟨rfl, hbn⟩))
                refine hK.out _ _ (hfl.up hbn).s (fun _ => IH _ _ _ ?_)
                exact ⟨1, false, false, p1, p2, p3, p4, by omega, by simp [nB], by kernel_rfl, by kernel_rfl, hfl.up hbn⟩
              refine AllReadyH.cons rfl (fun K hK => ?_) ?_
              · go_simp
                refine hK.out _ _ hfl.new1.s (fun _ => IH _ _ _ ?_)
                exact ⟨0, true, false, W.heap.size, p2, p3, p4, by omega, by simp [nB], by kernel_rfl, by kernel_rfl, hfl.new1⟩
              refine AllReadyH.cons rfl (fun K hK => ?_) ?_
              · go_simp
                refine hK.out _ _ hfl.new2.s (fun _ => IH _ _ _ ?_)
                exact ⟨0, false, true, p1, W.heap.size, p3, p4, by omega, by simp [nB], by kernel_rfl, by kernel_rfl, hfl.new2⟩
              exact AllReadyH.nil
            | true =>
              obtain rfl : k = 2 := by simp [nB] at hk; omega
              subst hL; subst ha
              simp only [setB, pU, decide_eq_true_eq, Nat.reduceLeDiff, Nat.le_refl, Bool.false_eq_true, if_true, if_false, List.setIfInBounds_toArray, List.set_cons_zero, List.set_cons_succ]
              have hs := hfl.s
              refine wpAnyH_ready (rs := [5, 12]) (by kernel_rfl) (by simp) ?_
              refine AllReadyH.cons rfl (fun K hK => ?_) ?_
              · have HC := Lib.hid (H5.out _ hs)
                go_simp
                go_wp2_with ((go_at_call 8; (with_reducible refine HC.out.mono ?_); rintro e wn ⟨rfl, hbn⟩))
                refine hK.out _ _ (hfl.up hbn).s (fun _ => IH _ _ _ ?_)
                exact ⟨1, false, true, p1, p2, p3, p4, by omega, by simp [nB], by kernel_rfl, by kernel_rfl, hfl.up hbn⟩
              refine AllReadyH.cons rfl (fun K hK => ?_) ?_
              · go_simp
                refine hK.out _ _ hfl.new1.s (fun _ => IH _ _ _ ?_)
                exact ⟨0, true, true, W.heap.size, p2, p3, p4, by omega, by simp [nB], by kernel_rfl, by kernel_rfl, hfl.new1⟩
              exact AllReadyH.nil
          | true =>
            cases b2 with
            | false =>
              obtain rfl : k = 2 := by simp [nB] at hk; omega
              subst hL; subst ha
              simp only [setB, pU, decide_eq_true_eq, Nat.reduceLeDiff, Nat.le_refl, Bool.false_eq_true, if_true, if_false, List.setIfInBounds_toArray, List.set_cons_zero, List.set_cons_succ]
              have hs := hfl.s
              refine wpAnyH_ready (rs := [5, 13]) (by kernel_rfl) (by simp) ?_
              refine AllReadyH.cons rfl (fun K hK => ?_) ?_
              · have HC := Lib.hid (H5.out _ hs)
                go_simp
                go_wp2_with ((go_at_call 8; (with_reducible refine HC.out.mono ?_); rintro e wn ⟨rfl, hbn⟩))
                refine hK.out _ _ (hfl.up hbn).s (fun _ => IH _ _ _ ?_)
                exact ⟨1, true, false, p1, p2, p3, p4, by omega, by simp [nB], by kernel_rfl, by kernel_rfl, hfl.up hbn⟩
              refine AllReadyH.cons rfl (fun K hK => ?_) ?_
              · go_simp
                refine hK.out _ _ hfl.new2.s (fun _ => IH _ _ _ ?_)
                exact ⟨0, true, true, p1, W.heap.size, p3, p4, by omega, by simp [nB], by kernel_rfl, by kernel_rfl, hfl.new2⟩
              exact AllReadyH.nil
            | true =>
              obtain rfl : k = 1 := by simp [nB] at hk; omega
              subst hL; subst ha
              simp only [setB, pU, decide_eq_true_eq, Nat.reduceLeDiff, Nat.le_refl, Bool.false_eq_true, if_true, if_false, List.setIfInBounds_toArray, List.set_cons_zero, List.set_cons_succ]
              have hs := hfl.s
              refine wpAnyH_ready (rs := [5]) (by kernel_rfl) (by simp) ?_
              refine AllReadyH.cons rfl (fun K hK => ?_) ?_
              · have HC := Lib.hid (H5.out _ hs)
                go_simp
                go_wp2_with ((go_at_call 8; (with_reducible refine HC.out.mono ?_); rintro e wn ⟨rfl, hbn⟩))
                refine hK.out _ _ (hfl.up hbn).s (fun _ => IH _ _ _ ?_)
                exact ⟨1, true, true, p1, p2, p3, p4, by omega, by simp [nB], by kernel_rfl, by kernel_rfl, hfl.up hbn⟩
              exact AllReadyH.nil
        · cases b1 with
          | false =>
            cases b2 with
            | false =>
              obtain rfl : k = 2 := by simp [nB] at hk; omega
              subst hL; subst ha
              simp only [setB, pU, decide_eq_true_eq, Nat.reduceLeDiff, Nat.le_refl, Bool.false_eq_true, if_true, if_false, List.setIfInBounds_toArray, List.set_cons_zero, List.set_cons_succ]
              have hs := hfl.s
              refine wpAnyH_ready (rs := [11, 12, 13]) (by kernel_rfl) (by simp) ?_
              refine AllReadyH.cons rfl (fun K hK => ?_) ?_
              · have HC := Lib.hid (H6.out _ hs)
                go_simp
                go_wp2_with ((go_at_call 8; (with_reducible refine HC.out.mono ?_); rintro e wn ⟨rfl, hbn⟩))
                refine hK.out _ _ (hfl.up hbn).s (fun _ => IH _ _ _ ?_)
                exact ⟨2, false, false, p1, p2, p3, p4, by omega, by simp [nB], by kernel_rfl, by kernel_rfl, hfl.up hbn⟩
              refine AllReadyH.cons rfl (fun K hK => ?_) ?_
              · go_simp
                refine hK.out _ _ hfl.new1.s (fun _ => IH _ _ _ ?_)
                exact ⟨1, true, false, W.heap.size, p2, p3, p4, by omega, by simp [nB], by kernel_rfl, by kernel_rfl, hfl.new1⟩
              refine AllReadyH.cons rfl (fun K hK => ?_) ?_
              · go_simp
                refine hK.out _ _ hfl.new2.s (fun _ => IH _ _ _ ?_)
                exact ⟨1, false, true, p1, W.heap.size, p3, p4, by omega, by simp [nB], by kernel_rfl, by kernel_rfl, hfl.new2⟩
              exact AllReadyH.nil
            | true =>
              obtain rfl : k = 1 := by simp [nB] at hk; omega
              subst hL; subst ha
              simp only [setB, pU, decide_eq_true_eq, Nat.reduceLeDiff, Nat.le_refl, Bool.false_eq_true, if_true, if_false, List.setIfInBounds_toArray, List.set_cons_zero, List.set_cons_succ]
              have hs := hfl.s
              refine wpAnyH_ready (rs := [11, 12]) (by kernel_rfl) (by simp) ?_
              refine AllReadyH.cons rfl (fun K hK => ?_) ?_
              · have HC := Lib.hid (H6.out _ hs)
                go_simp
                go_wp2_with ((go_at_call 8; (with_reducible refine HC.out.mono ?_); rintro e wn ⟨rfl, hbn⟩))
                refine hK.out _ _ (hfl.up hbn).s (fun _ => IH _ _ _ ?_)
                exact ⟨2, false, true, p1, p2, p3, p4, by omega, by simp [nB], by kernel_rfl, by kernel_rfl, hfl.up hbn⟩
              refine AllReadyH.cons rfl (fun K hK => ?_) ?_
              · go_simp
                refine hK.out _ _ hfl.new1.s (fun _ => IH _ _ _ ?_)
                exact ⟨1, true, true, W.heap.size, p2, p3, p4, by omega, by simp [nB], by kernel_rfl, by kernel_rfl, hfl.new1⟩
              exact AllReadyH.nil
          | true =>
            cases b2 with
            | false =>
              obtain rfl : k = 1 := by simp [nB] at hk; omega
              subst hL; subst ha
              simp only [setB, pU, decide_eq_true_eq, Nat.reduceLeDiff, Nat.le_refl, Bool.false_eq_true, if_true, if_false, List.setIfInBounds_toArray, List.set_cons_zero, List.set_cons_succ]
              have hs := hfl.s
              refine wpAnyH_ready (rs := [11, 13]) (by kernel_rfl) (by simp) ?_
              refine AllReadyH.cons rfl (fun K hK => ?_) ?_
              · have HC := Lib.hid (H6.out _ hs)
                go_simp
                go_wp2_with ((go_at_call 8; (with_reducible refine HC.out.mono ?_); rintro e wn ⟨rfl, hbn⟩))
                refine hK.out _ _ (hfl.up hbn).s (fun _ => IH _ _ _ ?_)
                exact ⟨2, true, false, p1, p2, p3, p4, by omega, by simp [nB], by kernel_rfl, by kernel_rfl, hfl.up hbn⟩
              refine AllReadyH.cons rfl (fun K hK => ?_) ?_
              · go_simp
                refine hK.out _ _ hfl.new2.s (fun _ => IH _ _ _ ?_)
                exact ⟨1, true, true, p1, W.heap.size, p3, p4, by omega, by simp [nB], by kernel_rfl, by kernel_rfl, hfl.new2⟩
              exact AllReadyH.nil
            | true =>
              obtain rfl : k = 0 := by simp [nB] at hk; omega
              subst hL; subst ha
              simp only [setB, pU, decide_eq_true_eq, Nat.reduceLeDiff, Nat.le_refl, Bool.false_eq_true, if_true, if_false, List.setIfInBounds_toArray, List.set_cons_zero, List.set_cons_succ]
              have hs := hfl.s
              refine wpAnyH_ready (rs := [11]) (by kernel_rfl) (by simp) ?_
              refine AllReadyH.cons rfl (fun K hK => ?_) ?_
              · have HC := Lib.hid (H6.out _ hs)
                go_simp
                go_wp2_with ((go_at_call 8; (with_reducible refine HC.out.mono ?_); rintro e wn ⟨rfl, hbn⟩))
                refine hK.out _ _ (hfl.up hbn).s (fun _ => IH _ _ _ ?_)
                exact ⟨2, true, true, p1, p2, p3, p4, by omega, by simp [nB], by kernel_rfl, by kernel_rfl, hfl.up hbn⟩
              exact AllReadyH.nil
        · cases b1 with
          | false =>
            cases b2 with
            | false =>
              obtain rfl : k = 1 := by simp [nB] at hk; omega
              subst hL; subst ha
              simp only [setB, pU, decide_eq_true_eq, Nat.reduceLeDiff, Nat.le_refl, Bool.false_eq_true, if_true, if_false, List.setIfInBounds_toArray, List.set_cons_zero, List.set_cons_succ]
              have hs := hfl.s
              refine wpAnyH_ready (rs := [12, 13]) (by kernel_rfl) (by simp) ?_
              refine AllReadyH.cons rfl (fun K hK => ?_) ?_
              · go_simp
                refine hK.out _ _ hfl.new1.s (fun _ => IH _ _ _ ?_)
                exact ⟨2, true, false, W.heap.size, p2, p3, p4, by omega, by simp [nB], by kernel_rfl, by kernel_rfl, hfl.new1⟩
              refine AllReadyH.cons rfl (fun K hK => ?_) ?_
              · go_simp
                refine hK.out _ _ hfl.new2.s (fun _ => IH _ _ _ ?_)
                exact ⟨2, false, true, p1, W.heap.size, p3, p4, by omega, by simp [nB], by kernel_rfl, by kernel_rfl, hfl.new2⟩
              exact AllReadyH.nil
            | true =>
              obtain rfl : k = 0 := by simp [nB] at hk; omega
              subst hL; subst ha
              simp only [setB, pU, decide_eq_true_eq, Nat.reduceLeDiff, Nat.le_refl, Bool.false_eq_true, if_true, if_false, List.setIfInBounds_toArray, List.set_cons_zero, List.set_cons_succ]
              have hs := hfl.s
              refine wpAnyH_ready (rs := [12]) (by kernel_rfl) (by simp) ?_
              refine AllReadyH.cons rfl (fun K hK => ?_) ?_
              · go_simp
                refine hK.out _ _ hfl.new1.s (fun _ => IH _ _ _ ?_)
                exact ⟨2, true, true, W.heap.size, p2, p3, p4, by omega, by simp [nB], by kernel_rfl, by kernel_rfl, hfl.new1⟩
              exact AllReadyH.nil
          | true =>
            cases b2 with
            | false =>
              obtain rfl : k = 0 := by simp [nB] at hk; omega
              subst hL; subst ha
              simp only [setB, pU, decide_eq_true_eq, Nat.reduceLeDiff, Nat.le_refl, Bool.false_eq_true, if_true, if_false, List.setIfInBounds_toArray, List.set_cons_zero, List.set_cons_succ]
              have hs := hfl.s
              refine wpAnyH_ready (rs := [13]) (by kernel_rfl) (by simp) ?_
              refine AllReadyH.cons rfl (fun K hK => ?_) ?_
              · go_simp
                refine hK.out _ _ hfl.new2.s (fun _ => IH _ _ _ ?_)
                exact ⟨2, true, true, p1, W.heap.size, p3, p4, by omega, by simp [nB], by kernel_rfl, by kernel_rfl, hfl.new2⟩
              exact AllReadyH.nil
            | true =>
              exfalso; simp [nB] at hk
      case h0 =>
        intro L a W ⟨c, b1, b2, p1, p2, p3, p4, hc, hk, hL, ha, hfl⟩
        subst hT
        obtain rfl : c = 2 := by omega
        skip
        have eb1 : b1 = true := by
          cases b1 with
          | true => rfl
          | false => exact absurd hk (by simp only [nB, Bool.false_eq_true, if_false]; omega)
        have eb2 : b2 = true := by
          cases b2 with
          | true => rfl
          | false => exact absurd hk (by simp only [nB, Bool.false_eq_true, if_false]; omega)
        subst eb1
        subst eb2
        subst hL; subst ha
        simp only [setB, pU, decide_eq_true_eq, Nat.reduceLeDiff, Nat.le_refl, Bool.false_eq_true, if_true, if_false, List.setIfInBounds_toArray, List.set_cons_zero, List.set_cons_succ]
        obtain ⟨hu1, hg1⟩ := hfl.u1 rfl
        obtain ⟨hu2, hg2⟩ := hfl.u2 rfl
        have n12 := hfl.d12 rfl rfl
        have hs0 := hfl.s
        clear hfl hk hc
        obtain ⟨z0, z1, z2, z3⟩ := LBlk.all (s := U4.zero) hu1
        have f0 := hu1.free 0
        have f1 := hu1.free 1
        have f2 := hu1.free 2
        have f3 := hu1.free 3
        have hs1 : BelS w5.drew ((((W.setCell ⟨p1, 0, none⟩ (.int .u64 (XA.a : Int))).setCell ⟨p1, 1, none⟩ (.int .u64 (XA.b : Int))).setCell ⟨p1, 2, none⟩ (.int .u64 (XA.c : Int))).setCell ⟨p1, 3, none⟩ (.int .u64 (XA.d : Int))) := Below.set4U hs0 hg1 (.int .u64 (XA.a : Int)) (.int .u64 (XA.b : Int)) (.int .u64 (XA.c : Int)) (.int .u64 (XA.d : Int))
        refine wpAnyH_ready (rs := [14]) (by kernel_rfl) (by simp) (AllReadyH.cons rfl (fun K hK => ?_) AllReadyH.nil)
        go_simp
        refine hK.out _ _ hs1 (fun _ => ?_)
        clear hK K z0 z1 z2 z3 f0 f1 f2 f3
        replace hu1 := LBlk.set4 (s := U4.zero) hu1 XA
        replace hu2 := LBlk.far4U hu2 n12.symm (.int .u64 (XA.a : Int)) (.int .u64 (XA.b : Int)) (.int .u64 (XA.c : Int)) (.int .u64 (XA.d : Int))
        generalize ((((W.setCell ⟨p1, 0, none⟩ (.int .u64 (XA.a : Int))).setCell ⟨p1, 1, none⟩ (.int .u64 (XA.b : Int))).setCell ⟨p1, 2, none⟩ (.int .u64 (XA.c : Int))).setCell ⟨p1, 3, none⟩ (.int .u64 (XA.d : Int))) = Wb1 at *
        obtain ⟨z0, z1, z2, z3⟩ := LBlk.all (s := U4.zero) hu2
        have f0 := hu2.free 0
        have f1 := hu2.free 1
        have f2 := hu2.free 2
        have f3 := hu2.free 3
        have hs2 : BelS w5.drew ((((Wb1.setCell ⟨p2, 0, none⟩ (.int .u64 (XB.a : Int))).setCell ⟨p2, 1, none⟩ (.int .u64 (XB.b : Int))).setCell ⟨p2, 2, none⟩ (.int .u64 (XB.c : Int))).setCell ⟨p2, 3, none⟩ (.int .u64 (XB.d : Int))) := Below.set4U hs1 hg2 (.int .u64 (XB.a : Int)) (.int .u64 (XB.b : Int)) (.int .u64 (XB.c : Int)) (.int .u64 (XB.d : Int))
        refine wpAnyH_ready (rs := [15]) (by kernel_rfl) (by simp) (AllReadyH.cons rfl (fun K hK => ?_) AllReadyH.nil)
        go_simp
        refine hK.out _ _ hs2 (fun _ => ?_)
        clear hK K z0 z1 z2 z3 f0 f1 f2 f3
        replace hu2 := LBlk.set4 (s := U4.zero) hu2 XB
        replace hu1 := LBlk.far4U hu1 n12 (.int .u64 (XB.a : Int)) (.int .u64 (XB.b : Int)) (.int .u64 (XB.c : Int)) (.int .u64 (XB.d : Int))
        generalize ((((Wb1.setCell ⟨p2, 0, none⟩ (.int .u64 (XB.a : Int))).setCell ⟨p2, 1, none⟩ (.int .u64 (XB.b : Int))).setCell ⟨p2, 2, none⟩ (.int .u64 (XB.c : Int))).setCell ⟨p2, 3, none⟩ (.int .u64 (XB.d : Int))) = Wb2 at *
        refine wpAnyH_done (by kernel_rfl) ?_ _
        have HX : Hid (∀ W, BelS Wb2.drew W → W.cell? ⟨w.heap.size, 0, none⟩ = some (.int .i64 kd) ∧ W.cell? ⟨w.heap.size, 1, none⟩ = some (.string a) ∧ W.cell? ⟨w.heap.size, 2, none⟩ = some (.string b) ∧ W.cell? ⟨w.heap.size, 3, none⟩ = some (.string d) ∧ W.cell? ⟨w.heap.size, 4, none⟩ = some (.int .u64 (x.a : Int)) ∧ W.cell? ⟨w.heap.size, 5, none⟩ = some (.int .u64 (x.b : Int)) ∧ W.cell? ⟨w.heap.size, 6, none⟩ = some (.int .u64 (x.c : Int)) ∧ W.cell? ⟨w.heap.size, 7, none⟩ = some (.int .u64 (x.d : Int)) ∧ W.cell? ⟨g1, 0, none⟩ = some (.int .u64 (XF.a : Int)) ∧ W.cell? ⟨g1, 1, none⟩ = some (.int .u64 (XF.b : Int)) ∧ W.cell? ⟨g1, 2, none⟩ = some (.int .u64 (XF.c : Int)) ∧ W.cell? ⟨g1, 3, none⟩ = some (.int .u64 (XF.d : Int)) ∧ W.cell? ⟨g2, 0, none⟩ = some (.int .u64 (XT.a : Int)) ∧ W.cell? ⟨g2, 1, none⟩ = some (.int .u64 (XT.b : Int)) ∧ W.cell? ⟨g2, 2, none⟩ = some (.int .u64 (XT.c : Int)) ∧ W.cell? ⟨g2, 3, none⟩ = some (.int .u64 (XT.d : Int)) ∧ W.cell? ⟨g3, 0, none⟩ = some (.int .u64 (XH.a : Int)) ∧ W.cell? ⟨g3, 1, none⟩ = some (.int .u64 (XH.b : Int)) ∧ W.cell? ⟨g3, 2, none⟩ = some (.int .u64 (XH.c : Int)) ∧ W.cell? ⟨g3, 3, none⟩ = some (.int .u64 (XH.d : Int)) ∧ W.cell? ⟨g4, 0, none⟩ = some (.int .u64 (XS.a : Int)) ∧ W.cell? ⟨g4, 1, none⟩ = some (.int .u64 (XS.b : Int)) ∧ W.cell? ⟨g4, 2, none⟩ = some (.int .u64 (XS.c : Int)) ∧ W.cell? ⟨g4, 3, none⟩ = some (.int .u64 (XS.d : Int)) ∧ W.cell? ⟨p1, 0, none⟩ = some (.int .u64 (XA.a : Int)) ∧ W.cell? ⟨p1, 1, none⟩ = some (.int .u64 (XA.b : Int)) ∧ W.cell? ⟨p1, 2, none⟩ = some (.int .u64 (XA.c : Int)) ∧ W.cell? ⟨p1, 3, none⟩ = some (.int .u64 (XA.d : Int)) ∧ W.cell? ⟨p2, 0, none⟩ = some (.int .u64 (XB.a : Int)) ∧ W.cell? ⟨p2, 1, none⟩ = some (.int .u64 (XB.b : Int)) ∧ W.cell? ⟨p2, 2, none⟩ = some (.int .u64 (XB.c : Int)) ∧ W.cell? ⟨p2, 3, none⟩ = some (.int .u64 (XB.d : Int))) := Lib.hid (fun W hW => by
          have hB : BelS w5.drew W := below_chain (below_chain hs2 hs2.size (Below.drew (Below.refl _ _))) hs2.size hW
          obtain ⟨c0, c1, c2, c3, c4, c5, c6, c7⟩ := HOF.out _ hB
          obtain ⟨s0, s1, s2, s3, t0, t1, t2, t3, u0, u1, u2, u3, v0, v1, v2, v3⟩ := HUF.out _ hB
          have hk : Kept Wb2 W := (Kept.drew Wb2).trans (Kept.of_below hW)
          obtain ⟨a0, a1, a2, a3⟩ := LBlk.all (s := XA) hu1
          obtain ⟨b0, b1, b2, b3⟩ := LBlk.all (s := XB) hu2
          exact ⟨c0, c1, c2, c3, c4, c5, c6, c7, s0, s1, s2, s3, t0, t1, t2, t3, u0, u1, u2, u3, v0, v1, v2, v3, hk.cell a0, hk.cell a1, hk.cell a2, hk.cell a3, hk.cell b0, hk.cell b1, hk.cell b2, hk.cell b3⟩)
        have HAc := Lib.hid (fun (W : World) (hW : BelS Wb2.drew W) => HA5.out W (below_chain (below_chain hs2 hs2.size (Below.drew (Below.refl _ _))) hs2.size hW))
        have HF := Lib.hid (fun (W : World) (hW : BelS Wb2.drew W) => hq1.trans ((HAc.out W hW).below hym' hW1))
        have H7 := Lib.hid (fun (W : World) (hW : BelS Wb2.drew W) => (HAc.out W hW).sup d hd)
        have H8 := Lib.hid (fun (W : World) (hW : BelS Wb2.drew W) => (HAc.out W hW).bal o d ho hd)
        have hsup : supM R d = XS := by rw [HEE.out.2, send_sup, HXX.out.2.2.2]
        rw [hsup] at H7
        have HAO := Lib.hid (And.intro (show XA.ok by rw [HAB.out.1]; exact balM_ok _ _ _) (show XT.ok by rw [HXX.out.2.1]; exact balM_ok _ _ _))
        have q1 := fun W => neq4 XS XS W
        rw [eqB_refl] at q1
        unfold U4.val at H7
        unfold U4.cells at H7 q1
        clear hsup hu1 hu2 hs0 hs1 hs2 HA5 HUF HOF H5 H6 hS0 hg1 hg2 n12
        by_cases p1 : o = a
        · have f1 : (o.toList == a.toList) = true := by rw [p1]; exact beq_self_eq_true _
          clear p1
          go_wp2_with fail
          refine wp_region_held_drew (S := BelS Wb2.drew) (by kernel_rfl) (BelS.refl _) (fun hS0 => ?_)
          refine wpAnyH_take (i := 0) (oi := _) (v := ?_) rfl (by kernel_rfl) (by kernel_rfl) (by kernel_rfl) (fun _ _ _ h => h) (Or.inl ⟨by rfl, ?_⟩) hS0 ?_
          rotate_left
          · intro W hSW
            try go_simp
            all_goals with_reducible rfl
          simp only [Act.put, List.setIfInBounds_toArray, List.set_cons_zero, List.set_cons_succ, List.getElem_toArray, List.getElem_cons_zero, List.getElem_cons_succ]
          refine wpAnyH_take (i := 1) (oi := _) (v := ?_) rfl (by kernel_rfl) (by kernel_rfl) (by kernel_rfl) (fun _ _ _ h => h) (Or.inl ⟨by rfl, ?_⟩) hS0 ?_
          rotate_left
          · intro W hSW
            try go_simp
            all_goals with_reducible rfl
          simp only [Act.put, List.setIfInBounds_toArray, List.set_cons_zero, List.set_cons_succ, List.getElem_toArray, List.getElem_cons_zero, List.getElem_cons_succ]
          refine wpAnyH_take (i := 2) (oi := _) (v := ?_) rfl (by kernel_rfl) (by kernel_rfl) (by kernel_rfl) (fun _ _ _ h => h) (Or.inl ⟨by rfl, ?_⟩) hS0 ?_
          rotate_left
          · intro W hSW
            obtain ⟨c0, c1, c2, c3, c4, c5, c6, c7, s0, s1, s2, s3, t0, t1, t2, t3, u0, u1, u2, u3, v0, v1, v2, v3, p0, p1, p2, p3, q0, q1, q2, q3⟩ := HX.out W hSW
            try go_simp
            all_goals with_reducible rfl
          simp only [Act.put, List.setIfInBounds_toArray, List.set_cons_zero, List.set_cons_succ, List.getElem_toArray, List.getElem_cons_zero, List.getElem_cons_succ]
          refine wpAnyH_take (i := 4) (oi := _) (v := ?_) rfl (by kernel_rfl) (by kernel_rfl) (by kernel_rfl) (fun _ _ _ h => h) (Or.inl ⟨by rfl, ?_⟩) hS0 ?_
          rotate_left
          · intro W hSW
            obtain ⟨c0, c1, c2, c3, c4, c5, c6, c7, s0, s1, s2, s3, t0, t1, t2, t3, u0, u1, u2, u3, v0, v1, v2, v3, p0, p1, p2, p3, q0, q1, q2, q3⟩ := HX.out W hSW
            try go_simp
            all_goals with_reducible rfl
          simp only [Act.put, List.setIfInBounds_toArray, List.set_cons_zero, List.set_cons_succ, List.getElem_toArray, List.getElem_cons_zero, List.getElem_cons_succ]
          refine wpAnyH_ready (rs := [3]) (by kernel_rfl) (by simp) (AllReadyH.cons rfl (fun K hK => ?_) AllReadyH.nil)
          go_simp
          go_wp2_with ((go_at_call 9; (with_reducible refine (H7.out _ hS0).mono ?_); rintro e w7 ⟨rfl, hb'⟩))
          have hb7 := below_chain hS0 hS0.size hb'
          refine hK.out _ _ hb7 (fun hS1 => ?_)
          clear hK K
          refine wpAnyH_take (i := 5) (oi := _) (v := ?_) rfl (by kernel_rfl) (by kernel_rfl) (by kernel_rfl) (fun _ _ _ h => h) (Or.inl ⟨by rfl, ?_⟩) hS1 ?_
          rotate_left
          · intro W hSW
            try go_simp
            all_goals with_reducible rfl
          simp only [Act.put, List.setIfInBounds_toArray, List.set_cons_zero, List.set_cons_succ, List.getElem_toArray, List.getElem_cons_zero, List.getElem_cons_succ]
          refine wpAnyH_take (i := 6) (oi := _) (v := ?_) rfl (by kernel_rfl) (by kernel_rfl) (by kernel_rfl) (fun _ _ _ h => h) (Or.inl ⟨by rfl, ?_⟩) hS1 ?_
          rotate_left
          · intro W hSW
            try go_simp
            all_goals with_reducible rfl
          simp only [Act.put, List.setIfInBounds_toArray, List.set_cons_zero, List.set_cons_succ, List.getElem_toArray, List.getElem_cons_zero, List.getElem_cons_succ]
          refine wpAnyH_take (i := 7) (oi := _) (v := ?_) rfl (by kernel_rfl) (by kernel_rfl) (by kernel_rfl) (fun _ _ _ h => h) (Or.inl ⟨by rfl, ?_⟩) hS1 ?_
          rotate_left
          · intro W hSW
            try go_simp
            all_goals with_reducible rfl
          simp only [Act.put, List.setIfInBounds_toArray, List.set_cons_zero, List.set_cons_succ, List.getElem_toArray, List.getElem_cons_zero, List.getElem_cons_succ]
          refine wpAnyH_take (i := 8) (oi := _) (v := ?_) rfl (by kernel_rfl) (by kernel_rfl) (by kernel_rfl) (fun _ _ _ h => h) (Or.inl ⟨by rfl, ?_⟩) hS1 ?_
          rotate_left
          · intro W hSW
            try go_simp
            all_goals with_reducible rfl
          simp only [Act.put, List.setIfInBounds_toArray, List.set_cons_zero, List.set_cons_succ, List.getElem_toArray, List.getElem_cons_zero, List.getElem_cons_succ]
          refine wpAnyH_take (i := 9) (oi := _) (v := ?_) rfl (by kernel_rfl) (by kernel_rfl) (by kernel_rfl) (fun _ _ _ h => h) (Or.inl ⟨by rfl, ?_⟩) hS1 ?_
          rotate_left
          · intro W hSW
            obtain ⟨c0, c1, c2, c3, c4, c5, c6, c7, s0, s1, s2, s3, t0, t1, t2, t3, u0, u1, u2, u3, v0, v1, v2, v3, p0, p1, p2, p3, q0, q1, q2, q3⟩ := HX.out W hSW
            try go_simp
            all_goals with_reducible rfl
          simp only [Act.put, List.setIfInBounds_toArray, List.set_cons_zero, List.set_cons_succ, List.getElem_toArray, List.getElem_cons_zero, List.getElem_cons_succ]
          refine wpAnyH_take (i := 10) (oi := _) (v := ?_) rfl (by kernel_rfl) (by kernel_rfl) (by kernel_rfl) (fun _ _ _ h => h) (Or.inl ⟨by rfl, ?_⟩) hS1 ?_
          rotate_left
          · intro W hSW
            try go_simp
            all_goals with_reducible rfl
          simp only [Act.put, List.setIfInBounds_toArray, List.set_cons_zero, List.set_cons_succ, List.getElem_toArray, List.getElem_cons_zero, List.getElem_cons_succ]
          refine wpAnyH_take (i := 11) (oi := _) (v := ?_) rfl (by kernel_rfl) (by kernel_rfl) (by kernel_rfl) (fun _ _ _ h => h) (Or.inl ⟨by rfl, ?_⟩) hS1 ?_
          rotate_left
          · intro W hSW
            try go_simp
            all_goals with_reducible rfl
          simp only [Act.put, List.setIfInBounds_toArray, List.set_cons_zero, List.set_cons_succ, List.getElem_toArray, List.getElem_cons_zero, List.getElem_cons_succ]
          refine wpAnyH_take (i := 12) (oi := _) (v := undef) rfl (by kernel_rfl) (by kernel_rfl) (by kernel_rfl) (fun _ _ _ h => h) (Or.inr ⟨by rfl, rfl⟩) hS1 ?_
          simp only [Act.put, List.setIfInBounds_toArray, List.set_cons_zero, List.set_cons_succ, List.getElem_toArray, List.getElem_cons_zero, List.getElem_cons_succ]
          refine wpAnyH_take (i := 13) (oi := _) (v := undef) rfl (by kernel_rfl) (by kernel_rfl) (by kernel_rfl) (fun _ _ _ h => h) (Or.inr ⟨by rfl, rfl⟩) hS1 ?_
          simp only [Act.put, List.setIfInBounds_toArray, List.set_cons_zero, List.set_cons_succ, List.getElem_toArray, List.getElem_cons_zero, List.getElem_cons_succ]
          refine wpAnyH_take (i := 14) (oi := _) (v := undef) rfl (by kernel_rfl) (by kernel_rfl) (by kernel_rfl) (fun _ _ _ h => h) (Or.inr ⟨by rfl, rfl⟩) hS1 ?_
          simp only [Act.put, List.setIfInBounds_toArray, List.set_cons_zero, List.set_cons_succ, List.getElem_toArray, List.getElem_cons_zero, List.getElem_cons_succ]
          refine wpAnyH_take (i := 15) (oi := _) (v := undef) rfl (by kernel_rfl) (by kernel_rfl) (by kernel_rfl) (fun _ _ _ h => h) (Or.inr ⟨by rfl, rfl⟩) hS1 ?_
          simp only [Act.put, List.setIfInBounds_toArray, List.set_cons_zero, List.set_cons_succ, List.getElem_toArray, List.getElem_cons_zero, List.getElem_cons_succ]
          refine wpAnyH_take (i := 16) (oi := _) (v := ?_) rfl (by kernel_rfl) (by kernel_rfl) (by kernel_rfl) (fun _ _ _ h => h) (Or.inl ⟨by rfl, ?_⟩) hS1 ?_
          rotate_left
          · intro W hSW
            try go_simp
            all_goals with_reducible rfl
          simp only [Act.put, List.setIfInBounds_toArray, List.set_cons_zero, List.set_cons_succ, List.getElem_toArray, List.getElem_cons_zero, List.getElem_cons_succ]
          refine wpAnyH_take (i := 17) (oi := _) (v := ?_) rfl (by kernel_rfl) (by kernel_rfl) (by kernel_rfl) (fun _ _ _ h => h) (Or.inl ⟨by rfl, ?_⟩) hS1 ?_
          rotate_left
          · intro W hSW
            try go_simp
            all_goals with_reducible rfl
          simp only [Act.put, List.setIfInBounds_toArray, List.set_cons_zero, List.set_cons_succ, List.getElem_toArray, List.getElem_cons_zero, List.getElem_cons_succ]
          refine wpAnyH_take (i := 18) (oi := _) (v := undef) rfl (by kernel_rfl) (by kernel_rfl) (by kernel_rfl) (fun _ _ _ h => h) (Or.inr ⟨by rfl, rfl⟩) hS1 ?_
          simp only [Act.put, List.setIfInBounds_toArray, List.set_cons_zero, List.set_cons_succ, List.getElem_toArray, List.getElem_cons_zero, List.getElem_cons_succ]
          refine wpAnyH_take (i := 19) (oi := _) (v := undef) rfl (by kernel_rfl) (by kernel_rfl) (by kernel_rfl) (fun _ _ _ h => h) (Or.inr ⟨by rfl, rfl⟩) hS1 ?_
          simp only [Act.put, List.setIfInBounds_toArray, List.set_cons_zero, List.set_cons_succ, List.getElem_toArray, List.getElem_cons_zero, List.getElem_cons_succ]
          refine wpAnyH_take (i := 20) (oi := _) (v := undef) rfl (by kernel_rfl) (by kernel_rfl) (by kernel_rfl) (fun _ _ _ h => h) (Or.inr ⟨by rfl, rfl⟩) hS1 ?_
          simp only [Act.put, List.setIfInBounds_toArray, List.set_cons_zero, List.set_cons_succ, List.getElem_toArray, List.getElem_cons_zero, List.getElem_cons_succ]
          refine wpAnyH_take (i := 21) (oi := _) (v := undef) rfl (by kernel_rfl) (by kernel_rfl) (by kernel_rfl) (fun _ _ _ h => h) (Or.inr ⟨by rfl, rfl⟩) hS1 ?_
          simp only [Act.put, List.setIfInBounds_toArray, List.set_cons_zero, List.set_cons_succ, List.getElem_toArray, List.getElem_cons_zero, List.getElem_cons_succ]
          refine wpAnyH_take (i := 22) (oi := _) (v := undef) rfl (by kernel_rfl) (by kernel_rfl) (by kernel_rfl) (fun _ _ _ h => h) (Or.inr ⟨by rfl, rfl⟩) hS1 ?_
          simp only [Act.put, List.setIfInBounds_toArray, List.set_cons_zero, List.set_cons_succ, List.getElem_toArray, List.getElem_cons_zero, List.getElem_cons_succ]
          refine wpAnyH_take (i := 23) (oi := _) (v := undef) rfl (by kernel_rfl) (by kernel_rfl) (by kernel_rfl) (fun _ _ _ h => h) (Or.inr ⟨by rfl, rfl⟩) hS1 ?_
          simp only [Act.put, List.setIfInBounds_toArray, List.set_cons_zero, List.set_cons_succ, List.getElem_toArray, List.getElem_cons_zero, List.getElem_cons_succ]
          refine wpAnyH_take (i := 24) (oi := _) (v := undef) rfl (by kernel_rfl) (by kernel_rfl) (by kernel_rfl) (fun _ _ _ h => h) (Or.inr ⟨by rfl, rfl⟩) hS1 ?_
          simp only [Act.put, List.setIfInBounds_toArray, List.set_cons_zero, List.set_cons_succ, List.getElem_toArray, List.getElem_cons_zero, List.getElem_cons_succ]
          refine wpAnyH_take (i := 25) (oi := _) (v := ?_) rfl (by kernel_rfl) (by kernel_rfl) (by kernel_rfl) (fun _ _ _ h => h) (Or.inl ⟨by rfl, ?_⟩) hS1 ?_
          rotate_left
          · intro W hSW
            try go_simp
            all_goals with_reducible rfl
          simp only [Act.put, List.setIfInBounds_toArray, List.set_cons_zero, List.set_cons_succ, List.getElem_toArray, List.getElem_cons_zero, List.getElem_cons_succ]
          refine wpAnyH_take (i := 26) (oi := _) (v := ?_) rfl (by kernel_rfl) (by kernel_rfl) (by kernel_rfl) (fun _ _ _ h => h) (Or.inl ⟨by rfl, ?_⟩) hS1 ?_
          rotate_left
          · intro W hSW
            try go_simp
            all_goals with_reducible rfl
          simp only [Act.put, List.setIfInBounds_toArray, List.set_cons_zero, List.set_cons_succ, List.getElem_toArray, List.getElem_cons_zero, List.getElem_cons_succ]
          refine wpAnyH_done (by kernel_rfl) ?_ _
          clear q1 H7 H8
          by_cases e0 : E = 0
          · by_cases eab : a = b
            · have fab : (a.toList == b.toList) = true := by rw [eab]; exact beq_self_eq_true _
              have hst : R = ps := by rw [HEE.out.2]; exact send_still (Or.inr eab)
              have q3 := fun W => eql4 XA XF W
              have q4 := fun W => eql4 XB XT W
              rw [eqB_iff.2 (show XA = XF by rw [HAB.out.1, HXX.out.1, hst])] at q3
              rw [eqB_iff.2 (show XB = XT by rw [HAB.out.2, HXX.out.2.1, hst])] at q4
              unfold U4.cells at q3 q4
              clear hst
              clear eab
              subst e0
              obtain ⟨c0, c1, c2, c3, c4, c5, c6, c7, s0, s1, s2, s3, t0, t1, t2, t3, u0, u1, u2, u3, v0, v1, v2, v3, p0, p1, p2, p3, q0, q1, q2, q3⟩ := HX.out _ hS1
              go_wp2_with fail
              go_ret
              exact ⟨rfl, HF.out _ hS1⟩
            · have fab : (a.toList == b.toList) = false := beq_toList_ne eab
              obtain ⟨k1, k2⟩ := send_diff (R := ps) (a := a) (b := b) (d := d) (x := x) (by rw [← HEE.out.1]; exact e0) eab
              rw [← HEE.out.2, ← HAB.out.1, ← HXX.out.1] at k1
              rw [← HEE.out.2, ← HAB.out.2, ← HXX.out.2.1] at k2
              have HD1 := Lib.hid (fun W => radd_any XA x W HAO.out.1 hx)
              have HD2 := Lib.hid (fun W => radd_any XT x W HAO.out.2 hx)
              simp only [k1] at HD1
              simp only [k2] at HD2
              have q3 := fun W => eql4 XF XF W
              have q4 := fun W => eql4 XB XB W
              rw [eqB_refl] at q3 q4
              unfold U4.val at HD1 HD2
              unfold U4.cells at HD1 HD2 q3 q4
              clear k1 k2 eab
              subst e0
              obtain ⟨c0, c1, c2, c3, c4, c5, c6, c7, s0, s1, s2, s3, t0, t1, t2, t3, u0, u1, u2, u3, v0, v1, v2, v3, p0, p1, p2, p3, q0, q1, q2, q3⟩ := HX.out _ hS1
              go_wp2_with fail
              refine (HD1.out _).mono ?_
              rintro e y1 ⟨rfl, hy1⟩
              have hyA := below_chain (below_chain hS1 hS1.size hy1) (below_chain hS1 hS1.size hy1).size ((Below.refl _ _).alloc (Nat.le_refl _) (.cells #[.int .u64 (XF.a : Int), .int .u64 (XF.b : Int), .int .u64 (XF.c : Int), .int .u64 (XF.d : Int)] 25))
              have hl1 := LBlk.new y1 XF.cells
              unfold U4.cells at hl1
              clear HD1 hy1 c0 c1 c2 c3 c4 c5 c6 c7 s0 s1 s2 s3 t0 t1 t2 t3 u0 u1 u2 u3 v0 v1 v2 v3 p0 p1 p2 p3 q0 q1 q2 q3
              obtain ⟨c0, c1, c2, c3, c4, c5, c6, c7, s0, s1, s2, s3, t0, t1, t2, t3, u0, u1, u2, u3, v0, v1, v2, v3, p0, p1, p2, p3, q0, q1, q2, q3⟩ := HX.out _ hyA
              go_wp2_with fail
              generalize y1.alloc (.cells #[.int .u64 (XF.a : Int), .int .u64 (XF.b : Int), .int .u64 (XF.c : Int), .int .u64 (XF.d : Int)] 25) = y2 at *
              generalize y1.heap.size = gx at *
              refine (HD2.out _).mono ?_
              rintro e y3 ⟨rfl, hy3⟩
              have hyB := below_chain (below_chain hyA hyA.size hy3) (below_chain hyA hyA.size hy3).size ((Below.refl _ _).alloc (Nat.le_refl _) (.cells #[.int .u64 (XB.a : Int), .int .u64 (XB.b : Int), .int .u64 (XB.c : Int), .int .u64 (XB.d : Int)] 25))
              have hl2 := LBlk.new y3 XB.cells
              have hl3 := LBlk.below hl1 hy3 (blk_lt hl1)
              have hl4 := LBlk.below hl3 ((Below.refl _ _).alloc (Nat.le_refl _) (.cells #[.int .u64 (XB.a : Int), .int .u64 (XB.b : Int), .int .u64 (XB.c : Int), .int .u64 (XB.d : Int)] 25)) (blk_lt hl3)
              obtain ⟨m0, m1, m2, m3⟩ := LBlk.all (s := XF) hl4
              obtain ⟨n0, n1, n2, n3⟩ := LBlk.all (s := XB) hl2
              clear HD2 hy3 hl1 hl2 hl3 hl4 c0 c1 c2 c3 c4 c5 c6 c7 s0 s1 s2 s3 t0 t1 t2 t3 u0 u1 u2 u3 v0 v1 v2 v3 p0 p1 p2 p3 q0 q1 q2 q3
              obtain ⟨c0, c1, c2, c3, c4, c5, c6, c7, s0, s1, s2, s3, t0, t1, t2, t3, u0, u1, u2, u3, v0, v1, v2, v3, p0, p1, p2, p3, q0, q1, q2, q3⟩ := HX.out _ hyB
              go_wp2_with fail
              go_ret
              exact ⟨rfl, HF.out _ hyB⟩
          · have hne : (E != 0) = true := by simpa using e0
            have hst : R = ps := by rw [HEE.out.2]; exact send_still (Or.inl (by rw [← HEE.out.1]; exact e0))
            have q3 := fun W => eql4 XA XF W
            have q4 := fun W => eql4 XB XT W
            rw [eqB_iff.2 (show XA = XF by rw [HAB.out.1, HXX.out.1, hst])] at q3
            rw [eqB_iff.2 (show XB = XT by rw [HAB.out.2, HXX.out.2.1, hst])] at q4
            unfold U4.cells at q3 q4
            clear hst
            clear e0
            obtain ⟨c0, c1, c2, c3, c4, c5, c6, c7, s0, s1, s2, s3, t0, t1, t2, t3, u0, u1, u2, u3, v0, v1, v2, v3, p0, p1, p2, p3, q0, q1, q2, q3⟩ := HX.out _ hS1
            go_wp2_with fail
            go_ret
            exact ⟨rfl, HF.out _ hS1⟩
        · have f1 : (o.toList == a.toList) = false := beq_toList_ne p1
          by_cases p2 : o = b
          · have f2 : (o.toList == b.toList) = true := by rw [p2]; exact beq_self_eq_true _
            clear p1 p2
            go_wp2_with fail
            refine wp_region_held_drew (S := BelS Wb2.drew) (by kernel_rfl) (BelS.refl _) (fun hS0 => ?_)
            refine wpAnyH_take (i := 0) (oi := _) (v := ?_) rfl (by kernel_rfl) (by kernel_rfl) (by kernel_rfl) (fun _ _ _ h => h) (Or.inl ⟨by rfl, ?_⟩) hS0 ?_
            rotate_left
            · intro W hSW
              try go_simp
              all_goals with_reducible rfl
            simp only [Act.put, List.setIfInBounds_toArray, List.set_cons_zero, List.set_cons_succ, List.getElem_toArray, List.getElem_cons_zero, List.getElem_cons_succ]
            refine wpAnyH_take (i := 1) (oi := _) (v := ?_) rfl (by kernel_rfl) (by kernel_rfl) (by kernel_rfl) (fun _ _ _ h => h) (Or.inl ⟨by rfl, ?_⟩) hS0 ?_
            rotate_left
            · intro W hSW
              try go_simp
              all_goals with_reducible rfl
            simp only [Act.put, List.setIfInBounds_toArray, List.set_cons_zero, List.set_cons_succ, List.getElem_toArray, List.getElem_cons_zero, List.getElem_cons_succ]
            refine wpAnyH_take (i := 2) (oi := _) (v := ?_) rfl (by kernel_rfl) (by kernel_rfl) (by kernel_rfl) (fun _ _ _ h => h) (Or.inl ⟨by rfl, ?_⟩) hS0 ?_
            rotate_left
            · intro W hSW
              obtain ⟨c0, c1, c2, c3, c4, c5, c6, c7, s0, s1, s2, s3, t0, t1, t2, t3, u0, u1, u2, u3, v0, v1, v2, v3, p0, p1, p2, p3, q0, q1, q2, q3⟩ := HX.out W hSW
              try go_simp
              all_goals with_reducible rfl
            simp only [Act.put, List.setIfInBounds_toArray, List.set_cons_zero, List.set_cons_succ, List.getElem_toArray, List.getElem_cons_zero, List.getElem_cons_succ]
            refine wpAnyH_take (i := 4) (oi := _) (v := ?_) rfl (by kernel_rfl) (by kernel_rfl) (by kernel_rfl) (fun _ _ _ h => h) (Or.inl ⟨by rfl, ?_⟩) hS0 ?_
            rotate_left
            · intro W hSW
              obtain ⟨c0, c1, c2, c3, c4, c5, c6, c7, s0, s1, s2, s3, t0, t1, t2, t3, u0, u1, u2, u3, v0, v1, v2, v3, p0, p1, p2, p3, q0, q1, q2, q3⟩ := HX.out W hSW
              try go_simp
              all_goals with_reducible rfl
            simp only [Act.put, List.setIfInBounds_toArray, List.set_cons_zero, List.set_cons_succ, List.getElem_toArray, List.getElem_cons_zero, List.getElem_cons_succ]
            refine wpAnyH_ready (rs := [3]) (by kernel_rfl) (by simp) (AllReadyH.cons rfl (fun K hK => ?_) AllReadyH.nil)
            go_simp
            go_wp2_with ((go_at_call 9; (with_reducible refine (H7.out _ hS0).mono ?_); rintro e w7 ⟨rfl, hb'⟩))
            have hb7 := below_chain hS0 hS0.size hb'
            refine hK.out _ _ hb7 (fun hS1 => ?_)
            clear hK K
            refine wpAnyH_take (i := 5) (oi := _) (v := ?_) rfl (by kernel_rfl) (by kernel_rfl) (by kernel_rfl) (fun _ _ _ h => h) (Or.inl ⟨by rfl, ?_⟩) hS1 ?_
            rotate_left
            · intro W hSW
              try go_simp
              all_goals with_reducible rfl
            simp only [Act.put, List.setIfInBounds_toArray, List.set_cons_zero, List.set_cons_succ, List.getElem_toArray, List.getElem_cons_zero, List.getElem_cons_succ]
            refine wpAnyH_take (i := 6) (oi := _) (v := ?_) rfl (by kernel_rfl) (by kernel_rfl) (by kernel_rfl) (fun _ _ _ h => h) (Or.inl ⟨by rfl, ?_⟩) hS1 ?_
            rotate_left
            · intro W hSW
              try go_simp
              all_goals with_reducible rfl
            simp only [Act.put, List.setIfInBounds_toArray, List.set_cons_zero, List.set_cons_succ, List.getElem_toArray, List.getElem_cons_zero, List.getElem_cons_succ]
            refine wpAnyH_take (i := 7) (oi := _) (v := ?_) rfl (by kernel_rfl) (by kernel_rfl) (by kernel_rfl) (fun _ _ _ h => h) (Or.inl ⟨by rfl, ?_⟩) hS1 ?_
            rotate_left
            · intro W hSW
              try go_simp
              all_goals with_reducible rfl
            simp only [Act.put, List.setIfInBounds_toArray, List.set_cons_zero, List.set_cons_succ, List.getElem_toArray, List.getElem_cons_zero, List.getElem_cons_succ]
            refine wpAnyH_take (i := 8) (oi := _) (v := ?_) rfl (by kernel_rfl) (by kernel_rfl) (by kernel_rfl) (fun _ _ _ h => h) (Or.inl ⟨by rfl, ?_⟩) hS1 ?_
            rotate_left
            · intro W hSW
              try go_simp
              all_goals with_reducible rfl
            simp only [Act.put, List.setIfInBounds_toArray, List.set_cons_zero, List.set_cons_succ, List.getElem_toArray, List.getElem_cons_zero, List.getElem_cons_succ]
            refine wpAnyH_take (i := 9) (oi := _) (v := ?_) rfl (by kernel_rfl) (by kernel_rfl) (by kernel_rfl) (fun _ _ _ h => h) (Or.inl ⟨by rfl, ?_⟩) hS1 ?_
            rotate_left
            · intro W hSW
              obtain ⟨c0, c1, c2, c3, c4, c5, c6, c7, s0, s1, s2, s3, t0, t1, t2, t3, u0, u1, u2, u3, v0, v1, v2, v3, p0, p1, p2, p3, q0, q1, q2, q3⟩ := HX.out W hSW
              try go_simp
              all_goals with_reducible rfl
            simp only [Act.put, List.setIfInBounds_toArray, List.set_cons_zero, List.set_cons_succ, List.getElem_toArray, List.getElem_cons_zero, List.getElem_cons_succ]
            refine wpAnyH_take (i := 10) (oi := _) (v := ?_) rfl (by kernel_rfl) (by kernel_rfl) (by kernel_rfl) (fun _ _ _ h => h) (Or.inl ⟨by rfl, ?_⟩) hS1 ?_
            rotate_left
            · intro W hSW
              try go_simp
              all_goals with_reducible rfl
            simp only [Act.put, List.setIfInBounds_toArray, List.set_cons_zero, List.set_cons_succ, List.getElem_toArray, List.getElem_cons_zero, List.getElem_cons_succ]
            refine wpAnyH_take (i := 11) (oi := _) (v := ?_) rfl (by kernel_rfl) (by kernel_rfl) (by kernel_rfl) (fun _ _ _ h => h) (Or.inl ⟨by rfl, ?_⟩) hS1 ?_
            rotate_left
            · intro W hSW
              try go_simp
              all_goals with_reducible rfl
            simp only [Act.put, List.setIfInBounds_toArray, List.set_cons_zero, List.set_cons_succ, List.getElem_toArray, List.getElem_cons_zero, List.getElem_cons_succ]
            refine wpAnyH_take (i := 12) (oi := _) (v := ?_) rfl (by kernel_rfl) (by kernel_rfl) (by kernel_rfl) (fun _ _ _ h => h) (Or.inl ⟨by rfl, ?_⟩) hS1 ?_
            rotate_left
            · intro W hSW
              try go_simp
              all_goals with_reducible rfl
            simp only [Act.put, List.setIfInBounds_toArray, List.set_cons_zero, List.set_cons_succ, List.getElem_toArray, List.getElem_cons_zero, List.getElem_cons_succ]
            refine wpAnyH_take (i := 13) (oi := _) (v := ?_) rfl (by kernel_rfl) (by kernel_rfl) (by kernel_rfl) (fun _ _ _ h => h) (Or.inl ⟨by rfl, ?_⟩) hS1 ?_
            rotate_left
            · intro W hSW
              try go_simp
              all_goals with_reducible rfl
            simp only [Act.put, List.setIfInBounds_toArray, List.set_cons_zero, List.set_cons_succ, List.getElem_toArray, List.getElem_cons_zero, List.getElem_cons_succ]
            refine wpAnyH_take (i := 14) (oi := _) (v := ?_) rfl (by kernel_rfl) (by kernel_rfl) (by kernel_rfl) (fun _ _ _ h => h) (Or.inl ⟨by rfl, ?_⟩) hS1 ?_
            rotate_left
            · intro W hSW
              obtain ⟨c0, c1, c2, c3, c4, c5, c6, c7, s0, s1, s2, s3, t0, t1, t2, t3, u0, u1, u2, u3, v0, v1, v2, v3, p0, p1, p2, p3, q0, q1, q2, q3⟩ := HX.out W hSW
              try go_simp
              all_goals with_reducible rfl
            simp only [Act.put, List.setIfInBounds_toArray, List.set_cons_zero, List.set_cons_succ, List.getElem_toArray, List.getElem_cons_zero, List.getElem_cons_succ]
            refine wpAnyH_take (i := 15) (oi := _) (v := ?_) rfl (by kernel_rfl) (by kernel_rfl) (by kernel_rfl) (fun _ _ _ h => h) (Or.inl ⟨by rfl, ?_⟩) hS1 ?_
            rotate_left
            · intro W hSW
              try go_simp
              all_goals with_reducible rfl
            simp only [Act.put, List.setIfInBounds_toArray, List.set_cons_zero, List.set_cons_succ, List.getElem_toArray, List.getElem_cons_zero, List.getElem_cons_succ]
            refine wpAnyH_take (i := 16) (oi := _) (v := ?_) rfl (by kernel_rfl) (by kernel_rfl) (by kernel_rfl) (fun _ _ _ h => h) (Or.inl ⟨by rfl, ?_⟩) hS1 ?_
            rotate_left
            · intro W hSW
              try go_simp
              all_goals with_reducible rfl
            simp only [Act.put, List.setIfInBounds_toArray, List.set_cons_zero, List.set_cons_succ, List.getElem_toArray, List.getElem_cons_zero, List.getElem_cons_succ]
            refine wpAnyH_take (i := 17) (oi := _) (v := ?_) rfl (by kernel_rfl) (by kernel_rfl) (by kernel_rfl) (fun _ _ _ h => h) (Or.inl ⟨by rfl, ?_⟩) hS1 ?_
            rotate_left
            · intro W hSW
              try go_simp
              all_goals with_reducible rfl
            simp only [Act.put, List.setIfInBounds_toArray, List.set_cons_zero, List.set_cons_succ, List.getElem_toArray, List.getElem_cons_zero, List.getElem_cons_succ]
            refine wpAnyH_take (i := 18) (oi := _) (v := undef) rfl (by kernel_rfl) (by kernel_rfl) (by kernel_rfl) (fun _ _ _ h => h) (Or.inr ⟨by rfl, rfl⟩) hS1 ?_
            simp only [Act.put, List.setIfInBounds_toArray, List.set_cons_zero, List.set_cons_succ, List.getElem_toArray, List.getElem_cons_zero, List.getElem_cons_succ]
            refine wpAnyH_take (i := 19) (oi := _) (v := undef) rfl (by kernel_rfl) (by kernel_rfl) (by kernel_rfl) (fun _ _ _ h => h) (Or.inr ⟨by rfl, rfl⟩) hS1 ?_
            simp only [Act.put, List.setIfInBounds_toArray, List.set_cons_zero, List.set_cons_succ, List.getElem_toArray, List.getElem_cons_zero, List.getElem_cons_succ]
            refine wpAnyH_take (i := 20) (oi := _) (v := undef) rfl (by kernel_rfl) (by kernel_rfl) (by kernel_rfl) (fun _ _ _ h => h) (Or.inr ⟨by rfl, rfl⟩) hS1 ?_
            simp only [Act.put, List.setIfInBounds_toArray, List.set_cons_zero, List.set_cons_succ, List.getElem_toArray, List.getElem_cons_zero, List.getElem_cons_succ]
            refine wpAnyH_take (i := 21) (oi := _) (v := undef) rfl (by kernel_rfl) (by kernel_rfl) (by kernel_rfl) (fun _ _ _ h => h) (Or.inr ⟨by rfl, rfl⟩) hS1 ?_
            simp only [Act.put, List.setIfInBounds_toArray, List.set_cons_zero, List.set_cons_succ, List.getElem_toArray, List.getElem_cons_zero, List.getElem_cons_succ]
            refine wpAnyH_take (i := 22) (oi := _) (v := undef) rfl (by kernel_rfl) (by kernel_rfl) (by kernel_rfl) (fun _ _ _ h => h) (Or.inr ⟨by rfl, rfl⟩) hS1 ?_
            simp only [Act.put, List.setIfInBounds_toArray, List.set_cons_zero, List.set_cons_succ, List.getElem_toArray, List.getElem_cons_zero, List.getElem_cons_succ]
            refine wpAnyH_take (i := 23) (oi := _) (v := undef) rfl (by kernel_rfl) (by kernel_rfl) (by kernel_rfl) (fun _ _ _ h => h) (Or.inr ⟨by rfl, rfl⟩) hS1 ?_
            simp only [Act.put, List.setIfInBounds_toArray, List.set_cons_zero, List.set_cons_succ, List.getElem_toArray, List.getElem_cons_zero, List.getElem_cons_succ]
            refine wpAnyH_take (i := 24) (oi := _) (v := undef) rfl (by kernel_rfl) (by kernel_rfl) (by kernel_rfl) (fun _ _ _ h => h) (Or.inr ⟨by rfl, rfl⟩) hS1 ?_
            simp only [Act.put, List.setIfInBounds_toArray, List.set_cons_zero, List.set_cons_succ, List.getElem_toArray, List.getElem_cons_zero, List.getElem_cons_succ]
            refine wpAnyH_take (i := 25) (oi := _) (v := ?_) rfl (by kernel_rfl) (by kernel_rfl) (by kernel_rfl) (fun _ _ _ h => h) (Or.inl ⟨by rfl, ?_⟩) hS1 ?_
            rotate_left
            · intro W hSW
              try go_simp
              all_goals with_reducible rfl
            simp only [Act.put, List.setIfInBounds_toArray, List.set_cons_zero, List.set_cons_succ, List.getElem_toArray, List.getElem_cons_zero, List.getElem_cons_succ]
            refine wpAnyH_take (i := 26) (oi := _) (v := ?_) rfl (by kernel_rfl) (by kernel_rfl) (by kernel_rfl) (fun _ _ _ h => h) (Or.inl ⟨by rfl, ?_⟩) hS1 ?_
            rotate_left
            · intro W hSW
              try go_simp
              all_goals with_reducible rfl
            simp only [Act.put, List.setIfInBounds_toArray, List.set_cons_zero, List.set_cons_succ, List.getElem_toArray, List.getElem_cons_zero, List.getElem_cons_succ]
            refine wpAnyH_done (by kernel_rfl) ?_ _
            clear q1 H7 H8
            by_cases e0 : E = 0
            · by_cases eab : a = b
              · have fab : (a.toList == b.toList) = true := by rw [eab]; exact beq_self_eq_true _
                have hst : R = ps := by rw [HEE.out.2]; exact send_still (Or.inr eab)
                have q3 := fun W => eql4 XA XF W
                have q4 := fun W => eql4 XB XT W
                rw [eqB_iff.2 (show XA = XF by rw [HAB.out.1, HXX.out.1, hst])] at q3
                rw [eqB_iff.2 (show XB = XT by rw [HAB.out.2, HXX.out.2.1, hst])] at q4
                unfold U4.cells at q3 q4
                clear hst
                clear eab
                subst e0
                obtain ⟨c0, c1, c2, c3, c4, c5, c6, c7, s0, s1, s2, s3, t0, t1, t2, t3, u0, u1, u2, u3, v0, v1, v2, v3, p0, p1, p2, p3, q0, q1, q2, q3⟩ := HX.out _ hS1
                go_wp2_with fail
                go_ret
                exact ⟨rfl, HF.out _ hS1⟩
              · have fab : (a.toList == b.toList) = false := beq_toList_ne eab
                obtain ⟨k1, k2⟩ := send_diff (R := ps) (a := a) (b := b) (d := d) (x := x) (by rw [← HEE.out.1]; exact e0) eab
                rw [← HEE.out.2, ← HAB.out.1, ← HXX.out.1] at k1
                rw [← HEE.out.2, ← HAB.out.2, ← HXX.out.2.1] at k2
                have HD1 := Lib.hid (fun W => radd_any XA x W HAO.out.1 hx)
                have HD2 := Lib.hid (fun W => radd_any XT x W HAO.out.2 hx)
                simp only [k1] at HD1
                simp only [k2] at HD2
                have q3 := fun W => eql4 XF XF W
                have q4 := fun W => eql4 XB XB W
                rw [eqB_refl] at q3 q4
                unfold U4.val at HD1 HD2
                unfold U4.cells at HD1 HD2 q3 q4
                clear k1 k2 eab
                subst e0
                obtain ⟨c0, c1, c2, c3, c4, c5, c6, c7, s0, s1, s2, s3, t0, t1, t2, t3, u0, u1, u2, u3, v0, v1, v2, v3, p0, p1, p2, p3, q0, q1, q2, q3⟩ := HX.out _ hS1
                go_wp2_with fail
                refine (HD1.out _).mono ?_
                rintro e y1 ⟨rfl, hy1⟩
                have hyA := below_chain (below_chain hS1 hS1.size hy1) (below_chain hS1 hS1.size hy1).size ((Below.refl _ _).alloc (Nat.le_refl _) (.cells #[.int .u64 (XF.a : Int), .int .u64 (XF.b : Int), .int .u64 (XF.c : Int), .int .u64 (XF.d : Int)] 25))
                have hl1 := LBlk.new y1 XF.cells
                unfold U4.cells at hl1
                clear HD1 hy1 c0 c1 c2 c3 c4 c5 c6 c7 s0 s1 s2 s3 t0 t1 t2 t3 u0 u1 u2 u3 v0 v1 v2 v3 p0 p1 p2 p3 q0 q1 q2 q3
                obtain ⟨c0, c1, c2, c3, c4, c5, c6, c7, s0, s1, s2, s3, t0, t1, t2, t3, u0, u1, u2, u3, v0, v1, v2, v3, p0, p1, p2, p3, q0, q1, q2, q3⟩ := HX.out _ hyA
                go_wp2_with fail
                generalize y1.alloc (.cells #[.int .u64 (XF.a : Int), .int .u64 (XF.b : Int), .int .u64 (XF.c : Int), .int .u64 (XF.d : Int)] 25) = y2 at *
                generalize y1.heap.size = gx at *
                refine (HD2.out _).mono ?_
                rintro e y3 ⟨rfl, hy3⟩
                have hyB := below_chain (below_chain hyA hyA.size hy3) (below_chain hyA hyA.size hy3).size ((Below.refl _ _).alloc (Nat.le_refl _) (.cells #[.int .u64 (XB.a : Int), .int .u64 (XB.b : Int), .int .u64 (XB.c : Int), .int .u64 (XB.d : Int)] 25))
                have hl2 := LBlk.new y3 XB.cells
                have hl3 := LBlk.below hl1 hy3 (blk_lt hl1)
                have hl4 := LBlk.below hl3 ((Below.refl _ _).alloc (Nat.le_refl _) (.cells #[.int .u64 (XB.a : Int), .int .u64 (XB.b : Int), .int .u64 (XB.c : Int), .int .u64 (XB.d : Int)] 25)) (blk_lt hl3)
                obtain ⟨m0, m1, m2, m3⟩ := LBlk.all (s := XF) hl4
                obtain ⟨n0, n1, n2, n3⟩ := LBlk.all (s := XB) hl2
                clear HD2 hy3 hl1 hl2 hl3 hl4 c0 c1 c2 c3 c4 c5 c6 c7 s0 s1 s2 s3 t0 t1 t2 t3 u0 u1 u2 u3 v0 v1 v2 v3 p0 p1 p2 p3 q0 q1 q2 q3
                obtain ⟨c0, c1, c2, c3, c4, c5, c6, c7, s0, s1, s2, s3, t0, t1, t2, t3, u0, u1, u2, u3, v0, v1, v2, v3, p0, p1, p2, p3, q0, q1, q2, q3⟩ := HX.out _ hyB
                go_wp2_with fail
                go_ret
                exact ⟨rfl, HF.out _ hyB⟩
            · have hne : (E != 0) = true := by simpa using e0
              have hst : R = ps := by rw [HEE.out.2]; exact send_still (Or.inl (by rw [← HEE.out.1]; exact e0))
              have q3 := fun W => eql4 XA XF W
              have q4 := fun W => eql4 XB XT W
              rw [eqB_iff.2 (show XA = XF by rw [HAB.out.1, HXX.out.1, hst])] at q3
              rw [eqB_iff.2 (show XB = XT by rw [HAB.out.2, HXX.out.2.1, hst])] at q4
              unfold U4.cells at q3 q4
              clear hst
              clear e0
              obtain ⟨c0, c1, c2, c3, c4, c5, c6, c7, s0, s1, s2, s3, t0, t1, t2, t3, u0, u1, u2, u3, v0, v1, v2, v3, p0, p1, p2, p3, q0, q1, q2, q3⟩ := HX.out _ hS1
              go_wp2_with fail
              go_ret
              exact ⟨rfl, HF.out _ hS1⟩
          · have f2 : (o.toList == b.toList) = false := beq_toList_ne p2
            have hth : balM R o d = XH := by rw [HEE.out.2, send_third p1 p2, HXX.out.2.2.1]
            rw [hth] at H8
            have q2 := fun W => neq4 XH XH W
            rw [eqB_refl] at q2
            unfold U4.val at H8
            unfold U4.cells at H8 q2
            clear hth p1 p2
            go_wp2_with fail
            refine wp_region_held_drew (S := BelS Wb2.drew) (by kernel_rfl) (BelS.refl _) (fun hS0 => ?_)
            refine wpAnyH_take (i := 0) (oi := _) (v := ?_) rfl (by kernel_rfl) (by kernel_rfl) (by kernel_rfl) (fun _ _ _ h => h) (Or.inl ⟨by rfl, ?_⟩) hS0 ?_
            rotate_left
            · intro W hSW
              try go_simp
              all_goals with_reducible rfl
            simp only [Act.put, List.setIfInBounds_toArray, List.set_cons_zero, List.set_cons_succ, List.getElem_toArray, List.getElem_cons_zero, List.getElem_cons_succ]
            refine wpAnyH_take (i := 1) (oi := _) (v := ?_) rfl (by kernel_rfl) (by kernel_rfl) (by kernel_rfl) (fun _ _ _ h => h) (Or.inl ⟨by rfl, ?_⟩) hS0 ?_
            rotate_left
            · intro W hSW
              try go_simp
              all_goals with_reducible rfl
            simp only [Act.put, List.setIfInBounds_toArray, List.set_cons_zero, List.set_cons_succ, List.getElem_toArray, List.getElem_cons_zero, List.getElem_cons_succ]
            refine wpAnyH_take (i := 2) (oi := _) (v := ?_) rfl (by kernel_rfl) (by kernel_rfl) (by kernel_rfl) (fun _ _ _ h => h) (Or.inl ⟨by rfl, ?_⟩) hS0 ?_
            rotate_left
            · intro W hSW
              obtain ⟨c0, c1, c2, c3, c4, c5, c6, c7, s0, s1, s2, s3, t0, t1, t2, t3, u0, u1, u2, u3, v0, v1, v2, v3, p0, p1, p2, p3, q0, q1, q2, q3⟩ := HX.out W hSW
              try go_simp
              all_goals with_reducible rfl
            simp only [Act.put, List.setIfInBounds_toArray, List.set_cons_zero, List.set_cons_succ, List.getElem_toArray, List.getElem_cons_zero, List.getElem_cons_succ]
            refine wpAnyH_take (i := 4) (oi := _) (v := ?_) rfl (by kernel_rfl) (by kernel_rfl) (by kernel_rfl) (fun _ _ _ h => h) (Or.inl ⟨by rfl, ?_⟩) hS0 ?_
            rotate_left
            · intro W hSW
              obtain ⟨c0, c1, c2, c3, c4, c5, c6, c7, s0, s1, s2, s3, t0, t1, t2, t3, u0, u1, u2, u3, v0, v1, v2, v3, p0, p1, p2, p3, q0, q1, q2, q3⟩ := HX.out W hSW
              try go_simp
              all_goals with_reducible rfl
            simp only [Act.put, List.setIfInBounds_toArray, List.set_cons_zero, List.set_cons_succ, List.getElem_toArray, List.getElem_cons_zero, List.getElem_cons_succ]
            refine wpAnyH_ready (rs := [3]) (by kernel_rfl) (by simp) (AllReadyH.cons rfl (fun K hK => ?_) AllReadyH.nil)
            go_simp
            go_wp2_with ((go_at_call 9; (with_reducible refine (H7.out _ hS0).mono ?_); rintro e w7 ⟨rfl, hb'⟩))
            have hb7 := below_chain hS0 hS0.size hb'
            refine hK.out _ _ hb7 (fun hS1 => ?_)
            clear hK K
            refine wpAnyH_take (i := 5) (oi := _) (v := ?_) rfl (by kernel_rfl) (by kernel_rfl) (by kernel_rfl) (fun _ _ _ h => h) (Or.inl ⟨by rfl, ?_⟩) hS1 ?_
            rotate_left
            · intro W hSW
              try go_simp
              all_goals with_reducible rfl
            simp only [Act.put, List.setIfInBounds_toArray, List.set_cons_zero, List.set_cons_succ, List.getElem_toArray, List.getElem_cons_zero, List.getElem_cons_succ]
            refine wpAnyH_take (i := 6) (oi := _) (v := ?_) rfl (by kernel_rfl) (by kernel_rfl) (by kernel_rfl) (fun _ _ _ h => h) (Or.inl ⟨by rfl, ?_⟩) hS1 ?_
            rotate_left
            · intro W hSW
              try go_simp
              all_goals with_reducible rfl
            simp only [Act.put, List.setIfInBounds_toArray, List.set_cons_zero, List.set_cons_succ, List.getElem_toArray, List.getElem_cons_zero, List.getElem_cons_succ]
            refine wpAnyH_take (i := 7) (oi := _) (v := ?_) rfl (by kernel_rfl) (by kernel_rfl) (by kernel_rfl) (fun _ _ _ h => h) (Or.inl ⟨by rfl, ?_⟩) hS1 ?_
            rotate_left
            · intro W hSW
              try go_simp
              all_goals with_reducible rfl
            simp only [Act.put, List.setIfInBounds_toArray, List.set_cons_zero, List.set_cons_succ, List.getElem_toArray, List.getElem_cons_zero, List.getElem_cons_succ]
            refine wpAnyH_take (i := 8) (oi := _) (v := ?_) rfl (by kernel_rfl) (by kernel_rfl) (by kernel_rfl) (fun _ _ _ h => h) (Or.inl ⟨by rfl, ?_⟩) hS1 ?_
            rotate_left
            · intro W hSW
              try go_simp
              all_goals with_reducible rfl
            simp only [Act.put, List.setIfInBounds_toArray, List.set_cons_zero, List.set_cons_succ, List.getElem_toArray, List.getElem_cons_zero, List.getElem_cons_succ]
            refine wpAnyH_take (i := 9) (oi := _) (v := ?_) rfl (by kernel_rfl) (by kernel_rfl) (by kernel_rfl) (fun _ _ _ h => h) (Or.inl ⟨by rfl, ?_⟩) hS1 ?_
            rotate_left
            · intro W hSW
              obtain ⟨c0, c1, c2, c3, c4, c5, c6, c7, s0, s1, s2, s3, t0, t1, t2, t3, u0, u1, u2, u3, v0, v1, v2, v3, p0, p1, p2, p3, q0, q1, q2, q3⟩ := HX.out W hSW
              try go_simp
              all_goals with_reducible rfl
            simp only [Act.put, List.setIfInBounds_toArray, List.set_cons_zero, List.set_cons_succ, List.getElem_toArray, List.getElem_cons_zero, List.getElem_cons_succ]
            refine wpAnyH_take (i := 10) (oi := _) (v := ?_) rfl (by kernel_rfl) (by kernel_rfl) (by kernel_rfl) (fun _ _ _ h => h) (Or.inl ⟨by rfl, ?_⟩) hS1 ?_
            rotate_left
            · intro W hSW
              try go_simp
              all_goals with_reducible rfl
            simp only [Act.put, List.setIfInBounds_toArray, List.set_cons_zero, List.set_cons_succ, List.getElem_toArray, List.getElem_cons_zero, List.getElem_cons_succ]
            refine wpAnyH_take (i := 11) (oi := _) (v := ?_) rfl (by kernel_rfl) (by kernel_rfl) (by kernel_rfl) (fun _ _ _ h => h) (Or.inl ⟨by rfl, ?_⟩) hS1 ?_
            rotate_left
            · intro W hSW
              try go_simp
              all_goals with_reducible rfl
            simp only [Act.put, List.setIfInBounds_toArray, List.set_cons_zero, List.set_cons_succ, List.getElem_toArray, List.getElem_cons_zero, List.getElem_cons_succ]
            refine wpAnyH_take (i := 12) (oi := _) (v := ?_) rfl (by kernel_rfl) (by kernel_rfl) (by kernel_rfl) (fun _ _ _ h => h) (Or.inl ⟨by rfl, ?_⟩) hS1 ?_
            rotate_left
            · intro W hSW
              try go_simp
              all_goals with_reducible rfl
            simp only [Act.put, List.setIfInBounds_toArray, List.set_cons_zero, List.set_cons_succ, List.getElem_toArray, List.getElem_cons_zero, List.getElem_cons_succ]
            refine wpAnyH_take (i := 13) (oi := _) (v := ?_) rfl (by kernel_rfl) (by kernel_rfl) (by kernel_rfl) (fun _ _ _ h => h) (Or.inl ⟨by rfl, ?_⟩) hS1 ?_
            rotate_left
            · intro W hSW
              try go_simp
              all_goals with_reducible rfl
            simp only [Act.put, List.setIfInBounds_toArray, List.set_cons_zero, List.set_cons_succ, List.getElem_toArray, List.getElem_cons_zero, List.getElem_cons_succ]
            refine wpAnyH_take (i := 14) (oi := _) (v := ?_) rfl (by kernel_rfl) (by kernel_rfl) (by kernel_rfl) (fun _ _ _ h => h) (Or.inl ⟨by rfl, ?_⟩) hS1 ?_
            rotate_left
            · intro W hSW
              obtain ⟨c0, c1, c2, c3, c4, c5, c6, c7, s0, s1, s2, s3, t0, t1, t2, t3, u0, u1, u2, u3, v0, v1, v2, v3, p0, p1, p2, p3, q0, q1, q2, q3⟩ := HX.out W hSW
              try go_simp
              all_goals with_reducible rfl
            simp only [Act.put, List.setIfInBounds_toArray, List.set_cons_zero, List.set_cons_succ, List.getElem_toArray, List.getElem_cons_zero, List.getElem_cons_succ]
            refine wpAnyH_take (i := 15) (oi := _) (v := ?_) rfl (by kernel_rfl) (by kernel_rfl) (by kernel_rfl) (fun _ _ _ h => h) (Or.inl ⟨by rfl, ?_⟩) hS1 ?_
            rotate_left
            · intro W hSW
              try go_simp
              all_goals with_reducible rfl
            simp only [Act.put, List.setIfInBounds_toArray, List.set_cons_zero, List.set_cons_succ, List.getElem_toArray, List.getElem_cons_zero, List.getElem_cons_succ]
            refine wpAnyH_take (i := 16) (oi := _) (v := ?_) rfl (by kernel_rfl) (by kernel_rfl) (by kernel_rfl) (fun _ _ _ h => h) (Or.inl ⟨by rfl, ?_⟩) hS1 ?_
            rotate_left
            · intro W hSW
              try go_simp
              all_goals with_reducible rfl
            simp only [Act.put, List.setIfInBounds_toArray, List.set_cons_zero, List.set_cons_succ, List.getElem_toArray, List.getElem_cons_zero, List.getElem_cons_succ]
            refine wpAnyH_take (i := 17) (oi := _) (v := ?_) rfl (by kernel_rfl) (by kernel_rfl) (by kernel_rfl) (fun _ _ _ h => h) (Or.inl ⟨by rfl, ?_⟩) hS1 ?_
            rotate_left
            · intro W hSW
              try go_simp
              all_goals with_reducible rfl
            simp only [Act.put, List.setIfInBounds_toArray, List.set_cons_zero, List.set_cons_succ, List.getElem_toArray, List.getElem_cons_zero, List.getElem_cons_succ]
            refine wpAnyH_take (i := 18) (oi := _) (v := ?_) rfl (by kernel_rfl) (by kernel_rfl) (by kernel_rfl) (fun _ _ _ h => h) (Or.inl ⟨by rfl, ?_⟩) hS1 ?_
            rotate_left
            · intro W hSW
              try go_simp
              all_goals with_reducible rfl
            simp only [Act.put, List.setIfInBounds_toArray, List.set_cons_zero, List.set_cons_succ, List.getElem_toArray, List.getElem_cons_zero, List.getElem_cons_succ]
            refine wpAnyH_take (i := 19) (oi := _) (v := ?_) rfl (by kernel_rfl) (by kernel_rfl) (by kernel_rfl) (fun _ _ _ h => h) (Or.inl ⟨by rfl, ?_⟩) hS1 ?_
            rotate_left
            · intro W hSW
              try go_simp
              all_goals with_reducible rfl
            simp only [Act.put, List.setIfInBounds_toArray, List.set_cons_zero, List.set_cons_succ, List.getElem_toArray, List.getElem_cons_zero, List.getElem_cons_succ]
            refine wpAnyH_take (i := 20) (oi := _) (v := ?_) rfl (by kernel_rfl) (by kernel_rfl) (by kernel_rfl) (fun _ _ _ h => h) (Or.inl ⟨by rfl, ?_⟩) hS1 ?_
            rotate_left
            · intro W hSW
              try go_simp
              all_goals with_reducible rfl
            simp only [Act.put, List.setIfInBounds_toArray, List.set_cons_zero, List.set_cons_succ, List.getElem_toArray, List.getElem_cons_zero, List.getElem_cons_succ]
            refine wpAnyH_take (i := 21) (oi := _) (v := ?_) rfl (by kernel_rfl) (by kernel_rfl) (by kernel_rfl) (fun _ _ _ h => h) (Or.inl ⟨by rfl, ?_⟩) hS1 ?_
            rotate_left
            · intro W hSW
              obtain ⟨c0, c1, c2, c3, c4, c5, c6, c7, s0, s1, s2, s3, t0, t1, t2, t3, u0, u1, u2, u3, v0, v1, v2, v3, p0, p1, p2, p3, q0, q1, q2, q3⟩ := HX.out W hSW
              try go_simp
              all_goals with_reducible rfl
            simp only [Act.put, List.setIfInBounds_toArray, List.set_cons_zero, List.set_cons_succ, List.getElem_toArray, List.getElem_cons_zero, List.getElem_cons_succ]
            refine wpAnyH_take (i := 23) (oi := _) (v := ?_) rfl (by kernel_rfl) (by kernel_rfl) (by kernel_rfl) (fun _ _ _ h => h) (Or.inl ⟨by rfl, ?_⟩) hS1 ?_
            rotate_left
            · intro W hSW
              obtain ⟨c0, c1, c2, c3, c4, c5, c6, c7, s0, s1, s2, s3, t0, t1, t2, t3, u0, u1, u2, u3, v0, v1, v2, v3, p0, p1, p2, p3, q0, q1, q2, q3⟩ := HX.out W hSW
              try go_simp
              all_goals with_reducible rfl
            simp only [Act.put, List.setIfInBounds_toArray, List.set_cons_zero, List.set_cons_succ, List.getElem_toArray, List.getElem_cons_zero, List.getElem_cons_succ]
            refine wpAnyH_ready (rs := [22]) (by kernel_rfl) (by simp) (AllReadyH.cons rfl (fun K hK => ?_) AllReadyH.nil)
            go_simp
            go_wp2_with ((go_at_call 8; (with_reducible refine (H8.out _ hS1).mono ?_); rintro e w8 ⟨rfl, hb'⟩))
            have hb8 := below_chain hS1 hS1.size hb'
            refine hK.out _ _ hb8 (fun hS2 => ?_)
            clear hK K
            refine wpAnyH_take (i := 24) (oi := _) (v := ?_) rfl (by kernel_rfl) (by kernel_rfl) (by kernel_rfl) (fun _ _ _ h => h) (Or.inl ⟨by rfl, ?_⟩) hS2 ?_
            rotate_left
            · intro W hSW
              try go_simp
              all_goals with_reducible rfl
            simp only [Act.put, List.setIfInBounds_toArray, List.set_cons_zero, List.set_cons_succ, List.getElem_toArray, List.getElem_cons_zero, List.getElem_cons_succ]
            refine wpAnyH_take (i := 25) (oi := _) (v := ?_) rfl (by kernel_rfl) (by kernel_rfl) (by kernel_rfl) (fun _ _ _ h => h) (Or.inl ⟨by rfl, ?_⟩) hS2 ?_
            rotate_left
            · intro W hSW
              try go_simp
              all_goals with_reducible rfl
            simp only [Act.put, List.setIfInBounds_toArray, List.set_cons_zero, List.set_cons_succ, List.getElem_toArray, List.getElem_cons_zero, List.getElem_cons_succ]
            refine wpAnyH_take (i := 26) (oi := _) (v := ?_) rfl (by kernel_rfl) (by kernel_rfl) (by kernel_rfl) (fun _ _ _ h => h) (Or.inl ⟨by rfl, ?_⟩) hS2 ?_
            rotate_left
            · intro W hSW
              try go_simp
              all_goals with_reducible rfl
            simp only [Act.put, List.setIfInBounds_toArray, List.set_cons_zero, List.set_cons_succ, List.getElem_toArray, List.getElem_cons_zero, List.getElem_cons_succ]
            refine wpAnyH_done (by kernel_rfl) ?_ _
            clear q1 H7 H8
            by_cases e0 : E = 0
            · by_cases eab : a = b
              · have fab : (a.toList == b.toList) = true := by rw [eab]; exact beq_self_eq_true _
                have hst : R = ps := by rw [HEE.out.2]; exact send_still (Or.inr eab)
                have q3 := fun W => eql4 XA XF W
                have q4 := fun W => eql4 XB XT W
                rw [eqB_iff.2 (show XA = XF by rw [HAB.out.1, HXX.out.1, hst])] at q3
                rw [eqB_iff.2 (show XB = XT by rw [HAB.out.2, HXX.out.2.1, hst])] at q4
                unfold U4.cells at q3 q4
                clear hst
                clear eab
                subst e0
                obtain ⟨c0, c1, c2, c3, c4, c5, c6, c7, s0, s1, s2, s3, t0, t1, t2, t3, u0, u1, u2, u3, v0, v1, v2, v3, p0, p1, p2, p3, q0, q1, q2, q3⟩ := HX.out _ hS2
                go_wp2_with fail
                go_ret
                exact ⟨rfl, HF.out _ hS2⟩
              · have fab : (a.toList == b.toList) = false := beq_toList_ne eab
                obtain ⟨k1, k2⟩ := send_diff (R := ps) (a := a) (b := b) (d := d) (x := x) (by rw [← HEE.out.1]; exact e0) eab
                rw [← HEE.out.2, ← HAB.out.1, ← HXX.out.1] at k1
                rw [← HEE.out.2, ← HAB.out.2, ← HXX.out.2.1] at k2
                have HD1 := Lib.hid (fun W => radd_any XA x W HAO.out.1 hx)
                have HD2 := Lib.hid (fun W => radd_any XT x W HAO.out.2 hx)
                simp only [k1] at HD1
                simp only [k2] at HD2
                have q3 := fun W => eql4 XF XF W
                have q4 := fun W => eql4 XB XB W
                rw [eqB_refl] at q3 q4
                unfold U4.val at HD1 HD2
                unfold U4.cells at HD1 HD2 q3 q4
                clear k1 k2 eab
                subst e0
                obtain ⟨c0, c1, c2, c3, c4, c5, c6, c7, s0, s1, s2, s3, t0, t1, t2, t3, u0, u1, u2, u3, v0, v1, v2, v3, p0, p1, p2, p3, q0, q1, q2, q3⟩ := HX.out _ hS2
                go_wp2_with fail
                refine (HD1.out _).mono ?_
                rintro e y1 ⟨rfl, hy1⟩
                have hyA := below_chain (below_chain hS2 hS2.size hy1) (below_chain hS2 hS2.size hy1).size ((Below.refl _ _).alloc (Nat.le_refl _) (.cells #[.int .u64 (XF.a : Int), .int .u64 (XF.b : Int), .int .u64 (XF.c : Int), .int .u64 (XF.d : Int)] 25))
                have hl1 := LBlk.new y1 XF.cells
                unfold U4.cells at hl1
                clear HD1 hy1 c0 c1 c2 c3 c4 c5 c6 c7 s0 s1 s2 s3 t0 t1 t2 t3 u0 u1 u2 u3 v0 v1 v2 v3 p0 p1 p2 p3 q0 q1 q2 q3
                obtain ⟨c0, c1, c2, c3, c4, c5, c6, c7, s0, s1, s2, s3, t0, t1, t2, t3, u0, u1, u2, u3, v0, v1, v2, v3, p0, p1, p2, p3, q0, q1, q2, q3⟩ := HX.out _ hyA
                go_wp2_with fail
                generalize y1.alloc (.cells #[.int .u64 (XF.a : Int), .int .u64 (XF.b : Int), .int .u64 (XF.c : Int), .int .u64 (XF.d : Int)] 25) = y2 at *
                generalize y1.heap.size = gx at *
                refine (HD2.out _).mono ?_
                rintro e y3 ⟨rfl, hy3⟩
                have hyB := below_chain (below_chain hyA hyA.size hy3) (below_chain hyA hyA.size hy3).size ((Below.refl _ _).alloc (Nat.le_refl _) (.cells #[.int .u64 (XB.a : Int), .int .u64 (XB.b : Int), .int .u64 (XB.c : Int), .int .u64 (XB.d : Int)] 25))
                have hl2 := LBlk.new y3 XB.cells
                have hl3 := LBlk.below hl1 hy3 (blk_lt hl1)
                have hl4 := LBlk.below hl3 ((Below.refl _ _).alloc (Nat.le_refl _) (.cells #[.int .u64 (XB.a : Int), .int .u64 (XB.b : Int), .int .u64 (XB.c : Int), .int .u64 (XB.d : Int)] 25)) (blk_lt hl3)
                obtain ⟨m0, m1, m2, m3⟩ := LBlk.all (s := XF) hl4
                obtain ⟨n0, n1, n2, n3⟩ := LBlk.all (s := XB) hl2
                clear HD2 hy3 hl1 hl2 hl3 hl4 c0 c1 c2 c3 c4 c5 c6 c7 s0 s1 s2 s3 t0 t1 t2 t3 u0 u1 u2 u3 v0 v1 v2 v3 p0 p1 p2 p3 q0 q1 q2 q3
                obtain ⟨c0, c1, c2, c3, c4, c5, c6, c7, s0, s1, s2, s3, t0, t1, t2, t3, u0, u1, u2, u3, v0, v1, v2, v3, p0, p1, p2, p3, q0, q1, q2, q3⟩ := HX.out _ hyB
                go_wp2_with fail
                go_ret
                exact ⟨rfl, HF.out _ hyB⟩
            · have hne : (E != 0) = true := by simpa using e0
              have hst : R = ps := by rw [HEE.out.2]; exact send_still (Or.inl (by rw [← HEE.out.1]; exact e0))
              have q3 := fun W => eql4 XA XF W
              have q4 := fun W => eql4 XB XT W
              rw [eqB_iff.2 (show XA = XF by rw [HAB.out.1, HXX.out.1, hst])] at q3
              rw [eqB_iff.2 (show XB = XT by rw [HAB.out.2, HXX.out.2.1, hst])] at q4
              unfold U4.cells at q3 q4
              clear hst
              clear e0
              obtain ⟨c0, c1, c2, c3, c4, c5, c6, c7, s0, s1, s2, s3, t0, t1, t2, t3, u0, u1, u2, u3, v0, v1, v2, v3, p0, p1, p2, p3, q0, q1, q2, q3⟩ := HX.out _ hS2
              go_wp2_with fail
              go_ret
              exact ⟨rfl, HF.out _ hS2⟩
end Go.Proofs.Ytgiciaeaibonbaa
