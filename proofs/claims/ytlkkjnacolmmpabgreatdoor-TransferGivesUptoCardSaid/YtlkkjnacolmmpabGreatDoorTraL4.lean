
/- The walk of the law: what is refunded is given to the sender. -/
import Derived.Test.YtlkkjnacolmmpabGreatDoorTraP1
import Derived.Test.YtlkkjnacolmmpabGreatDoorBankX
import Derived.Test.YtlkkjnacolmmpabGreatDoorLimbM0
namespace Go.Proofs.YtlkkjnacolmmpabGreatDoor
set_option maxRecDepth 100000
open Go Go.RowKit
set_option linter.unusedVariables false

theorem parseV_eq (l : List UInt8) : parseV l = .tuple #[((readD l).getD DataV.none).val, .int .i64 (if (readD l).isSome = true then 0 else 140)] := by
  unfold parseV
  cases readD l <;> rfl
theorem readD_sizes (l : List UInt8) : ((readD l).getD DataV.none).ok := by
  cases e : readD l with
  | none => exact ⟨zero_ok, by decide, by decide, by decide⟩
  | some v => exact (readD_form e).2
theorem hopV_eq (d src : ByteArray) : ∃ (hp rs : ByteArray) (ok : Bool), hopV d.data.toList = .tuple #[.string hp, .string rs, .bool ok] ∧ ((ok = false ∧ thruB d src = false) ∨ (ok = true ∧ hp = src ∧ thruB d src = true) ∨ (ok = true ∧ hp ≠ src ∧ thruB d src = false)) := by
  unfold hopV thruB
  cases e : hopL d.data.toList with
  | none => exact ⟨_, _, _, rfl, Or.inl ⟨rfl, rfl⟩⟩
  | some q =>
    obtain ⟨h, r⟩ := q
    refine ⟨_, _, _, rfl, Or.inr ?_⟩
    by_cases hh : h = src.data.toList
    · exact Or.inl ⟨rfl, by rw [hh], decide_eq_true hh⟩
    · exact Or.inr ⟨rfl, fun e => hh (by rw [← e]), decide_eq_false hh⟩
theorem act_genT {C : Act → Prop} {T : Array Value} {ds : List Deferred} (h : ∀ T', T' = T → C ⟨T', ds⟩) : C ⟨T, ds⟩ := h T rfl
set_option maxRecDepth 100000
set_option maxHeartbeats 64000000 in
theorem gives_law (w : World) (v0 : Value) (ps : List Pr) (hps : RdP w w.heap.size v0 ps) (hnl : ∀ p ∈ ps, p.1.size ≤ maxLen) (hlen : ps.length ≤ 2000000)
    (src dst : ByteArray) (seq ht tm : Nat) (vd : Value) (l : List UInt8) (hr : Rd w w.heap.size vd l) (hl : l.length ≤ 10000000) (hs : src.size ≤ 10000000) :
    Calls Tryz.prog 3 #[v0, .agg #[.string src, .string dst, .int .u64 (seq : Int), vd, .int .u64 (ht : Int), .int .u64 (tm : Int)]] w fun e w' => e = .returned (.bool true) ∧ Below w.heap.size w w' := by
  have HRD := Lib.hid hr
  have HPS := Lib.hid hps
  have HL := Lib.hid (And.intro hl hs)
  obtain ⟨Ad, cd, rfl⟩ := hr.form
  obtain ⟨A0, c0, rfl⟩ : ∃ A c, v0 = .slice A ps.length c := by obtain ⟨A, c, h, _⟩ := hps; exact ⟨A, c, h⟩
  have hbox := heap_alloc_new w (.cells #[.string src, .string dst, .int .u64 (seq : Int), .slice Ad l.length cd, .int .u64 (ht : Int), .int .u64 (tm : Int)] 26)
  have ha0 : Below w.heap.size w (w.alloc (.cells #[.string src, .string dst, .int .u64 (seq : Int), .slice Ad l.length cd, .int .u64 (ht : Int), .int .u64 (tm : Int)] 26)) := (Below.refl _ _).alloc (Nat.le_refl _) _
  have HN := Lib.hid (new_any (w.alloc (.cells #[.string src, .string dst, .int .u64 (seq : Int), .slice Ad l.length cd, .int .u64 (ht : Int), .int .u64 (tm : Int)] 26)) _ ps (hps.kept (Kept.of_below ha0)) hnl)
  have hyn0 := hnl
  obtain ⟨n, hnn⟩ : ∃ n, n = ps.length := ⟨_, rfl⟩
  obtain ⟨nl, hnnl⟩ : ∃ n, n = l.length := ⟨_, rfl⟩
  rw [← hnn] at HN HPS ⊢
  rw [← hnnl] at HN HRD hbox ha0 ⊢
  have HNN := Lib.hid hnn
  clear hps hr hl hs hnn hnnl
  go_enter Tryz.func3, Tryz.ntmps3
  go_wp2_with fail
  generalize w.alloc (.cells #[.string src, .string dst, .int .u64 (seq : Int), .slice Ad nl cd, .int .u64 (ht : Int), .int .u64 (tm : Int)] 26) = w0 at *
  refine HN.out.mono ?_
  rintro e w1 ⟨⟨-, rfl⟩ | ⟨-, y, rfl, hyb, hym, hyn, hly, hri, hp1⟩, hb1⟩
  · have hq1 := below_chain ha0 ha0.size hb1
    go_wp2_with fail
    refine (tfixed_any _).mono ?_
    rintro e w2 ⟨rfl, hb2⟩
    have hq2 := below_chain hq1 hq1.size hb2
    go_wp2_with fail
    refine (tfixed_any _).mono ?_
    rintro e w3 ⟨rfl, hb3⟩
    have hq3 := below_chain hq2 hq2.size hb3
    go_wp2_with fail
    go_ret
    exact ⟨rfl, hq3⟩
  have A1 := Acc.made hp1 hly hri hnl
  have hq1 := below_chain ha0 ha0.size hb1
  have h31 := (hb1.block _ (blk_lt hbox)).trans hbox
  have hym' : w.heap.size ≤ y.m := Nat.le_trans ha0.size hym
  have HYN := Lib.hid (show y.n = n from hyn)
  have HNL := Lib.hid hlen
  obtain ⟨yb, ym, yn, yf⟩ := y
  dsimp only at hym' HYN ⊢
  have hW1 := hq1.size
  have HQ1 := Lib.hid hq1
  clear hyb hym hyn hly hri hp1 hb1 HN hnl hyn0 hlen hbox ha0
  go_wp2_with fail
  refine (tfixed_any _).mono ?_
  rintro e w2 ⟨rfl, hb2⟩
  have A2 := A1.up hb2
  have hq2 := below_chain hq1 hq1.size hb2
  have h32 := (hb2.block _ (blk_lt h31)).trans h31
  have HP := Lib.hid (tparse_any (.slice Ad nl cd) l w2 ((Kept.of_below hq2).rd HRD.out) (by have := HL.out.1; omega))
  rw [parseV_eq] at HP
  have hok := readD_sizes l
  obtain ⟨ec, hec⟩ : ∃ ec : Int, ec = if (readD l).isSome = true then 0 else 140 := ⟨_, rfl⟩
  rw [← hec] at HP
  have HEC : Hid ((ec = 0 ∧ readD l = some ((readD l).getD DataV.none)) ∨ (ec = 140 ∧ readD l = none)) := Lib.hid (by
    rw [hec]
    cases readD l with
    | none => exact Or.inr ⟨rfl, rfl⟩
    | some v => exact Or.inl ⟨rfl, rfl⟩)
  generalize (readD l).getD DataV.none = X at *
  obtain ⟨kd, kf, kt, kx⟩ := X
  obtain ⟨okx, okd, okf, okt⟩ := hok
  dsimp only at okx okd okf okt
  unfold DataV.val at HP
  dsimp only at HP
  have p3 := blk_cell h32 3
  clear A1 hq1 hb2 h31 hec
  go_wp2_with fail
  refine HP.out.mono ?_
  rintro e w3 ⟨rfl, hb3⟩
  have hb4 := hb3.alloc hb3.size (.cells #[.string kd, .string kf, .string kt, .int .u64 (kx.a : Int), .int .u64 (kx.b : Int), .int .u64 (kx.c : Int), .int .u64 (kx.d : Int)] 35)
  have h34 := (hb4.block _ (blk_lt h32)).trans h32
  have h74 := heap_alloc_new w3 (.cells #[.string kd, .string kf, .string kt, .int .u64 (kx.a : Int), .int .u64 (kx.b : Int), .int .u64 (kx.c : Int), .int .u64 (kx.d : Int)] 35)
  have A4 := A2.up hb4
  have hq4 := below_chain hq2 hq2.size hb4
  clear HP hb3 hb4 A2 hq2 h32 p3
  obtain ⟨XB, hXB⟩ : ∃ X, X = balM ps kf kd := ⟨_, rfl⟩
  obtain ⟨XS, hXS⟩ : ∃ X, X = supM ps kd := ⟨_, rfl⟩
  generalize hw4 : w3.alloc (.cells #[.string kd, .string kf, .string kt, .int .u64 (kx.a : Int), .int .u64 (kx.b : Int), .int .u64 (kx.c : Int), .int .u64 (kx.d : Int)] 35) = w4 at *
  generalize hg7 : w3.heap.size = g7 at *
  have A4d := A4.up (Below.drew (Below.refl _ _))
  have HXD : Hid (∀ W, BelS w4.drew W → W.cell? ⟨g7, 0, none⟩ = some (.string kd) ∧ W.cell? ⟨g7, 1, none⟩ = some (.string kf) ∧ W.cell? ⟨g7, 2, none⟩ = some (.string kt) ∧ W.cell? ⟨g7, 3, none⟩ = some (.int .u64 (kx.a : Int)) ∧ W.cell? ⟨g7, 4, none⟩ = some (.int .u64 (kx.b : Int)) ∧ W.cell? ⟨g7, 5, none⟩ = some (.int .u64 (kx.c : Int)) ∧ W.cell? ⟨g7, 6, none⟩ = some (.int .u64 (kx.d : Int))) := Lib.hid fun W hW => by
    have hz := below_chain (Below.drew (Below.refl w4.heap.size w4)) (Nat.le_refl _) hW
    exact ⟨blk_cell ((hz.block _ (blk_lt h74)).trans h74) 0, blk_cell ((hz.block _ (blk_lt h74)).trans h74) 1, blk_cell ((hz.block _ (blk_lt h74)).trans h74) 2, blk_cell ((hz.block _ (blk_lt h74)).trans h74) 3, blk_cell ((hz.block _ (blk_lt h74)).trans h74) 4, blk_cell ((hz.block _ (blk_lt h74)).trans h74) 5, blk_cell ((hz.block _ (blk_lt h74)).trans h74) 6⟩
  have H1 := Lib.hid (fun (W : World) (hW : BelS w4.drew W) => (A4d.up hW).bal kf kd (by omega) (by omega))
  have H2 := Lib.hid (fun (W : World) (hW : BelS w4.drew W) => (A4d.up hW).sup kd (by omega))
  rw [← hXB] at H1
  rw [← hXS] at H2
  have HXX := Lib.hid (And.intro hXB hXS)
  clear hXB hXS A4d
  unfold U4.val U4.cells at H1 H2
  go_wp2_with fail
  try rw [hw4]
  try rw [hg7]
  clear hw4 hg7
  refine wp_region_held_drew (S := BelS w4.drew) (by kernel_rfl) (BelS.refl _) (fun hS0 => ?_)
  refine wpAnyH_take (i := 0) (oi := _) (v := ?_) rfl (by kernel_rfl) (by kernel_rfl) (by kernel_rfl) (fun _ _ _ h => h) (Or.inl ⟨by rfl, ?_⟩) hS0 ?_
  rotate_left
  · intro W hSW
    try go_simp
    all_goals with_reducible rfl
  simp only [Act.put, List.setIfInBounds_toArray, List.set_cons_zero, List.set_cons_succ, List.getElem_toArray, List.getElem_cons_zero, List.getElem_cons_succ]
  refine wpAnyH_take (i := 1) (oi := _) (v := ?_) rfl (by kernel_rfl) (by kernel_rfl) (by kernel_rfl) (fun _ _ _ h => h) (Or.inl ⟨by rfl, ?_⟩) hS0 ?_
  rotate_left
  · intro W hSW
    try go_simp
    all_goals with_reducible rfl
  simp only [Act.put, List.setIfInBounds_toArray, List.set_cons_zero, List.set_cons_succ, List.getElem_toArray, List.getElem_cons_zero, List.getElem_cons_succ]
  refine wpAnyH_take (i := 2) (oi := _) (v := ?_) rfl (by kernel_rfl) (by kernel_rfl) (by kernel_rfl) (fun _ _ _ h => h) (Or.inl ⟨by rfl, ?_⟩) hS0 ?_
  rotate_left
  · intro W hSW
    obtain ⟨x0, x1, x2, x3, x4, x5, x6⟩ := HXD.out W hSW
    try go_simp
    all_goals with_reducible rfl
  simp only [Act.put, List.setIfInBounds_toArray, List.set_cons_zero, List.set_cons_succ, List.getElem_toArray, List.getElem_cons_zero, List.getElem_cons_succ]
  refine wpAnyH_take (i := 3) (oi := _) (v := ?_) rfl (by kernel_rfl) (by kernel_rfl) (by kernel_rfl) (fun _ _ _ h => h) (Or.inl ⟨by rfl, ?_⟩) hS0 ?_
  rotate_left
  · intro W hSW
    try go_simp
    all_goals with_reducible rfl
  simp only [Act.put, List.setIfInBounds_toArray, List.set_cons_zero, List.set_cons_succ, List.getElem_toArray, List.getElem_cons_zero, List.getElem_cons_succ]
  refine wpAnyH_take (i := 4) (oi := _) (v := ?_) rfl (by kernel_rfl) (by kernel_rfl) (by kernel_rfl) (fun _ _ _ h => h) (Or.inl ⟨by rfl, ?_⟩) hS0 ?_
  rotate_left
  · intro W hSW
    obtain ⟨x0, x1, x2, x3, x4, x5, x6⟩ := HXD.out W hSW
    try go_simp
    all_goals with_reducible rfl
  simp only [Act.put, List.setIfInBounds_toArray, List.set_cons_zero, List.set_cons_succ, List.getElem_toArray, List.getElem_cons_zero, List.getElem_cons_succ]
  refine wpAnyH_take (i := 6) (oi := _) (v := ?_) rfl (by kernel_rfl) (by kernel_rfl) (by kernel_rfl) (fun _ _ _ h => h) (Or.inl ⟨by rfl, ?_⟩) hS0 ?_
  rotate_left
  · intro W hSW
    try go_simp
    all_goals with_reducible rfl
  simp only [Act.put, List.setIfInBounds_toArray, List.set_cons_zero, List.set_cons_succ, List.getElem_toArray, List.getElem_cons_zero, List.getElem_cons_succ]
  refine wpAnyH_take (i := 7) (oi := _) (v := ?_) rfl (by kernel_rfl) (by kernel_rfl) (by kernel_rfl) (fun _ _ _ h => h) (Or.inl ⟨by rfl, ?_⟩) hS0 ?_
  rotate_left
  · intro W hSW
    try go_simp
    all_goals with_reducible rfl
  simp only [Act.put, List.setIfInBounds_toArray, List.set_cons_zero, List.set_cons_succ, List.getElem_toArray, List.getElem_cons_zero, List.getElem_cons_succ]
  refine wpAnyH_take (i := 8) (oi := _) (v := ?_) rfl (by kernel_rfl) (by kernel_rfl) (by kernel_rfl) (fun _ _ _ h => h) (Or.inl ⟨by rfl, ?_⟩) hS0 ?_
  rotate_left
  · intro W hSW
    obtain ⟨x0, x1, x2, x3, x4, x5, x6⟩ := HXD.out W hSW
    try go_simp
    all_goals with_reducible rfl
  simp only [Act.put, List.setIfInBounds_toArray, List.set_cons_zero, List.set_cons_succ, List.getElem_toArray, List.getElem_cons_zero, List.getElem_cons_succ]
  refine act_genT (C := fun a => wpAnyH _ _ _ _ _ _ _ a _) (fun T hT => ?_)
  refine wpAnyH_until (fuel := 2) (fun k L a W => ∃ (c : Nat) (b1 b2 : Bool) (g1 g2 g3 g4 : Nat), c ≤ 2 ∧ k = (2 - c) + nB b1 + nB b2 ∧ L = #[true, true, true, true, true, decide (1 ≤ c), true, true, true, decide (2 ≤ c), b1, b2, false, false] ∧ a = { tmps := (setB b2 10 (pU g2) (setB b1 9 (pU g1) (setB (decide (2 ≤ c)) 52 (.agg #[.int .u64 (XS.a : Int), .int .u64 (XS.b : Int), .int .u64 (XS.c : Int), .int .u64 (XS.d : Int)]) (setB (decide (1 ≤ c)) 48 (.agg #[.int .u64 (XB.a : Int), .int .u64 (XB.b : Int), .int .u64 (XB.c : Int), .int .u64 (XB.d : Int)]) T)))), defers := [] } ∧ Fl w4.drew b1 b2 false false g1 g2 g3 g4 W) ?h0 ?hstep 4 _ _ _ ?start
  case start => exact ⟨0, false, false, 0, 0, 0, 0, Nat.zero_le _, by simp [nB], by kernel_rfl, by simp [setB], Fl.none _⟩
  case hstep =>
    intro k IH L a W ⟨c, b1, b2, g1, g2, g3, g4, hc, hk, hL, ha, hfl⟩
    subst hT
    rcases (show c = 0 ∨ c = 1 ∨ c = 2 by omega) with rfl | rfl | rfl
    · cases b1 with
      | false =>
        cases b2 with
        | false =>
          obtain rfl : k = 3 := by simp [nB] at hk; omega
          subst hL; subst ha
          simp only [setB, pU, decide_eq_true_eq, Nat.reduceLeDiff, Nat.le_refl, Bool.false_eq_true, if_true, if_false, List.setIfInBounds_toArray, List.set_cons_zero, List.set_cons_succ]
          have hs := hfl.s
          refine wpAnyH_ready (rs := [5, 10, 11]) (by kernel_rfl) (by simp) ?_
          refine AllReadyH.cons rfl (fun K hK => ?_) ?_
          · have HC := Lib.hid (H1.out _ hs)
            go_simp
            go_wp2_with ((go_at_call 10; (with_reducible refine HC.out.mono ?_); rintro e wn ⟨rfl, hbn⟩))
            refine hK.out _ _ (hfl.up hbn).s (fun _ => IH _ _ _ ?_)
            exact ⟨1, false, false, g1, g2, g3, g4, by omega, by simp [nB], by kernel_rfl, by kernel_rfl, hfl.up hbn⟩
          refine AllReadyH.cons rfl (fun K hK => ?_) ?_
          · go_simp
            refine hK.out _ _ hfl.new1.s (fun _ => IH _ _ _ ?_)
            exact ⟨0, true, false, W.heap.size, g2, g3, g4, by omega, by simp [nB], by kernel_rfl, by kernel_rfl, hfl.new1⟩
          refine AllReadyH.cons rfl (fun K hK => ?_) ?_
          · go_simp
            refine hK.out _ _ hfl.new2.s (fun _ => IH _ _ _ ?_)
            exact ⟨0, false, true, g1, W.heap.size, g3, g4, by omega, by simp [nB], by kernel_rfl, by kernel_rfl, hfl.new2⟩
          exact AllReadyH.nil
        | true =>
          obtain rfl : k = 2 := by simp [nB] at hk; omega
          subst hL; subst ha
          simp only [setB, pU, decide_eq_true_eq, Nat.reduceLeDiff, Nat.le_refl, Bool.false_eq_true, if_true, if_false, List.setIfInBounds_toArray, List.set_cons_zero, List.set_cons_succ]
          have hs := hfl.s
          refine wpAnyH_ready (rs := [5, 10]) (by kernel_rfl) (by simp) ?_
          refine AllReadyH.cons rfl (fun K hK => ?_) ?_
          · have HC := Lib.hid (H1.out _ hs)
            go_simp
            go_wp2_with ((go_at_call 10; (with_reducible refine HC.out.mono ?_); rintro e wn ⟨rfl, hbn⟩))
            refine hK.out _ _ (hfl.up hbn).s (fun _ => IH _ _ _ ?_)
            exact ⟨1, false, true, g1, g2, g3, g4, by omega, by simp [nB], by kernel_rfl, by kernel_rfl, hfl.up hbn⟩
          refine AllReadyH.cons rfl (fun K hK => ?_) ?_
          · go_simp
            refine hK.out _ _ hfl.new1.s (fun _ => IH _ _ _ ?_)
            exact ⟨0, true, true, W.heap.size, g2, g3, g4, by omega, by simp [nB], by kernel_rfl, by kernel_rfl, hfl.new1⟩
          exact AllReadyH.nil
      | true =>
        cases b2 with
        | false =>
          obtain rfl : k = 2 := by simp [nB] at hk; omega
          subst hL; subst ha
          simp only [setB, pU, decide_eq_true_eq, Nat.reduceLeDiff, Nat.le_refl, Bool.false_eq_true, if_true, if_false, List.setIfInBounds_toArray, List.set_cons_zero, List.set_cons_succ]
          have hs := hfl.s
          refine wpAnyH_ready (rs := [5, 11]) (by kernel_rfl) (by simp) ?_
          refine AllReadyH.cons rfl (fun K hK => ?_) ?_
          · have HC := Lib.hid (H1.out _ hs)
            go_simp
            go_wp2_with ((go_at_call 10; (with_reducible refine HC.out.mono ?_); rintro e wn ⟨rfl, hbn⟩))
            refine hK.out _ _ (hfl.up hbn).s (fun _ => IH _ _ _ ?_)
            exact ⟨1, true, false, g1, g2, g3, g4, by omega, by simp [nB], by kernel_rfl, by kernel_rfl, hfl.up hbn⟩
          refine AllReadyH.cons rfl (fun K hK => ?_) ?_
          · go_simp
            refine hK.out _ _ hfl.new2.s (fun _ => IH _ _ _ ?_)
            exact ⟨0, true, true, g1, W.heap.size, g3, g4, by omega, by simp [nB], by kernel_rfl, by kernel_rfl, hfl.new2⟩
          exact AllReadyH.nil
        | true =>
          obtain rfl : k = 1 := by simp [nB] at hk; omega
          subst hL; subst ha
          simp only [setB, pU, decide_eq_true_eq, Nat.reduceLeDiff, Nat.le_refl, Bool.false_eq_true, if_true, if_false, List.setIfInBounds_toArray, List.set_cons_zero, List.set_cons_succ]
          have hs := hfl.s
          refine wpAnyH_ready (rs := [5]) (by kernel_rfl) (by simp) ?_
          refine AllReadyH.cons rfl (fun K hK => ?_) ?_
          · have HC := Lib.hid (H1.out _ hs)
            go_simp
            go_wp2_with ((go_at_call 10; (with_reducible refine HC.out.mono ?_); rintro e wn ⟨rfl, hbn⟩))
            refine hK.out _ _ (hfl.up hbn).s (fun _ => IH _ _ _ ?_)
            exact ⟨1, true, true, g1, g2, g3, g4, by omega, by simp [nB], by kernel_rfl, by kernel_rfl, hfl.up hbn⟩
          exact AllReadyH.nil
    · cases b1 with
      | false =>
        cases b2 with
        | false =>
          obtain rfl : k = 2 := by simp [nB] at hk; omega
          subst hL; subst ha
          simp only [setB, pU, decide_eq_true_eq, Nat.reduceLeDiff, Nat.le_refl, Bool.false_eq_true, if_true, if_false, List.setIfInBounds_toArray, List.set_cons_zero, List.set_cons_succ]
          have hs := hfl.s
          refine wpAnyH_ready (rs := [9, 10, 11]) (by kernel_rfl) (by simp) ?_
          refine AllReadyH.cons rfl (fun K hK => ?_) ?_
          · have HC := Lib.hid (H2.out _ hs)
            go_simp
            go_wp2_with ((go_at_call 11; (with_reducible refine HC.out.mono ?_); rintro e wn ⟨rfl, hbn⟩))
            refine hK.out _ _ (hfl.up hbn).s (fun _ => IH _ _ _ ?_)
            exact ⟨2, false, false, g1, g2, g3, g4, by omega, by simp [nB], by kernel_rfl, by kernel_rfl, hfl.up hbn⟩
          refine AllReadyH.cons rfl (fun K hK => ?_) ?_
          · go_simp
            refine hK.out _ _ hfl.new1.s (fun _ => IH _ _ _ ?_)
            exact ⟨1, true, false, W.heap.size, g2, g3, g4, by omega, by simp [nB], by kernel_rfl, by kernel_rfl, hfl.new1⟩
          refine AllReadyH.cons rfl (fun K hK => ?_) ?_
          · go_simp
            refine hK.out _ _ hfl.new2.s (fun _ => IH _ _ _ ?_)
            exact ⟨1, false, true, g1, W.heap.size, g3, g4, by omega, by simp [nB], by kernel_rfl, by kernel_rfl, hfl.new2⟩
          exact AllReadyH.nil
        | true =>
          obtain rfl : k = 1 := by simp [nB] at hk; omega
          subst hL; subst ha
          simp only [setB, pU, decide_eq_true_eq, Nat.reduceLeDiff, Nat.le_refl, Bool.false_eq_true, if_true, if_false, List.setIfInBounds_toArray, List.set_cons_zero, List.set_cons_succ]
          have hs := hfl.s
          refine wpAnyH_ready (rs := [9, 10]) (by kernel_rfl) (by simp) ?_
          refine AllReadyH.cons rfl (fun K hK => ?_) ?_
          · have HC := Lib.hid (H2.out _ hs)
            go_simp
            go_wp2_with ((go_at_call 11; (with_reducible refine HC.out.mono ?_); rintro e wn ⟨rfl, hbn⟩))
            refine hK.out _ _ (hfl.up hbn).s (fun _ => IH _ _ _ ?_)
            exact ⟨2, false, true, g1, g2, g3, g4, by omega, by simp [nB], by kernel_rfl, by kernel_rfl, hfl.up hbn⟩
          refine AllReadyH.cons rfl (fun K hK => ?_) ?_
          · go_simp
            refine hK.out _ _ hfl.new1.s (fun _ => IH _ _ _ ?_)
            exact ⟨1, true, true, W.heap.size, g2, g3, g4, by omega, by simp [nB], by kernel_rfl, by kernel_rfl, hfl.new1⟩
          exact AllReadyH.nil
      | true =>
        cases b2 with
        | false =>
          obtain rfl : k = 1 := by simp [nB] at hk; omega
          subst hL; subst ha
          simp only [setB, pU, decide_eq_true_eq, Nat.reduceLeDiff, Nat.le_refl, Bool.false_eq_true, if_true, if_false, List.setIfInBounds_toArray, List.set_cons_zero, List.set_cons_succ]
          have hs := hfl.s
          refine wpAnyH_ready (rs := [9, 11]) (by kernel_rfl) (by simp) ?_
          refine AllReadyH.cons rfl (fun K hK => ?_) ?_
          · have HC := Lib.hid (H2.out _ hs)
            go_simp
            go_wp2_with ((go_at_call 11; (with_reducible refine HC.out.mono ?_); rintro e wn ⟨rfl, hbn⟩))
            refine hK.out _ _ (hfl.up hbn).s (fun _ => IH _ _ _ ?_)
            exact ⟨2, true, false, g1, g2, g3, g4, by omega, by simp [nB], by kernel_rfl, by kernel_rfl, hfl.up hbn⟩
          refine AllReadyH.cons rfl (fun K hK => ?_) ?_
          · go_simp
            refine hK.out _ _ hfl.new2.s (fun _ => IH _ _ _ ?_)
            exact ⟨1, true, true, g1, W.heap.size, g3, g4, by omega, by simp [nB], by kernel_rfl, by kernel_rfl, hfl.new2⟩
          exact AllReadyH.nil
        | true =>
          obtain rfl : k = 0 := by simp [nB] at hk; omega
          subst hL; subst ha
          simp only [setB, pU, decide_eq_true_eq, Nat.reduceLeDiff, Nat.le_refl, Bool.false_eq_true, if_true, if_false, List.setIfInBounds_toArray, List.set_cons_zero, List.set_cons_succ]
          have hs := hfl.s
          refine wpAnyH_ready (rs := [9]) (by kernel_rfl) (by simp) ?_
          refine AllReadyH.cons rfl (fun K hK => ?_) ?_
          · have HC := Lib.hid (H2.out _ hs)
            go_simp
            go_wp2_with ((go_at_call 11; (with_reducible refine HC.out.mono ?_); rintro e wn ⟨rfl, hbn⟩))
            refine hK.out _ _ (hfl.up hbn).s (fun _ => IH _ _ _ ?_)
            exact ⟨2, true, true, g1, g2, g3, g4, by omega, by simp [nB], by kernel_rfl, by kernel_rfl, hfl.up hbn⟩
          exact AllReadyH.nil
    · cases b1 with
      | false =>
        cases b2 with
        | false =>
          obtain rfl : k = 1 := by simp [nB] at hk; omega
          subst hL; subst ha
          simp only [setB, pU, decide_eq_true_eq, Nat.reduceLeDiff, Nat.le_refl, Bool.false_eq_true, if_true, if_false, List.setIfInBounds_toArray, List.set_cons_zero, List.set_cons_succ]
          have hs := hfl.s
          refine wpAnyH_ready (rs := [10, 11]) (by kernel_rfl) (by simp) ?_
          refine AllReadyH.cons rfl (fun K hK => ?_) ?_
          · go_simp
            refine hK.out _ _ hfl.new1.s (fun _ => IH _ _ _ ?_)
            exact ⟨2, true, false, W.heap.size, g2, g3, g4, by omega, by simp [nB], by kernel_rfl, by kernel_rfl, hfl.new1⟩
          refine AllReadyH.cons rfl (fun K hK => ?_) ?_
          · go_simp
            refine hK.out _ _ hfl.new2.s (fun _ => IH _ _ _ ?_)
            exact ⟨2, false, true, g1, W.heap.size, g3, g4, by omega, by simp [nB], by kernel_rfl, by kernel_rfl, hfl.new2⟩
          exact AllReadyH.nil
        | true =>
          obtain rfl : k = 0 := by simp [nB] at hk; omega
          subst hL; subst ha
          simp only [setB, pU, decide_eq_true_eq, Nat.reduceLeDiff, Nat.le_refl, Bool.false_eq_true, if_true, if_false, List.setIfInBounds_toArray, List.set_cons_zero, List.set_cons_succ]
          have hs := hfl.s
          refine wpAnyH_ready (rs := [10]) (by kernel_rfl) (by simp) ?_
          refine AllReadyH.cons rfl (fun K hK => ?_) ?_
          · go_simp
            refine hK.out _ _ hfl.new1.s (fun _ => IH _ _ _ ?_)
            exact ⟨2, true, true, W.heap.size, g2, g3, g4, by omega, by simp [nB], by kernel_rfl, by kernel_rfl, hfl.new1⟩
          exact AllReadyH.nil
      | true =>
        cases b2 with
        | false =>
          obtain rfl : k = 0 := by simp [nB] at hk; omega
          subst hL; subst ha
          simp only [setB, pU, decide_eq_true_eq, Nat.reduceLeDiff, Nat.le_refl, Bool.false_eq_true, if_true, if_false, List.setIfInBounds_toArray, List.set_cons_zero, List.set_cons_succ]
          have hs := hfl.s
          refine wpAnyH_ready (rs := [11]) (by kernel_rfl) (by simp) ?_
          refine AllReadyH.cons rfl (fun K hK => ?_) ?_
          · go_simp
            refine hK.out _ _ hfl.new2.s (fun _ => IH _ _ _ ?_)
            exact ⟨2, true, true, g1, W.heap.size, g3, g4, by omega, by simp [nB], by kernel_rfl, by kernel_rfl, hfl.new2⟩
          exact AllReadyH.nil
        | true =>
          exfalso; simp [nB] at hk
  case h0 =>
    intro L a W ⟨c, b1, b2, g1, g2, g3, g4, hc, hk, hL, ha, hfl⟩
    subst hT
    obtain rfl : c = 2 := by omega
    skip
    have eb1 : b1 = true := by
      cases b1 with
      | true => rfl
      | false => exact absurd hk (by simp only [nB, Bool.false_eq_true, if_false]; omega)
    have eb2 : b2 = true := by
      cases b2 with
      | true => rfl
      | false => exact absurd hk (by simp only [nB, Bool.false_eq_true, if_false]; omega)
    subst eb1
    subst eb2
    subst hL; subst ha
    simp only [setB, pU, decide_eq_true_eq, Nat.reduceLeDiff, Nat.le_refl, Bool.false_eq_true, if_true, if_false, List.setIfInBounds_toArray, List.set_cons_zero, List.set_cons_succ]
    obtain ⟨hu1, hg1⟩ := hfl.u1 rfl
    obtain ⟨hu2, hg2⟩ := hfl.u2 rfl
    have n12 := hfl.d12 rfl rfl
    have hs0 := hfl.s
    clear hfl hk hc
    obtain ⟨z0, z1, z2, z3⟩ := LBlk.all (s := U4.zero) hu1
    have f0 := hu1.free 0
    have f1 := hu1.free 1
    have f2 := hu1.free 2
    have f3 := hu1.free 3
    have hs1 : BelS w4.drew ((((W.setCell ⟨g1, 0, none⟩ (.int .u64 (XB.a : Int))).setCell ⟨g1, 1, none⟩ (.int .u64 (XB.b : Int))).setCell ⟨g1, 2, none⟩ (.int .u64 (XB.c : Int))).setCell ⟨g1, 3, none⟩ (.int .u64 (XB.d : Int))) := Below.set4U hs0 hg1 (.int .u64 (XB.a : Int)) (.int .u64 (XB.b : Int)) (.int .u64 (XB.c : Int)) (.int .u64 (XB.d : Int))
    refine wpAnyH_ready (rs := [12]) (by kernel_rfl) (by simp) (AllReadyH.cons rfl (fun K hK => ?_) AllReadyH.nil)
    go_simp
    refine hK.out _ _ hs1 (fun _ => ?_)
    clear hK K z0 z1 z2 z3 f0 f1 f2 f3
    replace hu1 := LBlk.set4 (s := U4.zero) hu1 XB
    replace hu2 := LBlk.far4U hu2 n12.symm (.int .u64 (XB.a : Int)) (.int .u64 (XB.b : Int)) (.int .u64 (XB.c : Int)) (.int .u64 (XB.d : Int))
    generalize ((((W.setCell ⟨g1, 0, none⟩ (.int .u64 (XB.a : Int))).setCell ⟨g1, 1, none⟩ (.int .u64 (XB.b : Int))).setCell ⟨g1, 2, none⟩ (.int .u64 (XB.c : Int))).setCell ⟨g1, 3, none⟩ (.int .u64 (XB.d : Int))) = Wa1 at *
    obtain ⟨z0, z1, z2, z3⟩ := LBlk.all (s := U4.zero) hu2
    have f0 := hu2.free 0
    have f1 := hu2.free 1
    have f2 := hu2.free 2
    have f3 := hu2.free 3
    have hs2 : BelS w4.drew ((((Wa1.setCell ⟨g2, 0, none⟩ (.int .u64 (XS.a : Int))).setCell ⟨g2, 1, none⟩ (.int .u64 (XS.b : Int))).setCell ⟨g2, 2, none⟩ (.int .u64 (XS.c : Int))).setCell ⟨g2, 3, none⟩ (.int .u64 (XS.d : Int))) := Below.set4U hs1 hg2 (.int .u64 (XS.a : Int)) (.int .u64 (XS.b : Int)) (.int .u64 (XS.c : Int)) (.int .u64 (XS.d : Int))
    refine wpAnyH_ready (rs := [13]) (by kernel_rfl) (by simp) (AllReadyH.cons rfl (fun K hK => ?_) AllReadyH.nil)
    go_simp
    refine hK.out _ _ hs2 (fun _ => ?_)
    clear hK K z0 z1 z2 z3 f0 f1 f2 f3
    replace hu2 := LBlk.set4 (s := U4.zero) hu2 XS
    replace hu1 := LBlk.far4U hu1 n12 (.int .u64 (XS.a : Int)) (.int .u64 (XS.b : Int)) (.int .u64 (XS.c : Int)) (.int .u64 (XS.d : Int))
    generalize ((((Wa1.setCell ⟨g2, 0, none⟩ (.int .u64 (XS.a : Int))).setCell ⟨g2, 1, none⟩ (.int .u64 (XS.b : Int))).setCell ⟨g2, 2, none⟩ (.int .u64 (XS.c : Int))).setCell ⟨g2, 3, none⟩ (.int .u64 (XS.d : Int))) = Wa2 at *
    refine wpAnyH_done (by kernel_rfl) ?_ _
    have q5 : Below w4.heap.size w4 Wa2 := below_chain (Below.drew (Below.refl w4.heap.size w4)) (Nat.le_refl _) hs2
    have A5 := A4.up q5
    have hq5 := below_chain hq4 hq4.size q5
    have h35 := (q5.block _ (blk_lt h34)).trans h34
    have h75 := (q5.block _ (blk_lt h74)).trans h74
    have hk5 : ∀ Z, Kept Wa2 Z → (Z.cell? ⟨w.heap.size, 0, none⟩ = some (.string src) ∧ Z.cell? ⟨w.heap.size, 1, none⟩ = some (.string dst) ∧ Z.cell? ⟨w.heap.size, 2, none⟩ = some (.int .u64 (seq : Int)) ∧ Z.cell? ⟨w.heap.size, 3, none⟩ = some (.slice Ad nl cd) ∧ Z.cell? ⟨w.heap.size, 4, none⟩ = some (.int .u64 (ht : Int)) ∧ Z.cell? ⟨w.heap.size, 5, none⟩ = some (.int .u64 (tm : Int))) ∧ (Z.cell? ⟨g7, 0, none⟩ = some (.string kd) ∧ Z.cell? ⟨g7, 1, none⟩ = some (.string kf) ∧ Z.cell? ⟨g7, 2, none⟩ = some (.string kt) ∧ Z.cell? ⟨g7, 3, none⟩ = some (.int .u64 (kx.a : Int)) ∧ Z.cell? ⟨g7, 4, none⟩ = some (.int .u64 (kx.b : Int)) ∧ Z.cell? ⟨g7, 5, none⟩ = some (.int .u64 (kx.c : Int)) ∧ Z.cell? ⟨g7, 6, none⟩ = some (.int .u64 (kx.d : Int))) ∧ (Z.cell? ⟨g1, 0, none⟩ = some (.int .u64 (XB.a : Int)) ∧ Z.cell? ⟨g1, 1, none⟩ = some (.int .u64 (XB.b : Int)) ∧ Z.cell? ⟨g1, 2, none⟩ = some (.int .u64 (XB.c : Int)) ∧ Z.cell? ⟨g1, 3, none⟩ = some (.int .u64 (XB.d : Int))) ∧ (Z.cell? ⟨g2, 0, none⟩ = some (.int .u64 (XS.a : Int)) ∧ Z.cell? ⟨g2, 1, none⟩ = some (.int .u64 (XS.b : Int)) ∧ Z.cell? ⟨g2, 2, none⟩ = some (.int .u64 (XS.c : Int)) ∧ Z.cell? ⟨g2, 3, none⟩ = some (.int .u64 (XS.d : Int))) := fun Z hz => ⟨⟨hz.cell (blk_cell h35 0), hz.cell (blk_cell h35 1), hz.cell (blk_cell h35 2), hz.cell (blk_cell h35 3), hz.cell (blk_cell h35 4), hz.cell (blk_cell h35 5)⟩, ⟨hz.cell (blk_cell h75 0), hz.cell (blk_cell h75 1), hz.cell (blk_cell h75 2), hz.cell (blk_cell h75 3), hz.cell (blk_cell h75 4), hz.cell (blk_cell h75 5), hz.cell (blk_cell h75 6)⟩, ⟨hz.cell (blk_cell hu1 0), hz.cell (blk_cell hu1 1), hz.cell (blk_cell hu1 2), hz.cell (blk_cell hu1 3)⟩, ⟨hz.cell (blk_cell hu2 0), hz.cell (blk_cell hu2 1), hz.cell (blk_cell hu2 2), hz.cell (blk_cell hu2 3)⟩⟩
    have HK5 := Lib.hid hk5
    have HRF := Lib.hid (trefund_any A5 (show yn + 0 + 2 ≤ maxLen by have := HYN.out; have := HNL.out; have := HNN.out; unfold maxLen; omega) src dst seq ht tm (.slice Ad nl cd) l ((Kept.of_below hq5).rd HRD.out) (by have := HL.out.1; omega) HL.out.2)
    obtain ⟨E, hE⟩ : ∃ E, E = (refundM ps src l).1 := ⟨_, rfl⟩
    obtain ⟨R, hR⟩ : ∃ R, R = (refundM ps src l).2 := ⟨_, rfl⟩
    rw [← hE, ← hR] at HRF
    have HER := Lib.hid (And.intro hE hR)
    have pp := (hk5 _ (Kept.refl _)).1
    obtain ⟨p0, p1, p2, p3, p4, p5⟩ := pp
    clear hk5 hE hR hu1 hu2 hg1 hg2 n12 hs0 hs1 hs2 h34 h35 h74 h75 A4 A5 q5 HXD H1 H2 hS0 hq4
    go_wp2_with fail
    refine HRF.out.mono ?_
    rintro e w6 ⟨rfl, A6, hk6⟩
    have hq6 : Below w.heap.size w w6 := HQ1.out.trans (A6.below hym' hW1)
    clear HRF p0 p1 p2 p3 p4 p5
    by_cases hE0 : E = 0
    · subst hE0
      obtain ⟨v, hv, f1, f2, f3⟩ := refund_yes HER.out.1.symm
      rw [← HER.out.2] at f1 f2 f3
      obtain rfl : ec = 0 := by
        rcases HEC.out with ⟨h, -⟩ | ⟨-, h⟩
        · exact h
        · rw [hv] at h; cases h
      obtain rfl : v = ⟨kd, kf, kt, kx⟩ := by
        rcases HEC.out with ⟨-, h⟩ | ⟨-, h⟩
        · rw [hv] at h; exact Option.some.inj h
        · rw [hv] at h; cases h
      dsimp only at f1 f2 f3
      rw [← HXX.out.1] at f1
      rw [← HXX.out.2] at f2 f3
      have okB : XB.ok := by rw [HXX.out.1]; exact balM_ok _ _ _
      have HHP := Lib.hid (hop_any kd w6 (by unfold maxLen; omega))
      obtain ⟨hp, rs, ok, hv1, hv2⟩ := hopV_eq kd src
      rw [hv1] at HHP
      have HAD := Lib.hid (fun W : World => radd_any XB kx W okB okx)
      have HES := Lib.hid (fun W : World => tesc_any src W (by have := HL.out.2; omega))
      obtain ⟨YS, hYS⟩ : ∃ Y, Y = supM R kd := ⟨_, rfl⟩
      rw [← hYS] at f2 f3
      have c6 := HK5.out _ hk6
      obtain ⟨⟨p0, p1, p2, p3, p4, p5⟩, ⟨x0, x1, x2, x3, x4, x5, x6⟩, ⟨a0, a1, a2, a3⟩, ⟨b0, b1, b2, b3⟩⟩ := c6
      generalize addU XB kx = Q at *
      obtain ⟨Q, q2⟩ := Q
      dsimp only at f1 HAD
      have F1 := Lib.hid f1
      have F23 := Lib.hid (And.intro f2 f3)
      have HV2 := Lib.hid hv2
      have HYS := Lib.hid hYS
      have HOKK := Lib.hid (And.intro okd okf)
      generalize kEsc src = ke at *
      unfold U4.val U4.cells at HAD
      clear hv f1 f2 f3 hv1 hv2 hYS okB okx okd okf okt HEC HER HXX
      go_wp2_with fail
      refine HHP.out.mono ?_
      rintro e w7 ⟨rfl, m7, rfl⟩
      have hb7 : Below w6.heap.size w6 (w6.drewN m7) := below_drewN' (Below.refl _ w6) m7
      have k7 := (Kept.of_below hb7)
      have d7 : ((w6.drewN m7).cell? ⟨w.heap.size, 0, none⟩ = some (.string src) ∧ (w6.drewN m7).cell? ⟨w.heap.size, 1, none⟩ = some (.string dst) ∧ (w6.drewN m7).cell? ⟨w.heap.size, 2, none⟩ = some (.int .u64 (seq : Int)) ∧ (w6.drewN m7).cell? ⟨w.heap.size, 3, none⟩ = some (.slice Ad nl cd) ∧ (w6.drewN m7).cell? ⟨w.heap.size, 4, none⟩ = some (.int .u64 (ht : Int)) ∧ (w6.drewN m7).cell? ⟨w.heap.size, 5, none⟩ = some (.int .u64 (tm : Int))) ∧ ((w6.drewN m7).cell? ⟨g7, 0, none⟩ = some (.string kd) ∧ (w6.drewN m7).cell? ⟨g7, 1, none⟩ = some (.string kf) ∧ (w6.drewN m7).cell? ⟨g7, 2, none⟩ = some (.string kt) ∧ (w6.drewN m7).cell? ⟨g7, 3, none⟩ = some (.int .u64 (kx.a : Int)) ∧ (w6.drewN m7).cell? ⟨g7, 4, none⟩ = some (.int .u64 (kx.b : Int)) ∧ (w6.drewN m7).cell? ⟨g7, 5, none⟩ = some (.int .u64 (kx.c : Int)) ∧ (w6.drewN m7).cell? ⟨g7, 6, none⟩ = some (.int .u64 (kx.d : Int))) ∧ ((w6.drewN m7).cell? ⟨g1, 0, none⟩ = some (.int .u64 (XB.a : Int)) ∧ (w6.drewN m7).cell? ⟨g1, 1, none⟩ = some (.int .u64 (XB.b : Int)) ∧ (w6.drewN m7).cell? ⟨g1, 2, none⟩ = some (.int .u64 (XB.c : Int)) ∧ (w6.drewN m7).cell? ⟨g1, 3, none⟩ = some (.int .u64 (XB.d : Int))) ∧ ((w6.drewN m7).cell? ⟨g2, 0, none⟩ = some (.int .u64 (XS.a : Int)) ∧ (w6.drewN m7).cell? ⟨g2, 1, none⟩ = some (.int .u64 (XS.b : Int)) ∧ (w6.drewN m7).cell? ⟨g2, 2, none⟩ = some (.int .u64 (XS.c : Int)) ∧ (w6.drewN m7).cell? ⟨g2, 3, none⟩ = some (.int .u64 (XS.d : Int))) := HK5.out _ (hk6.trans k7)
      obtain ⟨⟨p0', p1', p2', p3', p4', p5'⟩, ⟨x0', x1', x2', x3', x4', x5', x6'⟩, ⟨a0', a1', a2', a3'⟩, ⟨b0', b1', b2', b3'⟩⟩ := d7
      clear p0 p1 p2 p3 p4 p5 x0 x1 x2 x3 x4 x5 x6 a0 a1 a2 a3 b0 b1 b2 b3 HHP
      go_wp2_with fail
      refine (HAD.out _).mono ?_
      rintro e w8 ⟨rfl, hb8⟩
      have hb9 := (below_chain hb7 hb7.size hb8).alloc (Nat.le_trans hb7.size hb8.size) (.cells #[.int .u64 (Q.a : Int), .int .u64 (Q.b : Int), .int .u64 (Q.c : Int), .int .u64 (Q.d : Int)] 33)
      have hQ9 := heap_alloc_new w8 (.cells #[.int .u64 (Q.a : Int), .int .u64 (Q.b : Int), .int .u64 (Q.c : Int), .int .u64 (Q.d : Int)] 33)
      have hq9 := below_chain hq6 hq6.size hb9
      have A9 := A6.up hb9
      have hk9 := hk6.trans (Kept.of_below hb9)
      clear p0' p1' p2' p3' p4' p5' x0' x1' x2' x3' x4' x5' x6' a0' a1' a2' a3' b0' b1' b2' b3' HAD hb7 hb8 k7 A6 hq6 hk6 hb9
      generalize hw9 : w8.alloc (.cells #[.int .u64 (Q.a : Int), .int .u64 (Q.b : Int), .int .u64 (Q.c : Int), .int .u64 (Q.d : Int)] 33) = w9 at *
      generalize hg15 : w8.heap.size = g15 at *
      have HC9 : Hid (∀ Z, Below w9.heap.size w9 Z → (Z.cell? ⟨w.heap.size, 0, none⟩ = some (.string src) ∧ Z.cell? ⟨w.heap.size, 1, none⟩ = some (.string dst) ∧ Z.cell? ⟨w.heap.size, 2, none⟩ = some (.int .u64 (seq : Int)) ∧ Z.cell? ⟨w.heap.size, 3, none⟩ = some (.slice Ad nl cd) ∧ Z.cell? ⟨w.heap.size, 4, none⟩ = some (.int .u64 (ht : Int)) ∧ Z.cell? ⟨w.heap.size, 5, none⟩ = some (.int .u64 (tm : Int))) ∧ (Z.cell? ⟨g7, 0, none⟩ = some (.string kd) ∧ Z.cell? ⟨g7, 1, none⟩ = some (.string kf) ∧ Z.cell? ⟨g7, 2, none⟩ = some (.string kt) ∧ Z.cell? ⟨g7, 3, none⟩ = some (.int .u64 (kx.a : Int)) ∧ Z.cell? ⟨g7, 4, none⟩ = some (.int .u64 (kx.b : Int)) ∧ Z.cell? ⟨g7, 5, none⟩ = some (.int .u64 (kx.c : Int)) ∧ Z.cell? ⟨g7, 6, none⟩ = some (.int .u64 (kx.d : Int))) ∧ (Z.cell? ⟨g1, 0, none⟩ = some (.int .u64 (XB.a : Int)) ∧ Z.cell? ⟨g1, 1, none⟩ = some (.int .u64 (XB.b : Int)) ∧ Z.cell? ⟨g1, 2, none⟩ = some (.int .u64 (XB.c : Int)) ∧ Z.cell? ⟨g1, 3, none⟩ = some (.int .u64 (XB.d : Int))) ∧ (Z.cell? ⟨g2, 0, none⟩ = some (.int .u64 (XS.a : Int)) ∧ Z.cell? ⟨g2, 1, none⟩ = some (.int .u64 (XS.b : Int)) ∧ Z.cell? ⟨g2, 2, none⟩ = some (.int .u64 (XS.c : Int)) ∧ Z.cell? ⟨g2, 3, none⟩ = some (.int .u64 (XS.d : Int))) ∧ (Z.cell? ⟨g15, 0, none⟩ = some (.int .u64 (Q.a : Int)) ∧ Z.cell? ⟨g15, 1, none⟩ = some (.int .u64 (Q.b : Int)) ∧ Z.cell? ⟨g15, 2, none⟩ = some (.int .u64 (Q.c : Int)) ∧ Z.cell? ⟨g15, 3, none⟩ = some (.int .u64 (Q.d : Int)))) := Lib.hid fun Z hz => by
        obtain ⟨c1, c2, c3, c4⟩ := HK5.out _ (hk9.trans (Kept.of_below hz))
        exact ⟨c1, c2, c3, c4, ⟨blk_cell ((hz.block _ (blk_lt hQ9)).trans hQ9) 0, blk_cell ((hz.block _ (blk_lt hQ9)).trans hQ9) 1, blk_cell ((hz.block _ (blk_lt hQ9)).trans hQ9) 2, blk_cell ((hz.block _ (blk_lt hQ9)).trans hQ9) 3⟩⟩
      have HAA := Lib.hid (fun (Z : World) (hz : Below w9.heap.size w9 Z) => A9.up hz)
      have hbd : Below w9.heap.size w9 w9.drew := (Below.refl _ _).drew
      have hne := fun W : World => run_equal4 Q Q W
      rw [eqB_refl] at hne
      unfold U4.cells at hne
      have HNE := Lib.hid hne
      clear hne A9 hQ9 hk9 HK5
      by_cases hke : kf = ke
      · subst hke
        go_wp2_with fail
        try rw [hw9]
        try rw [hg15]
        refine wp_region_held_drew (S := BelS w9.drew) (by kernel_rfl) (BelS.refl _) (fun hS0 => ?_)
        refine wpAnyH_take (i := 0) (oi := _) (v := ?_) rfl (by kernel_rfl) (by kernel_rfl) (by kernel_rfl) (fun _ _ _ h => h) (Or.inl ⟨by rfl, ?_⟩) hS0 ?_
        rotate_left
        · intro W hSW
          try go_simp
          all_goals with_reducible rfl
        simp only [Act.put, List.setIfInBounds_toArray, List.set_cons_zero, List.set_cons_succ, List.getElem_toArray, List.getElem_cons_zero, List.getElem_cons_succ]
        refine wpAnyH_take (i := 1) (oi := _) (v := ?_) rfl (by kernel_rfl) (by kernel_rfl) (by kernel_rfl) (fun _ _ _ h => h) (Or.inl ⟨by rfl, ?_⟩) hS0 ?_
        rotate_left
        · intro W hSW
          try go_simp
          all_goals with_reducible rfl
        simp only [Act.put, List.setIfInBounds_toArray, List.set_cons_zero, List.set_cons_succ, List.getElem_toArray, List.getElem_cons_zero, List.getElem_cons_succ]
        refine wpAnyH_take (i := 2) (oi := _) (v := ?_) rfl (by kernel_rfl) (by kernel_rfl) (by kernel_rfl) (fun _ _ _ h => h) (Or.inl ⟨by rfl, ?_⟩) hS0 ?_
        rotate_left
        · intro W hSW
          try go_simp
          all_goals with_reducible rfl
        simp only [Act.put, List.setIfInBounds_toArray, List.set_cons_zero, List.set_cons_succ, List.getElem_toArray, List.getElem_cons_zero, List.getElem_cons_succ]
        refine wpAnyH_take (i := 3) (oi := _) (v := ?_) rfl (by kernel_rfl) (by kernel_rfl) (by kernel_rfl) (fun _ _ _ h => h) (Or.inl ⟨by rfl, ?_⟩) hS0 ?_
        rotate_left
        · intro W hSW
          try go_simp
          all_goals with_reducible rfl
        simp only [Act.put, List.setIfInBounds_toArray, List.set_cons_zero, List.set_cons_succ, List.getElem_toArray, List.getElem_cons_zero, List.getElem_cons_succ]
        refine wpAnyH_take (i := 4) (oi := _) (v := ?_) rfl (by kernel_rfl) (by kernel_rfl) (by kernel_rfl) (fun _ _ _ h => h) (Or.inl ⟨by rfl, ?_⟩) hS0 ?_
        rotate_left
        · intro W hSW
          obtain ⟨⟨p0, p1, p2, p3, p4, p5⟩, ⟨x0, x1, x2, x3, x4, x5, x6⟩, ⟨a0, a1, a2, a3⟩, ⟨b0, b1, b2, b3⟩, ⟨s0, s1, s2, s3⟩⟩ := HC9.out W (below_chain hbd hbd.size hSW)
          try go_simp
          all_goals with_reducible rfl
        simp only [Act.put, List.setIfInBounds_toArray, List.set_cons_zero, List.set_cons_succ, List.getElem_toArray, List.getElem_cons_zero, List.getElem_cons_succ]
        refine wpAnyH_take (i := 5) (oi := _) (v := ?_) rfl (by kernel_rfl) (by kernel_rfl) (by kernel_rfl) (fun _ _ _ h => h) (Or.inl ⟨by rfl, ?_⟩) hS0 ?_
        rotate_left
        · intro W hSW
          try go_simp
          all_goals with_reducible rfl
        simp only [Act.put, List.setIfInBounds_toArray, List.set_cons_zero, List.set_cons_succ, List.getElem_toArray, List.getElem_cons_zero, List.getElem_cons_succ]
        refine wpAnyH_take (i := 6) (oi := _) (v := ?_) rfl (by kernel_rfl) (by kernel_rfl) (by kernel_rfl) (fun _ _ _ h => h) (Or.inl ⟨by rfl, ?_⟩) hS0 ?_
        rotate_left
        · intro W hSW
          obtain ⟨⟨p0, p1, p2, p3, p4, p5⟩, ⟨x0, x1, x2, x3, x4, x5, x6⟩, ⟨a0, a1, a2, a3⟩, ⟨b0, b1, b2, b3⟩, ⟨s0, s1, s2, s3⟩⟩ := HC9.out W (below_chain hbd hbd.size hSW)
          try go_simp
          all_goals with_reducible rfl
        simp only [Act.put, List.setIfInBounds_toArray, List.set_cons_zero, List.set_cons_succ, List.getElem_toArray, List.getElem_cons_zero, List.getElem_cons_succ]
        refine wpAnyH_ready (rs := [7]) (by kernel_rfl) (by simp) (AllReadyH.cons rfl (fun K hK => ?_) AllReadyH.nil)
        have DE := Lib.hid (HES.out w9.drew)
        go_simp
        go_wp2_with ((go_at_call 17; (with_reducible refine DE.out.mono ?_); rintro e wE ⟨rfl, rfl⟩))
        refine hK.out _ _ hS0 (fun _ => ?_)
        clear hK K
        refine wpAnyH_take (i := 8) (oi := _) (v := ?_) rfl (by kernel_rfl) (by kernel_rfl) (by kernel_rfl) (fun _ _ _ h => h) (Or.inl ⟨by rfl, ?_⟩) hS0 ?_
        rotate_left
        · intro W hSW
          try go_simp
          all_goals with_reducible rfl
        simp only [Act.put, List.setIfInBounds_toArray, List.set_cons_zero, List.set_cons_succ, List.getElem_toArray, List.getElem_cons_zero, List.getElem_cons_succ]
        refine wpAnyH_take (i := 9) (oi := _) (v := ?_) rfl (by kernel_rfl) (by kernel_rfl) (by kernel_rfl) (fun _ _ _ h => h) (Or.inl ⟨by rfl, ?_⟩) hS0 ?_
        rotate_left
        · intro W hSW
          try go_simp
          all_goals with_reducible rfl
        simp only [Act.put, List.setIfInBounds_toArray, List.set_cons_zero, List.set_cons_succ, List.getElem_toArray, List.getElem_cons_zero, List.getElem_cons_succ]
        refine wpAnyH_take (i := 10) (oi := _) (v := undef) rfl (by kernel_rfl) (by kernel_rfl) (by kernel_rfl) (fun _ _ _ h => h) (Or.inr ⟨by rfl, rfl⟩) hS0 ?_
        simp only [Act.put, List.setIfInBounds_toArray, List.set_cons_zero, List.set_cons_succ, List.getElem_toArray, List.getElem_cons_zero, List.getElem_cons_succ]
        refine wpAnyH_take (i := 11) (oi := _) (v := undef) rfl (by kernel_rfl) (by kernel_rfl) (by kernel_rfl) (fun _ _ _ h => h) (Or.inr ⟨by rfl, rfl⟩) hS0 ?_
        simp only [Act.put, List.setIfInBounds_toArray, List.set_cons_zero, List.set_cons_succ, List.getElem_toArray, List.getElem_cons_zero, List.getElem_cons_succ]
        refine wpAnyH_take (i := 12) (oi := _) (v := undef) rfl (by kernel_rfl) (by kernel_rfl) (by kernel_rfl) (fun _ _ _ h => h) (Or.inr ⟨by rfl, rfl⟩) hS0 ?_
        simp only [Act.put, List.setIfInBounds_toArray, List.set_cons_zero, List.set_cons_succ, List.getElem_toArray, List.getElem_cons_zero, List.getElem_cons_succ]
        refine wpAnyH_take (i := 13) (oi := _) (v := undef) rfl (by kernel_rfl) (by kernel_rfl) (by kernel_rfl) (fun _ _ _ h => h) (Or.inr ⟨by rfl, rfl⟩) hS0 ?_
        simp only [Act.put, List.setIfInBounds_toArray, List.set_cons_zero, List.set_cons_succ, List.getElem_toArray, List.getElem_cons_zero, List.getElem_cons_succ]
        refine wpAnyH_take (i := 14) (oi := _) (v := undef) rfl (by kernel_rfl) (by kernel_rfl) (by kernel_rfl) (fun _ _ _ h => h) (Or.inr ⟨by rfl, rfl⟩) hS0 ?_
        simp only [Act.put, List.setIfInBounds_toArray, List.set_cons_zero, List.set_cons_succ, List.getElem_toArray, List.getElem_cons_zero, List.getElem_cons_succ]
        refine wpAnyH_take (i := 15) (oi := _) (v := undef) rfl (by kernel_rfl) (by kernel_rfl) (by kernel_rfl) (fun _ _ _ h => h) (Or.inr ⟨by rfl, rfl⟩) hS0 ?_
        simp only [Act.put, List.setIfInBounds_toArray, List.set_cons_zero, List.set_cons_succ, List.getElem_toArray, List.getElem_cons_zero, List.getElem_cons_succ]
        refine wpAnyH_take (i := 16) (oi := _) (v := undef) rfl (by kernel_rfl) (by kernel_rfl) (by kernel_rfl) (fun _ _ _ h => h) (Or.inr ⟨by rfl, rfl⟩) hS0 ?_
        simp only [Act.put, List.setIfInBounds_toArray, List.set_cons_zero, List.set_cons_succ, List.getElem_toArray, List.getElem_cons_zero, List.getElem_cons_succ]
        refine wpAnyH_take (i := 17) (oi := _) (v := undef) rfl (by kernel_rfl) (by kernel_rfl) (by kernel_rfl) (fun _ _ _ h => h) (Or.inr ⟨by rfl, rfl⟩) hS0 ?_
        simp only [Act.put, List.setIfInBounds_toArray, List.set_cons_zero, List.set_cons_succ, List.getElem_toArray, List.getElem_cons_zero, List.getElem_cons_succ]
        refine wpAnyH_take (i := 18) (oi := _) (v := undef) rfl (by kernel_rfl) (by kernel_rfl) (by kernel_rfl) (fun _ _ _ h => h) (Or.inr ⟨by rfl, rfl⟩) hS0 ?_
        simp only [Act.put, List.setIfInBounds_toArray, List.set_cons_zero, List.set_cons_succ, List.getElem_toArray, List.getElem_cons_zero, List.getElem_cons_succ]
        refine wpAnyH_take (i := 19) (oi := _) (v := undef) rfl (by kernel_rfl) (by kernel_rfl) (by kernel_rfl) (fun _ _ _ h => h) (Or.inr ⟨by rfl, rfl⟩) hS0 ?_
        simp only [Act.put, List.setIfInBounds_toArray, List.set_cons_zero, List.set_cons_succ, List.getElem_toArray, List.getElem_cons_zero, List.getElem_cons_succ]
        refine wpAnyH_take (i := 20) (oi := _) (v := undef) rfl (by kernel_rfl) (by kernel_rfl) (by kernel_rfl) (fun _ _ _ h => h) (Or.inr ⟨by rfl, rfl⟩) hS0 ?_
        simp only [Act.put, List.setIfInBounds_toArray, List.set_cons_zero, List.set_cons_succ, List.getElem_toArray, List.getElem_cons_zero, List.getElem_cons_succ]
        refine wpAnyH_take (i := 21) (oi := _) (v := undef) rfl (by kernel_rfl) (by kernel_rfl) (by kernel_rfl) (fun _ _ _ h => h) (Or.inr ⟨by rfl, rfl⟩) hS0 ?_
        simp only [Act.put, List.setIfInBounds_toArray, List.set_cons_zero, List.set_cons_succ, List.getElem_toArray, List.getElem_cons_zero, List.getElem_cons_succ]
        refine wpAnyH_take (i := 22) (oi := _) (v := ?_) rfl (by kernel_rfl) (by kernel_rfl) (by kernel_rfl) (fun _ _ _ h => h) (Or.inl ⟨by rfl, ?_⟩) hS0 ?_
        rotate_left
        · intro W hSW
          try go_simp
          all_goals with_reducible rfl
        simp only [Act.put, List.setIfInBounds_toArray, List.set_cons_zero, List.set_cons_succ, List.getElem_toArray, List.getElem_cons_zero, List.getElem_cons_succ]
        refine wpAnyH_take (i := 23) (oi := _) (v := ?_) rfl (by kernel_rfl) (by kernel_rfl) (by kernel_rfl) (fun _ _ _ h => h) (Or.inl ⟨by rfl, ?_⟩) hS0 ?_
        rotate_left
        · intro W hSW
          try go_simp
          all_goals with_reducible rfl
        simp only [Act.put, List.setIfInBounds_toArray, List.set_cons_zero, List.set_cons_succ, List.getElem_toArray, List.getElem_cons_zero, List.getElem_cons_succ]
        refine wpAnyH_done (by kernel_rfl) ?_ _
        go_wp2_with fail
        rcases HV2.out with ⟨rfl, ht⟩ | ⟨rfl, rfl, ht⟩ | ⟨rfl, hnp, ht⟩
        · have hb13 : Below w9.heap.size w9 (w9.drew).drew := (hbd).drew
          have HSU := Lib.hid (show Calls Tryz.prog 11 #[.pointer (some ⟨yb, 0, none⟩), .string kd] (w9.drew).drew fun e w' => e = .returned YS.val ∧ Below (w9.drew).drew.heap.size (w9.drew).drew w' by rw [HYS.out]; exact (HAA.out _ hb13).sup kd (by have := HOKK.out; omega))
          have heqs : ∀ W, (Op.equalIn 10000 33 (.agg YS.cells) (.agg XS.cells)).run Tryz.prog W = .ok true W := fun W => by rw [F23.out.2 ht, ← eqB_refl XS]; exact run_equal4 XS XS W
          unfold U4.val at HSU
          unfold U4.cells at HSU heqs
          have HEQS := Lib.hid heqs
          clear heqs ht
          go_wp2_with fail
          refine wp_region_held_drew (S := BelS (w9.drew).drew) (by kernel_rfl) (BelS.refl _) (fun hS0 => ?_)
          refine wpAnyH_take (i := 0) (oi := _) (v := ?_) rfl (by kernel_rfl) (by kernel_rfl) (by kernel_rfl) (fun _ _ _ h => h) (Or.inl ⟨by rfl, ?_⟩) hS0 ?_
          rotate_left
          · intro W hSW
            try go_simp
            all_goals with_reducible rfl
          simp only [Act.put, List.setIfInBounds_toArray, List.set_cons_zero, List.set_cons_succ, List.getElem_toArray, List.getElem_cons_zero, List.getElem_cons_succ]
          refine wpAnyH_take (i := 1) (oi := _) (v := ?_) rfl (by kernel_rfl) (by kernel_rfl) (by kernel_rfl) (fun _ _ _ h => h) (Or.inl ⟨by rfl, ?_⟩) hS0 ?_
          rotate_left
          · intro W hSW
            try go_simp
            all_goals with_reducible rfl
          simp only [Act.put, List.setIfInBounds_toArray, List.set_cons_zero, List.set_cons_succ, List.getElem_toArray, List.getElem_cons_zero, List.getElem_cons_succ]
          refine wpAnyH_take (i := 2) (oi := _) (v := ?_) rfl (by kernel_rfl) (by kernel_rfl) (by kernel_rfl) (fun _ _ _ h => h) (Or.inl ⟨by rfl, ?_⟩) hS0 ?_
          rotate_left
          · intro W hSW
            obtain ⟨⟨p0, p1, p2, p3, p4, p5⟩, ⟨x0, x1, x2, x3, x4, x5, x6⟩, ⟨a0, a1, a2, a3⟩, ⟨b0, b1, b2, b3⟩, -⟩ := HC9.out W (below_chain hb13 hb13.size hSW)
            try go_simp
            all_goals with_reducible rfl
          simp only [Act.put, List.setIfInBounds_toArray, List.set_cons_zero, List.set_cons_succ, List.getElem_toArray, List.getElem_cons_zero, List.getElem_cons_succ]
          refine wpAnyH_take (i := 4) (oi := _) (v := ?_) rfl (by kernel_rfl) (by kernel_rfl) (by kernel_rfl) (fun _ _ _ h => h) (Or.inl ⟨by rfl, ?_⟩) hS0 ?_
          rotate_left
          · intro W hSW
            obtain ⟨⟨p0, p1, p2, p3, p4, p5⟩, ⟨x0, x1, x2, x3, x4, x5, x6⟩, ⟨a0, a1, a2, a3⟩, ⟨b0, b1, b2, b3⟩, -⟩ := HC9.out W (below_chain hb13 hb13.size hSW)
            try go_simp
            all_goals with_reducible rfl
          simp only [Act.put, List.setIfInBounds_toArray, List.set_cons_zero, List.set_cons_succ, List.getElem_toArray, List.getElem_cons_zero, List.getElem_cons_succ]
          refine wpAnyH_take (i := 6) (oi := _) (v := ?_) rfl (by kernel_rfl) (by kernel_rfl) (by kernel_rfl) (fun _ _ _ h => h) (Or.inl ⟨by rfl, ?_⟩) hS0 ?_
          rotate_left
          · intro W hSW
            try go_simp
            all_goals with_reducible rfl
          simp only [Act.put, List.setIfInBounds_toArray, List.set_cons_zero, List.set_cons_succ, List.getElem_toArray, List.getElem_cons_zero, List.getElem_cons_succ]
          refine wpAnyH_ready (rs := [3]) (by kernel_rfl) (by simp) (AllReadyH.cons rfl (fun K hK => ?_) AllReadyH.nil)
          have DS := Lib.hid (HSU.out)
          go_simp
          go_wp2_with ((go_at_call 11; (with_reducible refine DS.out.mono ?_); rintro e wS ⟨rfl, hbS⟩))
          have hqS := below_chain hb13 hb13.size hbS
          refine hK.out _ _ hbS (fun _ => ?_)
          clear hK K
          refine wpAnyH_stronger (S' := BelS wS) (fun W h => below_chain hbS hbS.size h) _ _ _ _ ?_
          have hSS : BelS wS wS := BelS.refl wS
          refine wpAnyH_take (i := 5) (oi := _) (v := ?_) rfl (by kernel_rfl) (by kernel_rfl) (by kernel_rfl) (fun _ _ _ h => h) (Or.inl ⟨by rfl, ?_⟩) hSS ?_
          rotate_left
          · intro W hSW
            have hes := HEQS.out W
            try go_simp
            all_goals with_reducible rfl
          simp only [Act.put, List.setIfInBounds_toArray, List.set_cons_zero, List.set_cons_succ, List.getElem_toArray, List.getElem_cons_zero, List.getElem_cons_succ]
          refine wpAnyH_take (i := 7) (oi := _) (v := ?_) rfl (by kernel_rfl) (by kernel_rfl) (by kernel_rfl) (fun _ _ _ h => h) (Or.inl ⟨by rfl, ?_⟩) hSS ?_
          rotate_left
          · intro W hSW
            try go_simp
            all_goals with_reducible rfl
          simp only [Act.put, List.setIfInBounds_toArray, List.set_cons_zero, List.set_cons_succ, List.getElem_toArray, List.getElem_cons_zero, List.getElem_cons_succ]
          refine wpAnyH_take (i := 8) (oi := _) (v := undef) rfl (by kernel_rfl) (by kernel_rfl) (by kernel_rfl) (fun _ _ _ h => h) (Or.inr ⟨by rfl, rfl⟩) hSS ?_
          simp only [Act.put, List.setIfInBounds_toArray, List.set_cons_zero, List.set_cons_succ, List.getElem_toArray, List.getElem_cons_zero, List.getElem_cons_succ]
          refine wpAnyH_take (i := 9) (oi := _) (v := undef) rfl (by kernel_rfl) (by kernel_rfl) (by kernel_rfl) (fun _ _ _ h => h) (Or.inr ⟨by rfl, rfl⟩) hSS ?_
          simp only [Act.put, List.setIfInBounds_toArray, List.set_cons_zero, List.set_cons_succ, List.getElem_toArray, List.getElem_cons_zero, List.getElem_cons_succ]
          refine wpAnyH_take (i := 10) (oi := _) (v := undef) rfl (by kernel_rfl) (by kernel_rfl) (by kernel_rfl) (fun _ _ _ h => h) (Or.inr ⟨by rfl, rfl⟩) hSS ?_
          simp only [Act.put, List.setIfInBounds_toArray, List.set_cons_zero, List.set_cons_succ, List.getElem_toArray, List.getElem_cons_zero, List.getElem_cons_succ]
          refine wpAnyH_take (i := 11) (oi := _) (v := undef) rfl (by kernel_rfl) (by kernel_rfl) (by kernel_rfl) (fun _ _ _ h => h) (Or.inr ⟨by rfl, rfl⟩) hSS ?_
          simp only [Act.put, List.setIfInBounds_toArray, List.set_cons_zero, List.set_cons_succ, List.getElem_toArray, List.getElem_cons_zero, List.getElem_cons_succ]
          refine wpAnyH_take (i := 12) (oi := _) (v := ?_) rfl (by kernel_rfl) (by kernel_rfl) (by kernel_rfl) (fun _ _ _ h => h) (Or.inl ⟨by rfl, ?_⟩) hSS ?_
          rotate_left
          · intro W hSW
            try go_simp
            all_goals with_reducible rfl
          simp only [Act.put, List.setIfInBounds_toArray, List.set_cons_zero, List.set_cons_succ, List.getElem_toArray, List.getElem_cons_zero, List.getElem_cons_succ]
          refine wpAnyH_take (i := 13) (oi := _) (v := ?_) rfl (by kernel_rfl) (by kernel_rfl) (by kernel_rfl) (fun _ _ _ h => h) (Or.inl ⟨by rfl, ?_⟩) hSS ?_
          rotate_left
          · intro W hSW
            try go_simp
            all_goals with_reducible rfl
          simp only [Act.put, List.setIfInBounds_toArray, List.set_cons_zero, List.set_cons_succ, List.getElem_toArray, List.getElem_cons_zero, List.getElem_cons_succ]
          refine wpAnyH_take (i := 14) (oi := _) (v := ?_) rfl (by kernel_rfl) (by kernel_rfl) (by kernel_rfl) (fun _ _ _ h => h) (Or.inl ⟨by rfl, ?_⟩) hSS ?_
          rotate_left
          · intro W hSW
            try go_simp
            all_goals with_reducible rfl
          simp only [Act.put, List.setIfInBounds_toArray, List.set_cons_zero, List.set_cons_succ, List.getElem_toArray, List.getElem_cons_zero, List.getElem_cons_succ]
          refine wpAnyH_take (i := 15) (oi := _) (v := ?_) rfl (by kernel_rfl) (by kernel_rfl) (by kernel_rfl) (fun _ _ _ h => h) (Or.inl ⟨by rfl, ?_⟩) hSS ?_
          rotate_left
          · intro W hSW
            try go_simp
            all_goals with_reducible rfl
          simp only [Act.put, List.setIfInBounds_toArray, List.set_cons_zero, List.set_cons_succ, List.getElem_toArray, List.getElem_cons_zero, List.getElem_cons_succ]
          refine wpAnyH_done (by kernel_rfl) ?_ _
          have hbo := below_chain hq9 hq9.size (hqS)
          go_wp2_with fail
          go_ret
          exact ⟨rfl, hbo⟩
        · have hb13 : Below w9.heap.size w9 (w9.drew).drew := (hbd).drew
          have HSU := Lib.hid (show Calls Tryz.prog 11 #[.pointer (some ⟨yb, 0, none⟩), .string kd] (w9.drew).drew fun e w' => e = .returned YS.val ∧ Below (w9.drew).drew.heap.size (w9.drew).drew w' by rw [HYS.out]; exact (HAA.out _ hb13).sup kd (by have := HOKK.out; omega))
          have heqs : ∀ W, (Op.equalIn 10000 33 (.agg YS.cells) (.agg XS.cells)).run Tryz.prog W = .ok false W := fun W => by rw [← F23.out.1 ht]; exact run_equal4 YS XS W
          unfold U4.val at HSU
          unfold U4.cells at HSU heqs
          have HEQS := Lib.hid heqs
          clear heqs ht
          go_wp2_with fail
          refine wp_region_held_drew (S := BelS (w9.drew).drew) (by kernel_rfl) (BelS.refl _) (fun hS0 => ?_)
          refine wpAnyH_take (i := 0) (oi := _) (v := ?_) rfl (by kernel_rfl) (by kernel_rfl) (by kernel_rfl) (fun _ _ _ h => h) (Or.inl ⟨by rfl, ?_⟩) hS0 ?_
          rotate_left
          · intro W hSW
            try go_simp
            all_goals with_reducible rfl
          simp only [Act.put, List.setIfInBounds_toArray, List.set_cons_zero, List.set_cons_succ, List.getElem_toArray, List.getElem_cons_zero, List.getElem_cons_succ]
          refine wpAnyH_take (i := 1) (oi := _) (v := ?_) rfl (by kernel_rfl) (by kernel_rfl) (by kernel_rfl) (fun _ _ _ h => h) (Or.inl ⟨by rfl, ?_⟩) hS0 ?_
          rotate_left
          · intro W hSW
            try go_simp
            all_goals with_reducible rfl
          simp only [Act.put, List.setIfInBounds_toArray, List.set_cons_zero, List.set_cons_succ, List.getElem_toArray, List.getElem_cons_zero, List.getElem_cons_succ]
          refine wpAnyH_take (i := 2) (oi := _) (v := ?_) rfl (by kernel_rfl) (by kernel_rfl) (by kernel_rfl) (fun _ _ _ h => h) (Or.inl ⟨by rfl, ?_⟩) hS0 ?_
          rotate_left
          · intro W hSW
            obtain ⟨⟨p0, p1, p2, p3, p4, p5⟩, ⟨x0, x1, x2, x3, x4, x5, x6⟩, ⟨a0, a1, a2, a3⟩, ⟨b0, b1, b2, b3⟩, -⟩ := HC9.out W (below_chain hb13 hb13.size hSW)
            try go_simp
            all_goals with_reducible rfl
          simp only [Act.put, List.setIfInBounds_toArray, List.set_cons_zero, List.set_cons_succ, List.getElem_toArray, List.getElem_cons_zero, List.getElem_cons_succ]
          refine wpAnyH_take (i := 4) (oi := _) (v := ?_) rfl (by kernel_rfl) (by kernel_rfl) (by kernel_rfl) (fun _ _ _ h => h) (Or.inl ⟨by rfl, ?_⟩) hS0 ?_
          rotate_left
          · intro W hSW
            obtain ⟨⟨p0, p1, p2, p3, p4, p5⟩, ⟨x0, x1, x2, x3, x4, x5, x6⟩, ⟨a0, a1, a2, a3⟩, ⟨b0, b1, b2, b3⟩, -⟩ := HC9.out W (below_chain hb13 hb13.size hSW)
            try go_simp
            all_goals with_reducible rfl
          simp only [Act.put, List.setIfInBounds_toArray, List.set_cons_zero, List.set_cons_succ, List.getElem_toArray, List.getElem_cons_zero, List.getElem_cons_succ]
          refine wpAnyH_take (i := 6) (oi := _) (v := ?_) rfl (by kernel_rfl) (by kernel_rfl) (by kernel_rfl) (fun _ _ _ h => h) (Or.inl ⟨by rfl, ?_⟩) hS0 ?_
          rotate_left
          · intro W hSW
            try go_simp
            all_goals with_reducible rfl
          simp only [Act.put, List.setIfInBounds_toArray, List.set_cons_zero, List.set_cons_succ, List.getElem_toArray, List.getElem_cons_zero, List.getElem_cons_succ]
          refine wpAnyH_ready (rs := [3]) (by kernel_rfl) (by simp) (AllReadyH.cons rfl (fun K hK => ?_) AllReadyH.nil)
          have DS := Lib.hid (HSU.out)
          go_simp
          go_wp2_with ((go_at_call 11; (with_reducible refine DS.out.mono ?_); rintro e wS ⟨rfl, hbS⟩))
          have hqS := below_chain hb13 hb13.size hbS
          refine hK.out _ _ hbS (fun _ => ?_)
          clear hK K
          refine wpAnyH_stronger (S' := BelS wS) (fun W h => below_chain hbS hbS.size h) _ _ _ _ ?_
          have hSS : BelS wS wS := BelS.refl wS
          refine wpAnyH_take (i := 5) (oi := _) (v := ?_) rfl (by kernel_rfl) (by kernel_rfl) (by kernel_rfl) (fun _ _ _ h => h) (Or.inl ⟨by rfl, ?_⟩) hSS ?_
          rotate_left
          · intro W hSW
            have hes := HEQS.out W
            try go_simp
            all_goals with_reducible rfl
          simp only [Act.put, List.setIfInBounds_toArray, List.set_cons_zero, List.set_cons_succ, List.getElem_toArray, List.getElem_cons_zero, List.getElem_cons_succ]
          refine wpAnyH_take (i := 7) (oi := _) (v := ?_) rfl (by kernel_rfl) (by kernel_rfl) (by kernel_rfl) (fun _ _ _ h => h) (Or.inl ⟨by rfl, ?_⟩) hSS ?_
          rotate_left
          · intro W hSW
            try go_simp
            all_goals with_reducible rfl
          simp only [Act.put, List.setIfInBounds_toArray, List.set_cons_zero, List.set_cons_succ, List.getElem_toArray, List.getElem_cons_zero, List.getElem_cons_succ]
          refine wpAnyH_take (i := 8) (oi := _) (v := ?_) rfl (by kernel_rfl) (by kernel_rfl) (by kernel_rfl) (fun _ _ _ h => h) (Or.inl ⟨by rfl, ?_⟩) hSS ?_
          rotate_left
          · intro W hSW
            try go_simp
            all_goals with_reducible rfl
          simp only [Act.put, List.setIfInBounds_toArray, List.set_cons_zero, List.set_cons_succ, List.getElem_toArray, List.getElem_cons_zero, List.getElem_cons_succ]
          refine wpAnyH_take (i := 9) (oi := _) (v := ?_) rfl (by kernel_rfl) (by kernel_rfl) (by kernel_rfl) (fun _ _ _ h => h) (Or.inl ⟨by rfl, ?_⟩) hSS ?_
          rotate_left
          · intro W hSW
            try go_simp
            all_goals with_reducible rfl
          simp only [Act.put, List.setIfInBounds_toArray, List.set_cons_zero, List.set_cons_succ, List.getElem_toArray, List.getElem_cons_zero, List.getElem_cons_succ]
          refine wpAnyH_take (i := 10) (oi := _) (v := ?_) rfl (by kernel_rfl) (by kernel_rfl) (by kernel_rfl) (fun _ _ _ h => h) (Or.inl ⟨by rfl, ?_⟩) hSS ?_
          rotate_left
          · intro W hSW
            obtain ⟨⟨p0, p1, p2, p3, p4, p5⟩, ⟨x0, x1, x2, x3, x4, x5, x6⟩, ⟨a0, a1, a2, a3⟩, ⟨b0, b1, b2, b3⟩, -⟩ := HC9.out W (below_chain hqS hqS.size hSW)
            try go_simp
            all_goals with_reducible rfl
          simp only [Act.put, List.setIfInBounds_toArray, List.set_cons_zero, List.set_cons_succ, List.getElem_toArray, List.getElem_cons_zero, List.getElem_cons_succ]
          refine wpAnyH_take (i := 11) (oi := _) (v := ?_) rfl (by kernel_rfl) (by kernel_rfl) (by kernel_rfl) (fun _ _ _ h => h) (Or.inl ⟨by rfl, ?_⟩) hSS ?_
          rotate_left
          · intro W hSW
            try go_simp
            all_goals with_reducible rfl
          simp only [Act.put, List.setIfInBounds_toArray, List.set_cons_zero, List.set_cons_succ, List.getElem_toArray, List.getElem_cons_zero, List.getElem_cons_succ]
          refine wpAnyH_take (i := 12) (oi := _) (v := ?_) rfl (by kernel_rfl) (by kernel_rfl) (by kernel_rfl) (fun _ _ _ h => h) (Or.inl ⟨by rfl, ?_⟩) hSS ?_
          rotate_left
          · intro W hSW
            try go_simp
            all_goals with_reducible rfl
          simp only [Act.put, List.setIfInBounds_toArray, List.set_cons_zero, List.set_cons_succ, List.getElem_toArray, List.getElem_cons_zero, List.getElem_cons_succ]
          refine wpAnyH_take (i := 13) (oi := _) (v := ?_) rfl (by kernel_rfl) (by kernel_rfl) (by kernel_rfl) (fun _ _ _ h => h) (Or.inl ⟨by rfl, ?_⟩) hSS ?_
          rotate_left
          · intro W hSW
            try go_simp
            all_goals with_reducible rfl
          simp only [Act.put, List.setIfInBounds_toArray, List.set_cons_zero, List.set_cons_succ, List.getElem_toArray, List.getElem_cons_zero, List.getElem_cons_succ]
          refine wpAnyH_take (i := 14) (oi := _) (v := ?_) rfl (by kernel_rfl) (by kernel_rfl) (by kernel_rfl) (fun _ _ _ h => h) (Or.inl ⟨by rfl, ?_⟩) hSS ?_
          rotate_left
          · intro W hSW
            try go_simp
            all_goals with_reducible rfl
          simp only [Act.put, List.setIfInBounds_toArray, List.set_cons_zero, List.set_cons_succ, List.getElem_toArray, List.getElem_cons_zero, List.getElem_cons_succ]
          refine wpAnyH_take (i := 15) (oi := _) (v := ?_) rfl (by kernel_rfl) (by kernel_rfl) (by kernel_rfl) (fun _ _ _ h => h) (Or.inl ⟨by rfl, ?_⟩) hSS ?_
          rotate_left
          · intro W hSW
            try go_simp
            all_goals with_reducible rfl
          simp only [Act.put, List.setIfInBounds_toArray, List.set_cons_zero, List.set_cons_succ, List.getElem_toArray, List.getElem_cons_zero, List.getElem_cons_succ]
          refine wpAnyH_done (by kernel_rfl) ?_ _
          have hbo := below_chain hq9 hq9.size (hqS)
          go_wp2_with fail
          go_ret
          exact ⟨rfl, hbo⟩
        · have hb13 : Below w9.heap.size w9 (w9.drew).drew := (hbd).drew
          have HSU := Lib.hid (show Calls Tryz.prog 11 #[.pointer (some ⟨yb, 0, none⟩), .string kd] (w9.drew).drew fun e w' => e = .returned YS.val ∧ Below (w9.drew).drew.heap.size (w9.drew).drew w' by rw [HYS.out]; exact (HAA.out _ hb13).sup kd (by have := HOKK.out; omega))
          have heqs : ∀ W, (Op.equalIn 10000 33 (.agg YS.cells) (.agg XS.cells)).run Tryz.prog W = .ok true W := fun W => by rw [F23.out.2 ht, ← eqB_refl XS]; exact run_equal4 XS XS W
          have hps : (hp.toList == src.toList) = false := by rw [beqS, decide_eq_false hnp]
          unfold U4.val at HSU
          unfold U4.cells at HSU heqs
          have HEQS := Lib.hid heqs
          clear heqs ht
          have HPS2 := Lib.hid hps
          clear hps hnp
          go_wp2_with fail
          refine wp_region_held_drew (S := BelS (w9.drew).drew) (by kernel_rfl) (BelS.refl _) (fun hS0 => ?_)
          refine wpAnyH_take (i := 0) (oi := _) (v := ?_) rfl (by kernel_rfl) (by kernel_rfl) (by kernel_rfl) (fun _ _ _ h => h) (Or.inl ⟨by rfl, ?_⟩) hS0 ?_
          rotate_left
          · intro W hSW
            try go_simp
            all_goals with_reducible rfl
          simp only [Act.put, List.setIfInBounds_toArray, List.set_cons_zero, List.set_cons_succ, List.getElem_toArray, List.getElem_cons_zero, List.getElem_cons_succ]
          refine wpAnyH_take (i := 1) (oi := _) (v := ?_) rfl (by kernel_rfl) (by kernel_rfl) (by kernel_rfl) (fun _ _ _ h => h) (Or.inl ⟨by rfl, ?_⟩) hS0 ?_
          rotate_left
          · intro W hSW
            try go_simp
            all_goals with_reducible rfl
          simp only [Act.put, List.setIfInBounds_toArray, List.set_cons_zero, List.set_cons_succ, List.getElem_toArray, List.getElem_cons_zero, List.getElem_cons_succ]
          refine wpAnyH_take (i := 2) (oi := _) (v := ?_) rfl (by kernel_rfl) (by kernel_rfl) (by kernel_rfl) (fun _ _ _ h => h) (Or.inl ⟨by rfl, ?_⟩) hS0 ?_
          rotate_left
          · intro W hSW
            obtain ⟨⟨p0, p1, p2, p3, p4, p5⟩, ⟨x0, x1, x2, x3, x4, x5, x6⟩, ⟨a0, a1, a2, a3⟩, ⟨b0, b1, b2, b3⟩, -⟩ := HC9.out W (below_chain hb13 hb13.size hSW)
            try go_simp
            all_goals with_reducible rfl
          simp only [Act.put, List.setIfInBounds_toArray, List.set_cons_zero, List.set_cons_succ, List.getElem_toArray, List.getElem_cons_zero, List.getElem_cons_succ]
          refine wpAnyH_take (i := 4) (oi := _) (v := ?_) rfl (by kernel_rfl) (by kernel_rfl) (by kernel_rfl) (fun _ _ _ h => h) (Or.inl ⟨by rfl, ?_⟩) hS0 ?_
          rotate_left
          · intro W hSW
            obtain ⟨⟨p0, p1, p2, p3, p4, p5⟩, ⟨x0, x1, x2, x3, x4, x5, x6⟩, ⟨a0, a1, a2, a3⟩, ⟨b0, b1, b2, b3⟩, -⟩ := HC9.out W (below_chain hb13 hb13.size hSW)
            try go_simp
            all_goals with_reducible rfl
          simp only [Act.put, List.setIfInBounds_toArray, List.set_cons_zero, List.set_cons_succ, List.getElem_toArray, List.getElem_cons_zero, List.getElem_cons_succ]
          refine wpAnyH_take (i := 6) (oi := _) (v := ?_) rfl (by kernel_rfl) (by kernel_rfl) (by kernel_rfl) (fun _ _ _ h => h) (Or.inl ⟨by rfl, ?_⟩) hS0 ?_
          rotate_left
          · intro W hSW
            try go_simp
            all_goals with_reducible rfl
          simp only [Act.put, List.setIfInBounds_toArray, List.set_cons_zero, List.set_cons_succ, List.getElem_toArray, List.getElem_cons_zero, List.getElem_cons_succ]
          refine wpAnyH_ready (rs := [3]) (by kernel_rfl) (by simp) (AllReadyH.cons rfl (fun K hK => ?_) AllReadyH.nil)
          have DS := Lib.hid (HSU.out)
          go_simp
          go_wp2_with ((go_at_call 11; (with_reducible refine DS.out.mono ?_); rintro e wS ⟨rfl, hbS⟩))
          have hqS := below_chain hb13 hb13.size hbS
          refine hK.out _ _ hbS (fun _ => ?_)
          clear hK K
          refine wpAnyH_stronger (S' := BelS wS) (fun W h => below_chain hbS hbS.size h) _ _ _ _ ?_
          have hSS : BelS wS wS := BelS.refl wS
          refine wpAnyH_take (i := 5) (oi := _) (v := ?_) rfl (by kernel_rfl) (by kernel_rfl) (by kernel_rfl) (fun _ _ _ h => h) (Or.inl ⟨by rfl, ?_⟩) hSS ?_
          rotate_left
          · intro W hSW
            have hes := HEQS.out W
            try go_simp
            all_goals with_reducible rfl
          simp only [Act.put, List.setIfInBounds_toArray, List.set_cons_zero, List.set_cons_succ, List.getElem_toArray, List.getElem_cons_zero, List.getElem_cons_succ]
          refine wpAnyH_take (i := 7) (oi := _) (v := ?_) rfl (by kernel_rfl) (by kernel_rfl) (by kernel_rfl) (fun _ _ _ h => h) (Or.inl ⟨by rfl, ?_⟩) hSS ?_
          rotate_left
          · intro W hSW
            try go_simp
            all_goals with_reducible rfl
          simp only [Act.put, List.setIfInBounds_toArray, List.set_cons_zero, List.set_cons_succ, List.getElem_toArray, List.getElem_cons_zero, List.getElem_cons_succ]
          refine wpAnyH_take (i := 8) (oi := _) (v := ?_) rfl (by kernel_rfl) (by kernel_rfl) (by kernel_rfl) (fun _ _ _ h => h) (Or.inl ⟨by rfl, ?_⟩) hSS ?_
          rotate_left
          · intro W hSW
            try go_simp
            all_goals with_reducible rfl
          simp only [Act.put, List.setIfInBounds_toArray, List.set_cons_zero, List.set_cons_succ, List.getElem_toArray, List.getElem_cons_zero, List.getElem_cons_succ]
          refine wpAnyH_take (i := 9) (oi := _) (v := ?_) rfl (by kernel_rfl) (by kernel_rfl) (by kernel_rfl) (fun _ _ _ h => h) (Or.inl ⟨by rfl, ?_⟩) hSS ?_
          rotate_left
          · intro W hSW
            try go_simp
            all_goals with_reducible rfl
          simp only [Act.put, List.setIfInBounds_toArray, List.set_cons_zero, List.set_cons_succ, List.getElem_toArray, List.getElem_cons_zero, List.getElem_cons_succ]
          refine wpAnyH_take (i := 10) (oi := _) (v := ?_) rfl (by kernel_rfl) (by kernel_rfl) (by kernel_rfl) (fun _ _ _ h => h) (Or.inl ⟨by rfl, ?_⟩) hSS ?_
          rotate_left
          · intro W hSW
            obtain ⟨⟨p0, p1, p2, p3, p4, p5⟩, ⟨x0, x1, x2, x3, x4, x5, x6⟩, ⟨a0, a1, a2, a3⟩, ⟨b0, b1, b2, b3⟩, -⟩ := HC9.out W (below_chain hqS hqS.size hSW)
            try go_simp
            all_goals with_reducible rfl
          simp only [Act.put, List.setIfInBounds_toArray, List.set_cons_zero, List.set_cons_succ, List.getElem_toArray, List.getElem_cons_zero, List.getElem_cons_succ]
          refine wpAnyH_take (i := 11) (oi := _) (v := ?_) rfl (by kernel_rfl) (by kernel_rfl) (by kernel_rfl) (fun _ _ _ h => h) (Or.inl ⟨by rfl, ?_⟩) hSS ?_
          rotate_left
          · intro W hSW
            have hps := HPS2.out
            try go_simp
            all_goals with_reducible rfl
          simp only [Act.put, List.setIfInBounds_toArray, List.set_cons_zero, List.set_cons_succ, List.getElem_toArray, List.getElem_cons_zero, List.getElem_cons_succ]
          refine wpAnyH_take (i := 12) (oi := _) (v := ?_) rfl (by kernel_rfl) (by kernel_rfl) (by kernel_rfl) (fun _ _ _ h => h) (Or.inl ⟨by rfl, ?_⟩) hSS ?_
          rotate_left
          · intro W hSW
            try go_simp
            all_goals with_reducible rfl
          simp only [Act.put, List.setIfInBounds_toArray, List.set_cons_zero, List.set_cons_succ, List.getElem_toArray, List.getElem_cons_zero, List.getElem_cons_succ]
          refine wpAnyH_take (i := 13) (oi := _) (v := ?_) rfl (by kernel_rfl) (by kernel_rfl) (by kernel_rfl) (fun _ _ _ h => h) (Or.inl ⟨by rfl, ?_⟩) hSS ?_
          rotate_left
          · intro W hSW
            try go_simp
            all_goals with_reducible rfl
          simp only [Act.put, List.setIfInBounds_toArray, List.set_cons_zero, List.set_cons_succ, List.getElem_toArray, List.getElem_cons_zero, List.getElem_cons_succ]
          refine wpAnyH_take (i := 14) (oi := _) (v := ?_) rfl (by kernel_rfl) (by kernel_rfl) (by kernel_rfl) (fun _ _ _ h => h) (Or.inl ⟨by rfl, ?_⟩) hSS ?_
          rotate_left
          · intro W hSW
            try go_simp
            all_goals with_reducible rfl
          simp only [Act.put, List.setIfInBounds_toArray, List.set_cons_zero, List.set_cons_succ, List.getElem_toArray, List.getElem_cons_zero, List.getElem_cons_succ]
          refine wpAnyH_take (i := 15) (oi := _) (v := ?_) rfl (by kernel_rfl) (by kernel_rfl) (by kernel_rfl) (fun _ _ _ h => h) (Or.inl ⟨by rfl, ?_⟩) hSS ?_
          rotate_left
          · intro W hSW
            try go_simp
            all_goals with_reducible rfl
          simp only [Act.put, List.setIfInBounds_toArray, List.set_cons_zero, List.set_cons_succ, List.getElem_toArray, List.getElem_cons_zero, List.getElem_cons_succ]
          refine wpAnyH_done (by kernel_rfl) ?_ _
          have hbo := below_chain hq9 hq9.size (hqS)
          go_wp2_with fail
          go_ret
          exact ⟨rfl, hbo⟩
      · have heq : (kf.toList == ke.toList) = false := by rw [beqS, decide_eq_false hke]
        have HEQ := Lib.hid heq
        obtain ⟨rfl, hbal⟩ := F1.out hke
        have HBL := Lib.hid (show Calls Tryz.prog 10 #[.pointer (some ⟨yb, 0, none⟩), .string kf, .string kd] w9.drew fun e w' => e = .returned Q.val ∧ Below w9.drew.heap.size w9.drew w' by rw [← hbal]; exact (HAA.out _ hbd).bal kf kd (by have := HOKK.out; omega) (by have := HOKK.out; omega))
        unfold U4.val U4.cells at HBL
        clear heq hbal hke
        go_wp2_with fail
        try rw [hw9]
        try rw [hg15]
        refine wp_region_held_drew (S := BelS w9.drew) (by kernel_rfl) (BelS.refl _) (fun hS0 => ?_)
        refine wpAnyH_take (i := 0) (oi := _) (v := ?_) rfl (by kernel_rfl) (by kernel_rfl) (by kernel_rfl) (fun _ _ _ h => h) (Or.inl ⟨by rfl, ?_⟩) hS0 ?_
        rotate_left
        · intro W hSW
          try go_simp
          all_goals with_reducible rfl
        simp only [Act.put, List.setIfInBounds_toArray, List.set_cons_zero, List.set_cons_succ, List.getElem_toArray, List.getElem_cons_zero, List.getElem_cons_succ]
        refine wpAnyH_take (i := 1) (oi := _) (v := ?_) rfl (by kernel_rfl) (by kernel_rfl) (by kernel_rfl) (fun _ _ _ h => h) (Or.inl ⟨by rfl, ?_⟩) hS0 ?_
        rotate_left
        · intro W hSW
          try go_simp
          all_goals with_reducible rfl
        simp only [Act.put, List.setIfInBounds_toArray, List.set_cons_zero, List.set_cons_succ, List.getElem_toArray, List.getElem_cons_zero, List.getElem_cons_succ]
        refine wpAnyH_take (i := 2) (oi := _) (v := ?_) rfl (by kernel_rfl) (by kernel_rfl) (by kernel_rfl) (fun _ _ _ h => h) (Or.inl ⟨by rfl, ?_⟩) hS0 ?_
        rotate_left
        · intro W hSW
          try go_simp
          all_goals with_reducible rfl
        simp only [Act.put, List.setIfInBounds_toArray, List.set_cons_zero, List.set_cons_succ, List.getElem_toArray, List.getElem_cons_zero, List.getElem_cons_succ]
        refine wpAnyH_take (i := 3) (oi := _) (v := ?_) rfl (by kernel_rfl) (by kernel_rfl) (by kernel_rfl) (fun _ _ _ h => h) (Or.inl ⟨by rfl, ?_⟩) hS0 ?_
        rotate_left
        · intro W hSW
          try go_simp
          all_goals with_reducible rfl
        simp only [Act.put, List.setIfInBounds_toArray, List.set_cons_zero, List.set_cons_succ, List.getElem_toArray, List.getElem_cons_zero, List.getElem_cons_succ]
        refine wpAnyH_take (i := 4) (oi := _) (v := ?_) rfl (by kernel_rfl) (by kernel_rfl) (by kernel_rfl) (fun _ _ _ h => h) (Or.inl ⟨by rfl, ?_⟩) hS0 ?_
        rotate_left
        · intro W hSW
          obtain ⟨⟨p0, p1, p2, p3, p4, p5⟩, ⟨x0, x1, x2, x3, x4, x5, x6⟩, ⟨a0, a1, a2, a3⟩, ⟨b0, b1, b2, b3⟩, ⟨s0, s1, s2, s3⟩⟩ := HC9.out W (below_chain hbd hbd.size hSW)
          try go_simp
          all_goals with_reducible rfl
        simp only [Act.put, List.setIfInBounds_toArray, List.set_cons_zero, List.set_cons_succ, List.getElem_toArray, List.getElem_cons_zero, List.getElem_cons_succ]
        refine wpAnyH_take (i := 5) (oi := _) (v := ?_) rfl (by kernel_rfl) (by kernel_rfl) (by kernel_rfl) (fun _ _ _ h => h) (Or.inl ⟨by rfl, ?_⟩) hS0 ?_
        rotate_left
        · intro W hSW
          try go_simp
          all_goals with_reducible rfl
        simp only [Act.put, List.setIfInBounds_toArray, List.set_cons_zero, List.set_cons_succ, List.getElem_toArray, List.getElem_cons_zero, List.getElem_cons_succ]
        refine wpAnyH_take (i := 6) (oi := _) (v := ?_) rfl (by kernel_rfl) (by kernel_rfl) (by kernel_rfl) (fun _ _ _ h => h) (Or.inl ⟨by rfl, ?_⟩) hS0 ?_
        rotate_left
        · intro W hSW
          obtain ⟨⟨p0, p1, p2, p3, p4, p5⟩, ⟨x0, x1, x2, x3, x4, x5, x6⟩, ⟨a0, a1, a2, a3⟩, ⟨b0, b1, b2, b3⟩, ⟨s0, s1, s2, s3⟩⟩ := HC9.out W (below_chain hbd hbd.size hSW)
          try go_simp
          all_goals with_reducible rfl
        simp only [Act.put, List.setIfInBounds_toArray, List.set_cons_zero, List.set_cons_succ, List.getElem_toArray, List.getElem_cons_zero, List.getElem_cons_succ]
        refine wpAnyH_ready (rs := [7]) (by kernel_rfl) (by simp) (AllReadyH.cons rfl (fun K hK => ?_) AllReadyH.nil)
        have DE := Lib.hid (HES.out w9.drew)
        go_simp
        go_wp2_with ((go_at_call 17; (with_reducible refine DE.out.mono ?_); rintro e wE ⟨rfl, rfl⟩))
        refine hK.out _ _ hS0 (fun _ => ?_)
        clear hK K
        refine wpAnyH_take (i := 8) (oi := _) (v := ?_) rfl (by kernel_rfl) (by kernel_rfl) (by kernel_rfl) (fun _ _ _ h => h) (Or.inl ⟨by rfl, ?_⟩) hS0 ?_
        rotate_left
        · intro W hSW
          have hee := HEQ.out
          try go_simp
          all_goals with_reducible rfl
        simp only [Act.put, List.setIfInBounds_toArray, List.set_cons_zero, List.set_cons_succ, List.getElem_toArray, List.getElem_cons_zero, List.getElem_cons_succ]
        refine wpAnyH_take (i := 9) (oi := _) (v := ?_) rfl (by kernel_rfl) (by kernel_rfl) (by kernel_rfl) (fun _ _ _ h => h) (Or.inl ⟨by rfl, ?_⟩) hS0 ?_
        rotate_left
        · intro W hSW
          try go_simp
          all_goals with_reducible rfl
        simp only [Act.put, List.setIfInBounds_toArray, List.set_cons_zero, List.set_cons_succ, List.getElem_toArray, List.getElem_cons_zero, List.getElem_cons_succ]
        refine wpAnyH_take (i := 10) (oi := _) (v := ?_) rfl (by kernel_rfl) (by kernel_rfl) (by kernel_rfl) (fun _ _ _ h => h) (Or.inl ⟨by rfl, ?_⟩) hS0 ?_
        rotate_left
        · intro W hSW
          try go_simp
          all_goals with_reducible rfl
        simp only [Act.put, List.setIfInBounds_toArray, List.set_cons_zero, List.set_cons_succ, List.getElem_toArray, List.getElem_cons_zero, List.getElem_cons_succ]
        refine wpAnyH_take (i := 11) (oi := _) (v := ?_) rfl (by kernel_rfl) (by kernel_rfl) (by kernel_rfl) (fun _ _ _ h => h) (Or.inl ⟨by rfl, ?_⟩) hS0 ?_
        rotate_left
        · intro W hSW
          try go_simp
          all_goals with_reducible rfl
        simp only [Act.put, List.setIfInBounds_toArray, List.set_cons_zero, List.set_cons_succ, List.getElem_toArray, List.getElem_cons_zero, List.getElem_cons_succ]
        refine wpAnyH_take (i := 12) (oi := _) (v := ?_) rfl (by kernel_rfl) (by kernel_rfl) (by kernel_rfl) (fun _ _ _ h => h) (Or.inl ⟨by rfl, ?_⟩) hS0 ?_
        rotate_left
        · intro W hSW
          try go_simp
          all_goals with_reducible rfl
        simp only [Act.put, List.setIfInBounds_toArray, List.set_cons_zero, List.set_cons_succ, List.getElem_toArray, List.getElem_cons_zero, List.getElem_cons_succ]
        refine wpAnyH_take (i := 13) (oi := _) (v := ?_) rfl (by kernel_rfl) (by kernel_rfl) (by kernel_rfl) (fun _ _ _ h => h) (Or.inl ⟨by rfl, ?_⟩) hS0 ?_
        rotate_left
        · intro W hSW
          try go_simp
          all_goals with_reducible rfl
        simp only [Act.put, List.setIfInBounds_toArray, List.set_cons_zero, List.set_cons_succ, List.getElem_toArray, List.getElem_cons_zero, List.getElem_cons_succ]
        refine wpAnyH_take (i := 14) (oi := _) (v := ?_) rfl (by kernel_rfl) (by kernel_rfl) (by kernel_rfl) (fun _ _ _ h => h) (Or.inl ⟨by rfl, ?_⟩) hS0 ?_
        rotate_left
        · intro W hSW
          try go_simp
          all_goals with_reducible rfl
        simp only [Act.put, List.setIfInBounds_toArray, List.set_cons_zero, List.set_cons_succ, List.getElem_toArray, List.getElem_cons_zero, List.getElem_cons_succ]
        refine wpAnyH_take (i := 15) (oi := _) (v := ?_) rfl (by kernel_rfl) (by kernel_rfl) (by kernel_rfl) (fun _ _ _ h => h) (Or.inl ⟨by rfl, ?_⟩) hS0 ?_
        rotate_left
        · intro W hSW
          obtain ⟨⟨p0, p1, p2, p3, p4, p5⟩, ⟨x0, x1, x2, x3, x4, x5, x6⟩, ⟨a0, a1, a2, a3⟩, ⟨b0, b1, b2, b3⟩, ⟨s0, s1, s2, s3⟩⟩ := HC9.out W (below_chain hbd hbd.size hSW)
          try go_simp
          all_goals with_reducible rfl
        simp only [Act.put, List.setIfInBounds_toArray, List.set_cons_zero, List.set_cons_succ, List.getElem_toArray, List.getElem_cons_zero, List.getElem_cons_succ]
        refine wpAnyH_take (i := 16) (oi := _) (v := ?_) rfl (by kernel_rfl) (by kernel_rfl) (by kernel_rfl) (fun _ _ _ h => h) (Or.inl ⟨by rfl, ?_⟩) hS0 ?_
        rotate_left
        · intro W hSW
          try go_simp
          all_goals with_reducible rfl
        simp only [Act.put, List.setIfInBounds_toArray, List.set_cons_zero, List.set_cons_succ, List.getElem_toArray, List.getElem_cons_zero, List.getElem_cons_succ]
        refine wpAnyH_take (i := 17) (oi := _) (v := ?_) rfl (by kernel_rfl) (by kernel_rfl) (by kernel_rfl) (fun _ _ _ h => h) (Or.inl ⟨by rfl, ?_⟩) hS0 ?_
        rotate_left
        · intro W hSW
          obtain ⟨⟨p0, p1, p2, p3, p4, p5⟩, ⟨x0, x1, x2, x3, x4, x5, x6⟩, ⟨a0, a1, a2, a3⟩, ⟨b0, b1, b2, b3⟩, ⟨s0, s1, s2, s3⟩⟩ := HC9.out W (below_chain hbd hbd.size hSW)
          try go_simp
          all_goals with_reducible rfl
        simp only [Act.put, List.setIfInBounds_toArray, List.set_cons_zero, List.set_cons_succ, List.getElem_toArray, List.getElem_cons_zero, List.getElem_cons_succ]
        refine wpAnyH_take (i := 19) (oi := _) (v := ?_) rfl (by kernel_rfl) (by kernel_rfl) (by kernel_rfl) (fun _ _ _ h => h) (Or.inl ⟨by rfl, ?_⟩) hS0 ?_
        rotate_left
        · intro W hSW
          obtain ⟨⟨p0, p1, p2, p3, p4, p5⟩, ⟨x0, x1, x2, x3, x4, x5, x6⟩, ⟨a0, a1, a2, a3⟩, ⟨b0, b1, b2, b3⟩, ⟨s0, s1, s2, s3⟩⟩ := HC9.out W (below_chain hbd hbd.size hSW)
          try go_simp
          all_goals with_reducible rfl
        simp only [Act.put, List.setIfInBounds_toArray, List.set_cons_zero, List.set_cons_succ, List.getElem_toArray, List.getElem_cons_zero, List.getElem_cons_succ]
        refine wpAnyH_ready (rs := [18]) (by kernel_rfl) (by simp) (AllReadyH.cons rfl (fun K hK => ?_) AllReadyH.nil)
        have DB := Lib.hid (HBL.out)
        go_simp
        go_wp2_with ((go_at_call 10; (with_reducible refine DB.out.mono ?_); rintro e wB ⟨rfl, hbB⟩))
        have hqB := below_chain hbd hbd.size hbB
        refine hK.out _ _ hbB (fun _ => ?_)
        clear hK K
        refine wpAnyH_stronger (S' := BelS wB) (fun W h => below_chain hbB hbB.size h) _ _ _ _ ?_
        have hSB : BelS wB wB := BelS.refl wB
        refine wpAnyH_take (i := 20) (oi := _) (v := ?_) rfl (by kernel_rfl) (by kernel_rfl) (by kernel_rfl) (fun _ _ _ h => h) (Or.inl ⟨by rfl, ?_⟩) hSB ?_
        rotate_left
        · intro W hSW
          have hnn := HNE.out W
          try go_simp
          all_goals with_reducible rfl
        simp only [Act.put, List.setIfInBounds_toArray, List.set_cons_zero, List.set_cons_succ, List.getElem_toArray, List.getElem_cons_zero, List.getElem_cons_succ]
        refine wpAnyH_take (i := 21) (oi := _) (v := ?_) rfl (by kernel_rfl) (by kernel_rfl) (by kernel_rfl) (fun _ _ _ h => h) (Or.inl ⟨by rfl, ?_⟩) hSB ?_
        rotate_left
        · intro W hSW
          try go_simp
          all_goals with_reducible rfl
        simp only [Act.put, List.setIfInBounds_toArray, List.set_cons_zero, List.set_cons_succ, List.getElem_toArray, List.getElem_cons_zero, List.getElem_cons_succ]
        refine wpAnyH_take (i := 22) (oi := _) (v := ?_) rfl (by kernel_rfl) (by kernel_rfl) (by kernel_rfl) (fun _ _ _ h => h) (Or.inl ⟨by rfl, ?_⟩) hSB ?_
        rotate_left
        · intro W hSW
          try go_simp
          all_goals with_reducible rfl
        simp only [Act.put, List.setIfInBounds_toArray, List.set_cons_zero, List.set_cons_succ, List.getElem_toArray, List.getElem_cons_zero, List.getElem_cons_succ]
        refine wpAnyH_take (i := 23) (oi := _) (v := ?_) rfl (by kernel_rfl) (by kernel_rfl) (by kernel_rfl) (fun _ _ _ h => h) (Or.inl ⟨by rfl, ?_⟩) hSB ?_
        rotate_left
        · intro W hSW
          try go_simp
          all_goals with_reducible rfl
        simp only [Act.put, List.setIfInBounds_toArray, List.set_cons_zero, List.set_cons_succ, List.getElem_toArray, List.getElem_cons_zero, List.getElem_cons_succ]
        refine wpAnyH_done (by kernel_rfl) ?_ _
        go_wp2_with fail
        rcases HV2.out with ⟨rfl, ht⟩ | ⟨rfl, rfl, ht⟩ | ⟨rfl, hnp, ht⟩
        · have hb13 : Below w9.heap.size w9 (wB).drew := (hqB).drew
          have HSU := Lib.hid (show Calls Tryz.prog 11 #[.pointer (some ⟨yb, 0, none⟩), .string kd] (wB).drew fun e w' => e = .returned YS.val ∧ Below (wB).drew.heap.size (wB).drew w' by rw [HYS.out]; exact (HAA.out _ hb13).sup kd (by have := HOKK.out; omega))
          have heqs : ∀ W, (Op.equalIn 10000 33 (.agg YS.cells) (.agg XS.cells)).run Tryz.prog W = .ok true W := fun W => by rw [F23.out.2 ht, ← eqB_refl XS]; exact run_equal4 XS XS W
          unfold U4.val at HSU
          unfold U4.cells at HSU heqs
          have HEQS := Lib.hid heqs
          clear heqs ht
          go_wp2_with fail
          refine wp_region_held_drew (S := BelS (wB).drew) (by kernel_rfl) (BelS.refl _) (fun hS0 => ?_)
          refine wpAnyH_take (i := 0) (oi := _) (v := ?_) rfl (by kernel_rfl) (by kernel_rfl) (by kernel_rfl) (fun _ _ _ h => h) (Or.inl ⟨by rfl, ?_⟩) hS0 ?_
          rotate_left
          · intro W hSW
            try go_simp
            all_goals with_reducible rfl
          simp only [Act.put, List.setIfInBounds_toArray, List.set_cons_zero, List.set_cons_succ, List.getElem_toArray, List.getElem_cons_zero, List.getElem_cons_succ]
          refine wpAnyH_take (i := 1) (oi := _) (v := ?_) rfl (by kernel_rfl) (by kernel_rfl) (by kernel_rfl) (fun _ _ _ h => h) (Or.inl ⟨by rfl, ?_⟩) hS0 ?_
          rotate_left
          · intro W hSW
            try go_simp
            all_goals with_reducible rfl
          simp only [Act.put, List.setIfInBounds_toArray, List.set_cons_zero, List.set_cons_succ, List.getElem_toArray, List.getElem_cons_zero, List.getElem_cons_succ]
          refine wpAnyH_take (i := 2) (oi := _) (v := ?_) rfl (by kernel_rfl) (by kernel_rfl) (by kernel_rfl) (fun _ _ _ h => h) (Or.inl ⟨by rfl, ?_⟩) hS0 ?_
          rotate_left
          · intro W hSW
            obtain ⟨⟨p0, p1, p2, p3, p4, p5⟩, ⟨x0, x1, x2, x3, x4, x5, x6⟩, ⟨a0, a1, a2, a3⟩, ⟨b0, b1, b2, b3⟩, -⟩ := HC9.out W (below_chain hb13 hb13.size hSW)
            try go_simp
            all_goals with_reducible rfl
          simp only [Act.put, List.setIfInBounds_toArray, List.set_cons_zero, List.set_cons_succ, List.getElem_toArray, List.getElem_cons_zero, List.getElem_cons_succ]
          refine wpAnyH_take (i := 4) (oi := _) (v := ?_) rfl (by kernel_rfl) (by kernel_rfl) (by kernel_rfl) (fun _ _ _ h => h) (Or.inl ⟨by rfl, ?_⟩) hS0 ?_
          rotate_left
          · intro W hSW
            obtain ⟨⟨p0, p1, p2, p3, p4, p5⟩, ⟨x0, x1, x2, x3, x4, x5, x6⟩, ⟨a0, a1, a2, a3⟩, ⟨b0, b1, b2, b3⟩, -⟩ := HC9.out W (below_chain hb13 hb13.size hSW)
            try go_simp
            all_goals with_reducible rfl
          simp only [Act.put, List.setIfInBounds_toArray, List.set_cons_zero, List.set_cons_succ, List.getElem_toArray, List.getElem_cons_zero, List.getElem_cons_succ]
          refine wpAnyH_take (i := 6) (oi := _) (v := ?_) rfl (by kernel_rfl) (by kernel_rfl) (by kernel_rfl) (fun _ _ _ h => h) (Or.inl ⟨by rfl, ?_⟩) hS0 ?_
          rotate_left
          · intro W hSW
            try go_simp
            all_goals with_reducible rfl
          simp only [Act.put, List.setIfInBounds_toArray, List.set_cons_zero, List.set_cons_succ, List.getElem_toArray, List.getElem_cons_zero, List.getElem_cons_succ]
          refine wpAnyH_ready (rs := [3]) (by kernel_rfl) (by simp) (AllReadyH.cons rfl (fun K hK => ?_) AllReadyH.nil)
          have DS := Lib.hid (HSU.out)
          go_simp
          go_wp2_with ((go_at_call 11; (with_reducible refine DS.out.mono ?_); rintro e wS ⟨rfl, hbS⟩))
          have hqS := below_chain hb13 hb13.size hbS
          refine hK.out _ _ hbS (fun _ => ?_)
          clear hK K
          refine wpAnyH_stronger (S' := BelS wS) (fun W h => below_chain hbS hbS.size h) _ _ _ _ ?_
          have hSS : BelS wS wS := BelS.refl wS
          refine wpAnyH_take (i := 5) (oi := _) (v := ?_) rfl (by kernel_rfl) (by kernel_rfl) (by kernel_rfl) (fun _ _ _ h => h) (Or.inl ⟨by rfl, ?_⟩) hSS ?_
          rotate_left
          · intro W hSW
            have hes := HEQS.out W
            try go_simp
            all_goals with_reducible rfl
          simp only [Act.put, List.setIfInBounds_toArray, List.set_cons_zero, List.set_cons_succ, List.getElem_toArray, List.getElem_cons_zero, List.getElem_cons_succ]
          refine wpAnyH_take (i := 7) (oi := _) (v := ?_) rfl (by kernel_rfl) (by kernel_rfl) (by kernel_rfl) (fun _ _ _ h => h) (Or.inl ⟨by rfl, ?_⟩) hSS ?_
          rotate_left
          · intro W hSW
            try go_simp
            all_goals with_reducible rfl
          simp only [Act.put, List.setIfInBounds_toArray, List.set_cons_zero, List.set_cons_succ, List.getElem_toArray, List.getElem_cons_zero, List.getElem_cons_succ]
          refine wpAnyH_take (i := 8) (oi := _) (v := undef) rfl (by kernel_rfl) (by kernel_rfl) (by kernel_rfl) (fun _ _ _ h => h) (Or.inr ⟨by rfl, rfl⟩) hSS ?_
          simp only [Act.put, List.setIfInBounds_toArray, List.set_cons_zero, List.set_cons_succ, List.getElem_toArray, List.getElem_cons_zero, List.getElem_cons_succ]
          refine wpAnyH_take (i := 9) (oi := _) (v := undef) rfl (by kernel_rfl) (by kernel_rfl) (by kernel_rfl) (fun _ _ _ h => h) (Or.inr ⟨by rfl, rfl⟩) hSS ?_
          simp only [Act.put, List.setIfInBounds_toArray, List.set_cons_zero, List.set_cons_succ, List.getElem_toArray, List.getElem_cons_zero, List.getElem_cons_succ]
          refine wpAnyH_take (i := 10) (oi := _) (v := undef) rfl (by kernel_rfl) (by kernel_rfl) (by kernel_rfl) (fun _ _ _ h => h) (Or.inr ⟨by rfl, rfl⟩) hSS ?_
          simp only [Act.put, List.setIfInBounds_toArray, List.set_cons_zero, List.set_cons_succ, List.getElem_toArray, List.getElem_cons_zero, List.getElem_cons_succ]
          refine wpAnyH_take (i := 11) (oi := _) (v := undef) rfl (by kernel_rfl) (by kernel_rfl) (by kernel_rfl) (fun _ _ _ h => h) (Or.inr ⟨by rfl, rfl⟩) hSS ?_
          simp only [Act.put, List.setIfInBounds_toArray, List.set_cons_zero, List.set_cons_succ, List.getElem_toArray, List.getElem_cons_zero, List.getElem_cons_succ]
          refine wpAnyH_take (i := 12) (oi := _) (v := ?_) rfl (by kernel_rfl) (by kernel_rfl) (by kernel_rfl) (fun _ _ _ h => h) (Or.inl ⟨by rfl, ?_⟩) hSS ?_
          rotate_left
          · intro W hSW
            try go_simp
            all_goals with_reducible rfl
          simp only [Act.put, List.setIfInBounds_toArray, List.set_cons_zero, List.set_cons_succ, List.getElem_toArray, List.getElem_cons_zero, List.getElem_cons_succ]
          refine wpAnyH_take (i := 13) (oi := _) (v := ?_) rfl (by kernel_rfl) (by kernel_rfl) (by kernel_rfl) (fun _ _ _ h => h) (Or.inl ⟨by rfl, ?_⟩) hSS ?_
          rotate_left
          · intro W hSW
            try go_simp
            all_goals with_reducible rfl
          simp only [Act.put, List.setIfInBounds_toArray, List.set_cons_zero, List.set_cons_succ, List.getElem_toArray, List.getElem_cons_zero, List.getElem_cons_succ]
          refine wpAnyH_take (i := 14) (oi := _) (v := ?_) rfl (by kernel_rfl) (by kernel_rfl) (by kernel_rfl) (fun _ _ _ h => h) (Or.inl ⟨by rfl, ?_⟩) hSS ?_
          rotate_left
          · intro W hSW
            try go_simp
            all_goals with_reducible rfl
          simp only [Act.put, List.setIfInBounds_toArray, List.set_cons_zero, List.set_cons_succ, List.getElem_toArray, List.getElem_cons_zero, List.getElem_cons_succ]
          refine wpAnyH_take (i := 15) (oi := _) (v := ?_) rfl (by kernel_rfl) (by kernel_rfl) (by kernel_rfl) (fun _ _ _ h => h) (Or.inl ⟨by rfl, ?_⟩) hSS ?_
          rotate_left
          · intro W hSW
            try go_simp
            all_goals with_reducible rfl
          simp only [Act.put, List.setIfInBounds_toArray, List.set_cons_zero, List.set_cons_succ, List.getElem_toArray, List.getElem_cons_zero, List.getElem_cons_succ]
          refine wpAnyH_done (by kernel_rfl) ?_ _
          have hbo := below_chain hq9 hq9.size (hqS)
          go_wp2_with fail
          go_ret
          exact ⟨rfl, hbo⟩
        · have hb13 : Below w9.heap.size w9 (wB).drew := (hqB).drew
          have HSU := Lib.hid (show Calls Tryz.prog 11 #[.pointer (some ⟨yb, 0, none⟩), .string kd] (wB).drew fun e w' => e = .returned YS.val ∧ Below (wB).drew.heap.size (wB).drew w' by rw [HYS.out]; exact (HAA.out _ hb13).sup kd (by have := HOKK.out; omega))
          have heqs : ∀ W, (Op.equalIn 10000 33 (.agg YS.cells) (.agg XS.cells)).run Tryz.prog W = .ok false W := fun W => by rw [← F23.out.1 ht]; exact run_equal4 YS XS W
          unfold U4.val at HSU
          unfold U4.cells at HSU heqs
          have HEQS := Lib.hid heqs
          clear heqs ht
          go_wp2_with fail
          refine wp_region_held_drew (S := BelS (wB).drew) (by kernel_rfl) (BelS.refl _) (fun hS0 => ?_)
          refine wpAnyH_take (i := 0) (oi := _) (v := ?_) rfl (by kernel_rfl) (by kernel_rfl) (by kernel_rfl) (fun _ _ _ h => h) (Or.inl ⟨by rfl, ?_⟩) hS0 ?_
          rotate_left
          · intro W hSW
            try go_simp
            all_goals with_reducible rfl
          simp only [Act.put, List.setIfInBounds_toArray, List.set_cons_zero, List.set_cons_succ, List.getElem_toArray, List.getElem_cons_zero, List.getElem_cons_succ]
          refine wpAnyH_take (i := 1) (oi := _) (v := ?_) rfl (by kernel_rfl) (by kernel_rfl) (by kernel_rfl) (fun _ _ _ h => h) (Or.inl ⟨by rfl, ?_⟩) hS0 ?_
          rotate_left
          · intro W hSW
            try go_simp
            all_goals with_reducible rfl
          simp only [Act.put, List.setIfInBounds_toArray, List.set_cons_zero, List.set_cons_succ, List.getElem_toArray, List.getElem_cons_zero, List.getElem_cons_succ]
          refine wpAnyH_take (i := 2) (oi := _) (v := ?_) rfl (by kernel_rfl) (by kernel_rfl) (by kernel_rfl) (fun _ _ _ h => h) (Or.inl ⟨by rfl, ?_⟩) hS0 ?_
          rotate_left
          · intro W hSW
            obtain ⟨⟨p0, p1, p2, p3, p4, p5⟩, ⟨x0, x1, x2, x3, x4, x5, x6⟩, ⟨a0, a1, a2, a3⟩, ⟨b0, b1, b2, b3⟩, -⟩ := HC9.out W (below_chain hb13 hb13.size hSW)
            try go_simp
            all_goals with_reducible rfl
          simp only [Act.put, List.setIfInBounds_toArray, List.set_cons_zero, List.set_cons_succ, List.getElem_toArray, List.getElem_cons_zero, List.getElem_cons_succ]
          refine wpAnyH_take (i := 4) (oi := _) (v := ?_) rfl (by kernel_rfl) (by kernel_rfl) (by kernel_rfl) (fun _ _ _ h => h) (Or.inl ⟨by rfl, ?_⟩) hS0 ?_
          rotate_left
          · intro W hSW
            obtain ⟨⟨p0, p1, p2, p3, p4, p5⟩, ⟨x0, x1, x2, x3, x4, x5, x6⟩, ⟨a0, a1, a2, a3⟩, ⟨b0, b1, b2, b3⟩, -⟩ := HC9.out W (below_chain hb13 hb13.size hSW)
            try go_simp
            all_goals with_reducible rfl
          simp only [Act.put, List.setIfInBounds_toArray, List.set_cons_zero, List.set_cons_succ, List.getElem_toArray, List.getElem_cons_zero, List.getElem_cons_succ]
          refine wpAnyH_take (i := 6) (oi := _) (v := ?_) rfl (by kernel_rfl) (by kernel_rfl) (by kernel_rfl) (fun _ _ _ h => h) (Or.inl ⟨by rfl, ?_⟩) hS0 ?_
          rotate_left
          · intro W hSW
            try go_simp
            all_goals with_reducible rfl
          simp only [Act.put, List.setIfInBounds_toArray, List.set_cons_zero, List.set_cons_succ, List.getElem_toArray, List.getElem_cons_zero, List.getElem_cons_succ]
          refine wpAnyH_ready (rs := [3]) (by kernel_rfl) (by simp) (AllReadyH.cons rfl (fun K hK => ?_) AllReadyH.nil)
          have DS := Lib.hid (HSU.out)
          go_simp
          go_wp2_with ((go_at_call 11; (with_reducible refine DS.out.mono ?_); rintro e wS ⟨rfl, hbS⟩))
          have hqS := below_chain hb13 hb13.size hbS
          refine hK.out _ _ hbS (fun _ => ?_)
          clear hK K
          refine wpAnyH_stronger (S' := BelS wS) (fun W h => below_chain hbS hbS.size h) _ _ _ _ ?_
          have hSS : BelS wS wS := BelS.refl wS
          refine wpAnyH_take (i := 5) (oi := _) (v := ?_) rfl (by kernel_rfl) (by kernel_rfl) (by kernel_rfl) (fun _ _ _ h => h) (Or.inl ⟨by rfl, ?_⟩) hSS ?_
          rotate_left
          · intro W hSW
            have hes := HEQS.out W
            try go_simp
            all_goals with_reducible rfl
          simp only [Act.put, List.setIfInBounds_toArray, List.set_cons_zero, List.set_cons_succ, List.getElem_toArray, List.getElem_cons_zero, List.getElem_cons_succ]
          refine wpAnyH_take (i := 7) (oi := _) (v := ?_) rfl (by kernel_rfl) (by kernel_rfl) (by kernel_rfl) (fun _ _ _ h => h) (Or.inl ⟨by rfl, ?_⟩) hSS ?_
          rotate_left
          · intro W hSW
            try go_simp
            all_goals with_reducible rfl
          simp only [Act.put, List.setIfInBounds_toArray, List.set_cons_zero, List.set_cons_succ, List.getElem_toArray, List.getElem_cons_zero, List.getElem_cons_succ]
          refine wpAnyH_take (i := 8) (oi := _) (v := ?_) rfl (by kernel_rfl) (by kernel_rfl) (by kernel_rfl) (fun _ _ _ h => h) (Or.inl ⟨by rfl, ?_⟩) hSS ?_
          rotate_left
          · intro W hSW
            try go_simp
            all_goals with_reducible rfl
          simp only [Act.put, List.setIfInBounds_toArray, List.set_cons_zero, List.set_cons_succ, List.getElem_toArray, List.getElem_cons_zero, List.getElem_cons_succ]
          refine wpAnyH_take (i := 9) (oi := _) (v := ?_) rfl (by kernel_rfl) (by kernel_rfl) (by kernel_rfl) (fun _ _ _ h => h) (Or.inl ⟨by rfl, ?_⟩) hSS ?_
          rotate_left
          · intro W hSW
            try go_simp
            all_goals with_reducible rfl
          simp only [Act.put, List.setIfInBounds_toArray, List.set_cons_zero, List.set_cons_succ, List.getElem_toArray, List.getElem_cons_zero, List.getElem_cons_succ]
          refine wpAnyH_take (i := 10) (oi := _) (v := ?_) rfl (by kernel_rfl) (by kernel_rfl) (by kernel_rfl) (fun _ _ _ h => h) (Or.inl ⟨by rfl, ?_⟩) hSS ?_
          rotate_left
          · intro W hSW
            obtain ⟨⟨p0, p1, p2, p3, p4, p5⟩, ⟨x0, x1, x2, x3, x4, x5, x6⟩, ⟨a0, a1, a2, a3⟩, ⟨b0, b1, b2, b3⟩, -⟩ := HC9.out W (below_chain hqS hqS.size hSW)
            try go_simp
            all_goals with_reducible rfl
          simp only [Act.put, List.setIfInBounds_toArray, List.set_cons_zero, List.set_cons_succ, List.getElem_toArray, List.getElem_cons_zero, List.getElem_cons_succ]
          refine wpAnyH_take (i := 11) (oi := _) (v := ?_) rfl (by kernel_rfl) (by kernel_rfl) (by kernel_rfl) (fun _ _ _ h => h) (Or.inl ⟨by rfl, ?_⟩) hSS ?_
          rotate_left
          · intro W hSW
            try go_simp
            all_goals with_reducible rfl
          simp only [Act.put, List.setIfInBounds_toArray, List.set_cons_zero, List.set_cons_succ, List.getElem_toArray, List.getElem_cons_zero, List.getElem_cons_succ]
          refine wpAnyH_take (i := 12) (oi := _) (v := ?_) rfl (by kernel_rfl) (by kernel_rfl) (by kernel_rfl) (fun _ _ _ h => h) (Or.inl ⟨by rfl, ?_⟩) hSS ?_
          rotate_left
          · intro W hSW
            try go_simp
            all_goals with_reducible rfl
          simp only [Act.put, List.setIfInBounds_toArray, List.set_cons_zero, List.set_cons_succ, List.getElem_toArray, List.getElem_cons_zero, List.getElem_cons_succ]
          refine wpAnyH_take (i := 13) (oi := _) (v := ?_) rfl (by kernel_rfl) (by kernel_rfl) (by kernel_rfl) (fun _ _ _ h => h) (Or.inl ⟨by rfl, ?_⟩) hSS ?_
          rotate_left
          · intro W hSW
            try go_simp
            all_goals with_reducible rfl
          simp only [Act.put, List.setIfInBounds_toArray, List.set_cons_zero, List.set_cons_succ, List.getElem_toArray, List.getElem_cons_zero, List.getElem_cons_succ]
          refine wpAnyH_take (i := 14) (oi := _) (v := ?_) rfl (by kernel_rfl) (by kernel_rfl) (by kernel_rfl) (fun _ _ _ h => h) (Or.inl ⟨by rfl, ?_⟩) hSS ?_
          rotate_left
          · intro W hSW
            try go_simp
            all_goals with_reducible rfl
          simp only [Act.put, List.setIfInBounds_toArray, List.set_cons_zero, List.set_cons_succ, List.getElem_toArray, List.getElem_cons_zero, List.getElem_cons_succ]
          refine wpAnyH_take (i := 15) (oi := _) (v := ?_) rfl (by kernel_rfl) (by kernel_rfl) (by kernel_rfl) (fun _ _ _ h => h) (Or.inl ⟨by rfl, ?_⟩) hSS ?_
          rotate_left
          · intro W hSW
            try go_simp
            all_goals with_reducible rfl
          simp only [Act.put, List.setIfInBounds_toArray, List.set_cons_zero, List.set_cons_succ, List.getElem_toArray, List.getElem_cons_zero, List.getElem_cons_succ]
          refine wpAnyH_done (by kernel_rfl) ?_ _
          have hbo := below_chain hq9 hq9.size (hqS)
          go_wp2_with fail
          go_ret
          exact ⟨rfl, hbo⟩
        · have hb13 : Below w9.heap.size w9 (wB).drew := (hqB).drew
          have HSU := Lib.hid (show Calls Tryz.prog 11 #[.pointer (some ⟨yb, 0, none⟩), .string kd] (wB).drew fun e w' => e = .returned YS.val ∧ Below (wB).drew.heap.size (wB).drew w' by rw [HYS.out]; exact (HAA.out _ hb13).sup kd (by have := HOKK.out; omega))
          have heqs : ∀ W, (Op.equalIn 10000 33 (.agg YS.cells) (.agg XS.cells)).run Tryz.prog W = .ok true W := fun W => by rw [F23.out.2 ht, ← eqB_refl XS]; exact run_equal4 XS XS W
          have hps : (hp.toList == src.toList) = false := by rw [beqS, decide_eq_false hnp]
          unfold U4.val at HSU
          unfold U4.cells at HSU heqs
          have HEQS := Lib.hid heqs
          clear heqs ht
          have HPS2 := Lib.hid hps
          clear hps hnp
          go_wp2_with fail
          refine wp_region_held_drew (S := BelS (wB).drew) (by kernel_rfl) (BelS.refl _) (fun hS0 => ?_)
          refine wpAnyH_take (i := 0) (oi := _) (v := ?_) rfl (by kernel_rfl) (by kernel_rfl) (by kernel_rfl) (fun _ _ _ h => h) (Or.inl ⟨by rfl, ?_⟩) hS0 ?_
          rotate_left
          · intro W hSW
            try go_simp
            all_goals with_reducible rfl
          simp only [Act.put, List.setIfInBounds_toArray, List.set_cons_zero, List.set_cons_succ, List.getElem_toArray, List.getElem_cons_zero, List.getElem_cons_succ]
          refine wpAnyH_take (i := 1) (oi := _) (v := ?_) rfl (by kernel_rfl) (by kernel_rfl) (by kernel_rfl) (fun _ _ _ h => h) (Or.inl ⟨by rfl, ?_⟩) hS0 ?_
          rotate_left
          · intro W hSW
            try go_simp
            all_goals with_reducible rfl
          simp only [Act.put, List.setIfInBounds_toArray, List.set_cons_zero, List.set_cons_succ, List.getElem_toArray, List.getElem_cons_zero, List.getElem_cons_succ]
          refine wpAnyH_take (i := 2) (oi := _) (v := ?_) rfl (by kernel_rfl) (by kernel_rfl) (by kernel_rfl) (fun _ _ _ h => h) (Or.inl ⟨by rfl, ?_⟩) hS0 ?_
          rotate_left
          · intro W hSW
            obtain ⟨⟨p0, p1, p2, p3, p4, p5⟩, ⟨x0, x1, x2, x3, x4, x5, x6⟩, ⟨a0, a1, a2, a3⟩, ⟨b0, b1, b2, b3⟩, -⟩ := HC9.out W (below_chain hb13 hb13.size hSW)
            try go_simp
            all_goals with_reducible rfl
          simp only [Act.put, List.setIfInBounds_toArray, List.set_cons_zero, List.set_cons_succ, List.getElem_toArray, List.getElem_cons_zero, List.getElem_cons_succ]
          refine wpAnyH_take (i := 4) (oi := _) (v := ?_) rfl (by kernel_rfl) (by kernel_rfl) (by kernel_rfl) (fun _ _ _ h => h) (Or.inl ⟨by rfl, ?_⟩) hS0 ?_
          rotate_left
          · intro W hSW
            obtain ⟨⟨p0, p1, p2, p3, p4, p5⟩, ⟨x0, x1, x2, x3, x4, x5, x6⟩, ⟨a0, a1, a2, a3⟩, ⟨b0, b1, b2, b3⟩, -⟩ := HC9.out W (below_chain hb13 hb13.size hSW)
            try go_simp
            all_goals with_reducible rfl
          simp only [Act.put, List.setIfInBounds_toArray, List.set_cons_zero, List.set_cons_succ, List.getElem_toArray, List.getElem_cons_zero, List.getElem_cons_succ]
          refine wpAnyH_take (i := 6) (oi := _) (v := ?_) rfl (by kernel_rfl) (by kernel_rfl) (by kernel_rfl) (fun _ _ _ h => h) (Or.inl ⟨by rfl, ?_⟩) hS0 ?_
          rotate_left
          · intro W hSW
            try go_simp
            all_goals with_reducible rfl
          simp only [Act.put, List.setIfInBounds_toArray, List.set_cons_zero, List.set_cons_succ, List.getElem_toArray, List.getElem_cons_zero, List.getElem_cons_succ]
          refine wpAnyH_ready (rs := [3]) (by kernel_rfl) (by simp) (AllReadyH.cons rfl (fun K hK => ?_) AllReadyH.nil)
          have DS := Lib.hid (HSU.out)
          go_simp
          go_wp2_with ((go_at_call 11; (with_reducible refine DS.out.mono ?_); rintro e wS ⟨rfl, hbS⟩))
          have hqS := below_chain hb13 hb13.size hbS
          refine hK.out _ _ hbS (fun _ => ?_)
          clear hK K
          refine wpAnyH_stronger (S' := BelS wS) (fun W h => below_chain hbS hbS.size h) _ _ _ _ ?_
          have hSS : BelS wS wS := BelS.refl wS
          refine wpAnyH_take (i := 5) (oi := _) (v := ?_) rfl (by kernel_rfl) (by kernel_rfl) (by kernel_rfl) (fun _ _ _ h => h) (Or.inl ⟨by rfl, ?_⟩) hSS ?_
          rotate_left
          · intro W hSW
            have hes := HEQS.out W
            try go_simp
            all_goals with_reducible rfl
          simp only [Act.put, List.setIfInBounds_toArray, List.set_cons_zero, List.set_cons_succ, List.getElem_toArray, List.getElem_cons_zero, List.getElem_cons_succ]
          refine wpAnyH_take (i := 7) (oi := _) (v := ?_) rfl (by kernel_rfl) (by kernel_rfl) (by kernel_rfl) (fun _ _ _ h => h) (Or.inl ⟨by rfl, ?_⟩) hSS ?_
          rotate_left
          · intro W hSW
            try go_simp
            all_goals with_reducible rfl
          simp only [Act.put, List.setIfInBounds_toArray, List.set_cons_zero, List.set_cons_succ, List.getElem_toArray, List.getElem_cons_zero, List.getElem_cons_succ]
          refine wpAnyH_take (i := 8) (oi := _) (v := ?_) rfl (by kernel_rfl) (by kernel_rfl) (by kernel_rfl) (fun _ _ _ h => h) (Or.inl ⟨by rfl, ?_⟩) hSS ?_
          rotate_left
          · intro W hSW
            try go_simp
            all_goals with_reducible rfl
          simp only [Act.put, List.setIfInBounds_toArray, List.set_cons_zero, List.set_cons_succ, List.getElem_toArray, List.getElem_cons_zero, List.getElem_cons_succ]
          refine wpAnyH_take (i := 9) (oi := _) (v := ?_) rfl (by kernel_rfl) (by kernel_rfl) (by kernel_rfl) (fun _ _ _ h => h) (Or.inl ⟨by rfl, ?_⟩) hSS ?_
          rotate_left
          · intro W hSW
            try go_simp
            all_goals with_reducible rfl
          simp only [Act.put, List.setIfInBounds_toArray, List.set_cons_zero, List.set_cons_succ, List.getElem_toArray, List.getElem_cons_zero, List.getElem_cons_succ]
          refine wpAnyH_take (i := 10) (oi := _) (v := ?_) rfl (by kernel_rfl) (by kernel_rfl) (by kernel_rfl) (fun _ _ _ h => h) (Or.inl ⟨by rfl, ?_⟩) hSS ?_
          rotate_left
          · intro W hSW
            obtain ⟨⟨p0, p1, p2, p3, p4, p5⟩, ⟨x0, x1, x2, x3, x4, x5, x6⟩, ⟨a0, a1, a2, a3⟩, ⟨b0, b1, b2, b3⟩, -⟩ := HC9.out W (below_chain hqS hqS.size hSW)
            try go_simp
            all_goals with_reducible rfl
          simp only [Act.put, List.setIfInBounds_toArray, List.set_cons_zero, List.set_cons_succ, List.getElem_toArray, List.getElem_cons_zero, List.getElem_cons_succ]
          refine wpAnyH_take (i := 11) (oi := _) (v := ?_) rfl (by kernel_rfl) (by kernel_rfl) (by kernel_rfl) (fun _ _ _ h => h) (Or.inl ⟨by rfl, ?_⟩) hSS ?_
          rotate_left
          · intro W hSW
            have hps := HPS2.out
            try go_simp
            all_goals with_reducible rfl
          simp only [Act.put, List.setIfInBounds_toArray, List.set_cons_zero, List.set_cons_succ, List.getElem_toArray, List.getElem_cons_zero, List.getElem_cons_succ]
          refine wpAnyH_take (i := 12) (oi := _) (v := ?_) rfl (by kernel_rfl) (by kernel_rfl) (by kernel_rfl) (fun _ _ _ h => h) (Or.inl ⟨by rfl, ?_⟩) hSS ?_
          rotate_left
          · intro W hSW
            try go_simp
            all_goals with_reducible rfl
          simp only [Act.put, List.setIfInBounds_toArray, List.set_cons_zero, List.set_cons_succ, List.getElem_toArray, List.getElem_cons_zero, List.getElem_cons_succ]
          refine wpAnyH_take (i := 13) (oi := _) (v := ?_) rfl (by kernel_rfl) (by kernel_rfl) (by kernel_rfl) (fun _ _ _ h => h) (Or.inl ⟨by rfl, ?_⟩) hSS ?_
          rotate_left
          · intro W hSW
            try go_simp
            all_goals with_reducible rfl
          simp only [Act.put, List.setIfInBounds_toArray, List.set_cons_zero, List.set_cons_succ, List.getElem_toArray, List.getElem_cons_zero, List.getElem_cons_succ]
          refine wpAnyH_take (i := 14) (oi := _) (v := ?_) rfl (by kernel_rfl) (by kernel_rfl) (by kernel_rfl) (fun _ _ _ h => h) (Or.inl ⟨by rfl, ?_⟩) hSS ?_
          rotate_left
          · intro W hSW
            try go_simp
            all_goals with_reducible rfl
          simp only [Act.put, List.setIfInBounds_toArray, List.set_cons_zero, List.set_cons_succ, List.getElem_toArray, List.getElem_cons_zero, List.getElem_cons_succ]
          refine wpAnyH_take (i := 15) (oi := _) (v := ?_) rfl (by kernel_rfl) (by kernel_rfl) (by kernel_rfl) (fun _ _ _ h => h) (Or.inl ⟨by rfl, ?_⟩) hSS ?_
          rotate_left
          · intro W hSW
            try go_simp
            all_goals with_reducible rfl
          simp only [Act.put, List.setIfInBounds_toArray, List.set_cons_zero, List.set_cons_succ, List.getElem_toArray, List.getElem_cons_zero, List.getElem_cons_succ]
          refine wpAnyH_done (by kernel_rfl) ?_ _
          have hbo := below_chain hq9 hq9.size (hqS)
          go_wp2_with fail
          go_ret
          exact ⟨rfl, hbo⟩
    · have hR : R = ps := HER.out.2.trans (refund_no (by rw [← HER.out.1]; exact hE0))
      subst hR
      have HPa := Lib.hid (A6.pairs (show yn + (0 + 2) ≤ 1000000000 by have := HYN.out; have := HNL.out; have := HNN.out; omega) ⟨#[]⟩ (by decide +kernel))
      rw [filter_all] at HPa
      have hne0 : (E != 0) = true := by simpa using hE0
      have H140 : Hid (ec = 0 ∨ (ec = 140 ∧ E = 140)) := Lib.hid (by
        rcases HEC.out with ⟨h, -⟩ | ⟨h1, h2⟩
        · exact Or.inl h
        · exact Or.inr ⟨h1, by rw [HER.out.1, refund_none h2]⟩)
      clear HEC HER HXX HK5 hk6 A6
      go_wp2_with fail
      refine HPa.out.mono ?_
      rintro e w7 ⟨v7, rfl, ho7, hb7⟩
      have hq7 := below_chain hq6 hq6.size hb7
      have HSA := Lib.hid (samePs_any w7 v7 (.slice A0 n c0) _ _ ho7.rdP (HPS.out.kept (Kept.of_below hq7)))
      obtain ⟨A7, c7, rfl⟩ := ho7.form
      clear ho7 HPa
      generalize R.length = n7 at *
      go_wp2_with fail
      refine HSA.out.mono ?_
      rintro e w8 ⟨rfl, hb8⟩
      have hq8 := below_chain hq7 hq7.size hb8
      simp only [decide_true]
      clear HSA hb7 hb8
      rcases H140.out with rfl | ⟨rfl, rfl⟩
      · go_wp2_with fail
        go_ret
        exact ⟨rfl, hq8⟩
      · go_wp2_with fail
        go_ret
        exact ⟨rfl, hq8⟩
end Go.Proofs.YtlkkjnacolmmpabGreatDoor
