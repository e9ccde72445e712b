/- The law: what a taken transaction touches. -/
import Derived.Test.YtniclaapiabmdaaGreatDoorM22
import Derived.Test.YtniclaapiabmdaaGreatDoorM19
import Derived.Test.YtniclaapiabmdaaGreatDoorM10
namespace Go.Proofs.YtniclaapiabmdaaGreatDoor
set_option maxRecDepth 100000
open Go Go.RowKit
set_option linter.unusedVariables false

theorem act_gen {C : Act → Prop} {T : Array Value} {ds : List Deferred} (h : ∀ T', T' = T → C ⟨T', ds⟩) : C ⟨T, ds⟩ := h T rfl
theorem ante_noT {R : List Pr} {ch : ByteArray} {t : TxV} (h : (anteM R ch t).1 ≠ 0) : (anteM R ch t).2 = R := by
  unfold anteM at h ⊢
  by_cases h1 : checkM R ch t = 0
  · rw [if_pos h1] at h ⊢
    by_cases h2 : (paidM R t).1 = 0
    · rw [if_pos h2] at h
      cases e : getA R t.sg with
      | none => rw [e] at h; exact absurd rfl h
      | some x => rw [e] at h; exact absurd rfl h
    · rw [if_neg h2]
  · rw [if_neg h1]
theorem ante_yesT {R : List Pr} {ch : ByteArray} {t : TxV} (h : (anteM R ch t).1 = 0) : (paidM R t).1 = 0 ∧ ∃ r b s, (anteM R ch t).2 = putA (paidM R t).2 t.sg r b s := by
  unfold anteM at h
  by_cases h1 : checkM R ch t = 0
  · obtain ⟨r, b, s, e, -⟩ := check_ok h1
    rw [if_pos h1] at h
    by_cases h2 : (paidM R t).1 = 0
    · refine ⟨h2, r, b, (s + 1) % 18446744073709551616, ?_⟩
      unfold anteM
      rw [if_pos h1, if_pos h2]
      simp only [e]
    · rw [if_neg h2] at h; exact absurd h h2
  · rw [if_neg h1] at h; exact absurd h h1
theorem balM_putA (R : List Pr) (a c d : ByteArray) (r : List UInt8) (b s : Nat) : balM (putA R a r b s) c d = balM R c d := by
  unfold balM
  split
  · unfold amtU putA
    rw [getL_putL, if_neg (fun e => kAcc_ne_bal a c d e.symm)]
  · rfl
theorem addU_zero {x : U4} (hx : x.ok) : addU x U4.zero = (x, true) := by
  have h := nat_lt hx
  unfold addU
  rw [zero_nat, Nat.add_zero, if_pos h, ofN_nat hx]
theorem subU_zero {x : U4} (hx : x.ok) : subU x U4.zero = (x, true) := by
  unfold subU
  rw [zero_nat, Nat.sub_zero, if_pos (Nat.zero_le _), ofN_nat hx]
theorem touch_key {R : List Pr} {ch : ByteArray} {t : TxV} (h : (anteM R ch t).1 = 0) (key : ByteArray) (h1 : ¬ key = kAcc t.sg) (h2 : ¬ key = kBal t.sg fuelS) (h3 : ¬ key = kBal feesS fuelS) : getL (anteM R ch t).2 key = getL R key := by
  obtain ⟨-, r, b, s, e⟩ := ante_yesT h
  rw [e]
  unfold putA
  rw [getL_putL, if_neg h1]
  unfold paidM
  split
  · rfl
  · exact getL_send h2 h3
theorem touch_bal {R : List Pr} {ch : ByteArray} {t : TxV} (hx : t.fee.ok) (h : (anteM R ch t).1 = 0) (hne : ¬ t.sg = feesS) :
    addU (balM R feesS fuelS) t.fee = (balM (anteM R ch t).2 feesS fuelS, true) ∧ subU (balM R t.sg fuelS) t.fee = (balM (anteM R ch t).2 t.sg fuelS, true) := by
  obtain ⟨h0, r, b, s, e⟩ := ante_yesT h
  rw [e, balM_putA, balM_putA]
  by_cases hz : eqB t.fee U4.zero = true
  · have e2 : paidM R t = (0, R) := by unfold paidM; rw [if_pos hz]
    have e3 := eqB_iff.1 hz
    rw [e2, e3]
    exact ⟨addU_zero (balM_ok _ _ _), subU_zero (balM_ok _ _ _)⟩
  · have e2 : paidM R t = sendM R t.sg feesS fuelS t.fee := by unfold paidM; rw [if_neg hz]
    rw [e2] at h0 ⊢
    obtain ⟨q1, q2, q3, q4, q5, q6⟩ := send_yes h0 hne
    have k1 := (subU_yes q4 (balM_ok _ _ _)).2
    have k2 := (addU_yes q5).2
    rw [q6]
    refine ⟨?_, ?_⟩
    · rw [balM_keep_bal k2 q2 q3, if_pos ⟨rfl, rfl⟩]
      exact Prod.ext rfl q5
    · rw [balM_keep_bal k2 q2 q3, if_neg (fun h => hne h.1), balM_keep_bal k1 q1 q3, if_pos ⟨rfl, rfl⟩]
      exact Prod.ext rfl q4
set_option maxRecDepth 100000 in
set_option maxHeartbeats 64000000 in
theorem touches_law (w : World) (v : Value) (ps : List Pr) (hps : RdP w w.heap.size v ps) (hnl : ∀ p ∈ ps, p.1.size ≤ maxLen) (hlen : ps.length ≤ 2000000) (ch : ByteArray) (hch : ch.size ≤ maxLen) (t : TxV) (ht : t.rd w) (hs : t.sg.size ≤ 100000000)
    (fr : TypeId × Nat × Nat) (hk : w.heap[0]? = some (.cells kVals fr.1 fr.2)) :
    Calls Tryz.prog 4 #[v, .string ch, .agg t.cells] w fun e w' => e = .returned (.bool true) ∧ Below w.heap.size w w' := by
  obtain ⟨Am, cm, hvm⟩ : ∃ A c, t.vms = .slice A t.ms.length c := by obtain ⟨A, c, e, _⟩ := ht.ms; exact ⟨A, c, e⟩
  obtain ⟨As, cs, hvs⟩ := ht.sig.form
  have hcl : t.cells = #[.string t.sg, .int .u64 (t.seq : Int), .int .u64 (t.gas : Int), .int .u64 (t.fee.a : Int), .int .u64 (t.fee.b : Int), .int .u64 (t.fee.c : Int), .int .u64 (t.fee.d : Int), .slice Am t.ms.length cm, .slice As t.sig.length cs] := by rw [TxV.cells, hvm, hvs]
  have hbox := heap_alloc_new w (.cells #[.string t.sg, .int .u64 (t.seq : Int), .int .u64 (t.gas : Int), .int .u64 (t.fee.a : Int), .int .u64 (t.fee.b : Int), .int .u64 (t.fee.c : Int), .int .u64 (t.fee.d : Int), .slice Am t.ms.length cm, .slice As t.sig.length cs] 29)
  have ha0 : Below w.heap.size w (w.alloc (.cells #[.string t.sg, .int .u64 (t.seq : Int), .int .u64 (t.gas : Int), .int .u64 (t.fee.a : Int), .int .u64 (t.fee.b : Int), .int .u64 (t.fee.c : Int), .int .u64 (t.fee.d : Int), .slice Am t.ms.length cm, .slice As t.sig.length cs] 29)) := (Below.refl _ _).alloc (Nat.le_refl _) _
  have hp0 : RdP (w.alloc (.cells #[.string t.sg, .int .u64 (t.seq : Int), .int .u64 (t.gas : Int), .int .u64 (t.fee.a : Int), .int .u64 (t.fee.b : Int), .int .u64 (t.fee.c : Int), .int .u64 (t.fee.d : Int), .slice Am t.ms.length cm, .slice As t.sig.length cs] 29)) (w.alloc (.cells #[.string t.sg, .int .u64 (t.seq : Int), .int .u64 (t.gas : Int), .int .u64 (t.fee.a : Int), .int .u64 (t.fee.b : Int), .int .u64 (t.fee.c : Int), .int .u64 (t.fee.d : Int), .slice Am t.ms.length cm, .slice As t.sig.length cs] 29)).heap.size v ps := hps.kept (Kept.of_below ha0)
  have HN := Lib.hid (new_any (w.alloc (.cells #[.string t.sg, .int .u64 (t.seq : Int), .int .u64 (t.gas : Int), .int .u64 (t.fee.a : Int), .int .u64 (t.fee.b : Int), .int .u64 (t.fee.c : Int), .int .u64 (t.fee.d : Int), .slice Am t.ms.length cm, .slice As t.sig.length cs] 29)) v ps hp0 hnl)
  have HK := Lib.hid ((Kept.of_below ha0).block hk)
  have ht0 : t.rd (w.alloc (.cells #[.string t.sg, .int .u64 (t.seq : Int), .int .u64 (t.gas : Int), .int .u64 (t.fee.a : Int), .int .u64 (t.fee.b : Int), .int .u64 (t.fee.c : Int), .int .u64 (t.fee.d : Int), .slice Am t.ms.length cm, .slice As t.sig.length cs] 29)) := ht.up ha0
  have HT := Lib.hid (fun (Z : World) (hz : Kept (w.alloc (.cells #[.string t.sg, .int .u64 (t.seq : Int), .int .u64 (t.gas : Int), .int .u64 (t.fee.a : Int), .int .u64 (t.fee.b : Int), .int .u64 (t.fee.c : Int), .int .u64 (t.fee.d : Int), .slice Am t.ms.length cm, .slice As t.sig.length cs] 29)) Z) => ht0.keptM hz)
  have HBX : Hid (∀ Z, Kept (w.alloc (.cells #[.string t.sg, .int .u64 (t.seq : Int), .int .u64 (t.gas : Int), .int .u64 (t.fee.a : Int), .int .u64 (t.fee.b : Int), .int .u64 (t.fee.c : Int), .int .u64 (t.fee.d : Int), .slice Am t.ms.length cm, .slice As t.sig.length cs] 29)) Z → Z.cell? ⟨w.heap.size, 0, none⟩ = some (.string t.sg) ∧ Z.cell? ⟨w.heap.size, 1, none⟩ = some (.int .u64 (t.seq : Int)) ∧ Z.cell? ⟨w.heap.size, 2, none⟩ = some (.int .u64 (t.gas : Int)) ∧ Z.cell? ⟨w.heap.size, 3, none⟩ = some (.int .u64 (t.fee.a : Int)) ∧ Z.cell? ⟨w.heap.size, 4, none⟩ = some (.int .u64 (t.fee.b : Int)) ∧ Z.cell? ⟨w.heap.size, 5, none⟩ = some (.int .u64 (t.fee.c : Int)) ∧ Z.cell? ⟨w.heap.size, 6, none⟩ = some (.int .u64 (t.fee.d : Int)) ∧ Z.cell? ⟨w.heap.size, 7, none⟩ = some (.slice Am t.ms.length cm) ∧ Z.cell? ⟨w.heap.size, 8, none⟩ = some (.slice As t.sig.length cs)) := Lib.hid fun Z hz => ⟨hz.cell (blk_cell hbox 0), hz.cell (blk_cell hbox 1), hz.cell (blk_cell hbox 2), hz.cell (blk_cell hbox 3), hz.cell (blk_cell hbox 4), hz.cell (blk_cell hbox 5), hz.cell (blk_cell hbox 6), hz.cell (blk_cell hbox 7), hz.cell (blk_cell hbox 8)⟩
  have HCH := Lib.hid hch
  have HSS := Lib.hid hs
  have HCL := Lib.hid hcl
  have HFE := Lib.hid ht.fee
  have HA0 := Lib.hid ha0
  have HNL := Lib.hid hnl
  have HLN := Lib.hid hlen
  have hno := fun h => ante_noT (R := ps) (ch := ch) (t := t) h
  have hky := fun h key h1 h2 h3 => touch_key (R := ps) (ch := ch) (t := t) h key h1 h2 h3
  have hba := fun h h2 => touch_bal (R := ps) (ch := ch) (t := t) ht.fee h h2
  rw [hcl]
  obtain ⟨A, c, rfl⟩ : ∃ A c, v = .slice A ps.length c := by obtain ⟨A, c, h, _⟩ := hps; exact ⟨A, c, h⟩
  have HPS0 := Lib.hid (fun (Z : World) (hz : Kept (w.alloc (.cells #[.string t.sg, .int .u64 (t.seq : Int), .int .u64 (t.gas : Int), .int .u64 (t.fee.a : Int), .int .u64 (t.fee.b : Int), .int .u64 (t.fee.c : Int), .int .u64 (t.fee.d : Int), .slice Am t.ms.length cm, .slice As t.sig.length cs] 29)) Z) => hp0.kept hz)
  have HNO := Lib.hid hno
  have HKY := Lib.hid hky
  have HBA := Lib.hid hba
  clear hps hp0 hnl hlen hk hch hs hcl hvm hvs ht ht0 hbox hno hky hba ha0
  obtain ⟨n, hn⟩ : ∃ n, n = ps.length := ⟨_, rfl⟩
  rw [← hn] at HN HPS0 HLN ⊢
  have HNN := Lib.hid hn
  have HLN2 := HLN
  clear hn
  go_enter Tryz.func4, Tryz.ntmps4
  go_wp2_with fail
  generalize w.alloc (.cells #[.string t.sg, .int .u64 (t.seq : Int), .int .u64 (t.gas : Int), .int .u64 (t.fee.a : Int), .int .u64 (t.fee.b : Int), .int .u64 (t.fee.c : Int), .int .u64 (t.fee.d : Int), .slice Am t.ms.length cm, .slice As t.sig.length cs] 29) = W0 at *
  refine HN.out.mono ?_
  rintro e w1 ⟨⟨-, rfl⟩ | ⟨-, y, rfl, hyb, hym, hyn, hly, hri, hp1⟩, hb1⟩
  · have hq1 := below_chain HA0.out HA0.out.size hb1
    clear HN HT HBX HKY HBA HNO HPS0
    go_wp2_with fail
    refine (afixed_any _).mono ?_
    rintro e w2 ⟨rfl, hb2⟩
    have hq2 := below_chain hq1 hq1.size hb2
    go_wp2_with fail
    refine (afixed_any _).mono ?_
    rintro e w3 ⟨rfl, hb3⟩
    have hq3 := below_chain hq2 hq2.size hb3
    go_wp2_with fail
    go_ret
    exact ⟨rfl, hq3⟩
  have A1 := Acc.made hp1 hly hri HNL.out
  have hq1 := below_chain HA0.out HA0.out.size hb1
  have hk1 := Kept.of_below hb1
  have HYM := Lib.hid (show w.heap.size ≤ y.m from Nat.le_trans HA0.out.size hym)
  have HYN := Lib.hid (show y.n ≤ 2000000 by rw [show y.n = n from hyn]; exact HLN.out)
  have HQ1 := Lib.hid hq1
  have HGL : Hid (∀ p ∈ ps, getL ps p.1 = some p.2) := Lib.hid fun p hp => hri.get hp
  obtain ⟨yb, ym, yn, yf⟩ := y
  dsimp only at HYM HYN ⊢
  clear hyb hym hyn hly hri hp1 HN hb1 hq1
  go_wp2_with fail
  refine (afixed_any _).mono ?_
  rintro e w2 ⟨rfl, hb2⟩
  have A2 := A1.up hb2
  have hk2 := hk1.trans (Kept.of_below hb2)
  have HOD := Lib.hid (fun (W : World) (hW : BelS w2.drew W) => HBX.out W ((hk2.trans (Kept.drew w2)).trans (Kept.of_below hW)))
  have A2d := A2.up (Below.drew (Below.refl _ _))
  have H1 := Lib.hid (fun (W : World) (hW : BelS w2.drew W) => (A2d.up hW).bal feesS fuelS (by decide +kernel) (by decide +kernel))
  have H2 := Lib.hid (fun (W : World) (hW : BelS w2.drew W) => (A2d.up hW).bal t.sg fuelS HSS.out (by decide +kernel))
  obtain ⟨XF, hXF⟩ : ∃ X, X = balM ps feesS fuelS := ⟨_, rfl⟩
  obtain ⟨XT, hXT⟩ : ∃ X, X = balM ps t.sg fuelS := ⟨_, rfl⟩
  rw [← hXF] at H1 HBA
  rw [← hXT] at H2 HBA
  have HXX := Lib.hid (And.intro (show XF.ok by rw [hXF]; exact balM_ok _ _ _) (show XT.ok by rw [hXT]; exact balM_ok _ _ _))
  clear hXF hXT A1 hk1 hb2 A2d
  unfold U4.val U4.cells feesS fuelS at H1
  unfold U4.val U4.cells fuelS at H2
  go_wp2_with fail
  refine wp_region_held_drew (S := BelS w2.drew) (by kernel_rfl) (BelS.refl _) (fun hS0 => ?_)
  refine wpAnyH_take (i := 0) (oi := _) (v := ?_) rfl (by kernel_rfl) (by kernel_rfl) (by kernel_rfl) (fun _ _ _ h => h) (Or.inl ⟨by rfl, ?_⟩) hS0 ?_
  rotate_left
  · intro W hSW
    try go_simp
    all_goals with_reducible rfl
  simp only [Act.put, List.setIfInBounds_toArray, List.set_cons_zero, List.set_cons_succ, List.getElem_toArray, List.getElem_cons_zero, List.getElem_cons_succ]
  refine wpAnyH_take (i := 2) (oi := _) (v := ?_) rfl (by kernel_rfl) (by kernel_rfl) (by kernel_rfl) (fun _ _ _ h => h) (Or.inl ⟨by rfl, ?_⟩) hS0 ?_
  rotate_left
  · intro W hSW
    try go_simp
    all_goals with_reducible rfl
  simp only [Act.put, List.setIfInBounds_toArray, List.set_cons_zero, List.set_cons_succ, List.getElem_toArray, List.getElem_cons_zero, List.getElem_cons_succ]
  refine wpAnyH_take (i := 3) (oi := _) (v := ?_) rfl (by kernel_rfl) (by kernel_rfl) (by kernel_rfl) (fun _ _ _ h => h) (Or.inl ⟨by rfl, ?_⟩) hS0 ?_
  rotate_left
  · intro W hSW
    try go_simp
    all_goals with_reducible rfl
  simp only [Act.put, List.setIfInBounds_toArray, List.set_cons_zero, List.set_cons_succ, List.getElem_toArray, List.getElem_cons_zero, List.getElem_cons_succ]
  refine wpAnyH_take (i := 4) (oi := _) (v := ?_) rfl (by kernel_rfl) (by kernel_rfl) (by kernel_rfl) (fun _ _ _ h => h) (Or.inl ⟨by rfl, ?_⟩) hS0 ?_
  rotate_left
  · intro W hSW
    obtain ⟨z0, z1, z2, z3, z4, z5, z6, z7, z8⟩ := HOD.out W hSW
    try go_simp
    all_goals with_reducible rfl
  simp only [Act.put, List.setIfInBounds_toArray, List.set_cons_zero, List.set_cons_succ, List.getElem_toArray, List.getElem_cons_zero, List.getElem_cons_succ]
  refine act_gen (C := fun a => wpAnyH _ _ _ _ _ _ _ a _) (fun T hT => ?_)
  refine wpAnyH_until (fuel := 2) (fun k L a W => ∃ (c : Nat) (b1 b2 : Bool) (g1 g2 g3 g4 : Nat), c ≤ 2 ∧ k = (2 - c) + nB b1 + nB b2 ∧ L = #[true, decide (1 ≤ c), true, true, true, decide (2 ≤ c), b1, b2, false, false] ∧ a = { tmps := (setB b2 10 (pU g2) (setB b1 9 (pU g1) (setB (decide (2 ≤ c)) 44 (.agg #[.int .u64 (XT.a : Int), .int .u64 (XT.b : Int), .int .u64 (XT.c : Int), .int .u64 (XT.d : Int)]) (setB (decide (1 ≤ c)) 40 (.agg #[.int .u64 (XF.a : Int), .int .u64 (XF.b : Int), .int .u64 (XF.c : Int), .int .u64 (XF.d : Int)]) T)))), defers := [] } ∧ Fl w2.drew b1 b2 false false g1 g2 g3 g4 W) ?h0 ?hstep 4 _ _ _ ?start
  case start => exact ⟨0, false, false, 0, 0, 0, 0, Nat.zero_le _, by simp [nB], by kernel_rfl, by simp [setB], Fl.none _⟩
  case hstep =>
    intro k IH L a W ⟨c, b1, b2, g1, g2, g3, g4, hc, hk, hL, ha, hfl⟩
    subst hT
    rcases (show c = 0 ∨ c = 1 ∨ c = 2 by omega) with rfl | rfl | rfl
    · cases b1 with
      | false =>
        cases b2 with
        | false =>
          obtain rfl : k = 3 := by simp [nB] at hk; omega
          subst hL; subst ha
          simp only [setB, pU, decide_eq_true_eq, Nat.reduceLeDiff, Nat.le_refl, Bool.false_eq_true, if_true, if_false, List.setIfInBounds_toArray, List.set_cons_zero, List.set_cons_succ]
          have hs := hfl.s
          refine wpAnyH_ready (rs := [1, 6, 7]) (by kernel_rfl) (by simp) ?_
          refine AllReadyH.cons rfl (fun K hK => ?_) ?_
          · have HC := Lib.hid (H1.out _ hs)
            go_simp
            go_wp2_with ((go_at_call 12; (with_reducible refine HC.out.mono ?_); rintro e wn ⟨rfl, hbn⟩))
            refine hK.out _ _ (hfl.up hbn).s (fun _ => IH _ _ _ ?_)
            exact ⟨1, false, false, g1, g2, g3, g4, by omega, by simp [nB], by kernel_rfl, by kernel_rfl, hfl.up hbn⟩
          refine AllReadyH.cons rfl (fun K hK => ?_) ?_
          · go_simp
            refine hK.out _ _ hfl.new1.s (fun _ => IH _ _ _ ?_)
            exact ⟨0, true, false, W.heap.size, g2, g3, g4, by omega, by simp [nB], by kernel_rfl, by kernel_rfl, hfl.new1⟩
          refine AllReadyH.cons rfl (fun K hK => ?_) ?_
          · go_simp
            refine hK.out _ _ hfl.new2.s (fun _ => IH _ _ _ ?_)
            exact ⟨0, false, true, g1, W.heap.size, g3, g4, by omega, by simp [nB], by kernel_rfl, by kernel_rfl, hfl.new2⟩
          exact AllReadyH.nil
        | true =>
          obtain rfl : k = 2 := by simp [nB] at hk; omega
          subst hL; subst ha
          simp only [setB, pU, decide_eq_true_eq, Nat.reduceLeDiff, Nat.le_refl, Bool.false_eq_true, if_true, if_false, List.setIfInBounds_toArray, List.set_cons_zero, List.set_cons_succ]
          have hs := hfl.s
          refine wpAnyH_ready (rs := [1, 6]) (by kernel_rfl) (by simp) ?_
          refine AllReadyH.cons rfl (fun K hK => ?_) ?_
          · have HC := Lib.hid (H1.out _ hs)
            go_simp
            go_wp2_with ((go_at_call 12; (with_reducible refine HC.out.mono ?_); rintro e wn ⟨rfl, hbn⟩))
            refine hK.out _ _ (hfl.up hbn).s (fun _ => IH _ _ _ ?_)
            exact ⟨1, false, true, g1, g2, g3, g4, by omega, by simp [nB], by kernel_rfl, by kernel_rfl, hfl.up hbn⟩
          refine AllReadyH.cons rfl (fun K hK => ?_) ?_
          · go_simp
            refine hK.out _ _ hfl.new1.s (fun _ => IH _ _ _ ?_)
            exact ⟨0, true, true, W.heap.size, g2, g3, g4, by omega, by simp [nB], by kernel_rfl, by kernel_rfl, hfl.new1⟩
          exact AllReadyH.nil
      | true =>
        cases b2 with
        | false =>
          obtain rfl : k = 2 := by simp [nB] at hk; omega
          subst hL; subst ha
          simp only [setB, pU, decide_eq_true_eq, Nat.reduceLeDiff, Nat.le_refl, Bool.false_eq_true, if_true, if_false, List.setIfInBounds_toArray, List.set_cons_zero, List.set_cons_succ]
          have hs := hfl.s
          refine wpAnyH_ready (rs := [1, 7]) (by kernel_rfl) (by simp) ?_
          refine AllReadyH.cons rfl (fun K hK => ?_) ?_
          · have HC := Lib.hid (H1.out _ hs)
            go_simp
            go_wp2_with ((go_at_call 12; (with_reducible refine HC.out.mono ?_); rintro e wn ⟨rfl, hbn⟩))
            refine hK.out _ _ (hfl.up hbn).s (fun _ => IH _ _ _ ?_)
            exact ⟨1, true, false, g1, g2, g3, g4, by omega, by simp [nB], by kernel_rfl, by kernel_rfl, hfl.up hbn⟩
          refine AllReadyH.cons rfl (fun K hK => ?_) ?_
          · go_simp
            refine hK.out _ _ hfl.new2.s (fun _ => IH _ _ _ ?_)
            exact ⟨0, true, true, g1, W.heap.size, g3, g4, by omega, by simp [nB], by kernel_rfl, by kernel_rfl, hfl.new2⟩
          exact AllReadyH.nil
        | true =>
          obtain rfl : k = 1 := by simp [nB] at hk; omega
          subst hL; subst ha
          simp only [setB, pU, decide_eq_true_eq, Nat.reduceLeDiff, Nat.le_refl, Bool.false_eq_true, if_true, if_false, List.setIfInBounds_toArray, List.set_cons_zero, List.set_cons_succ]
          have hs := hfl.s
          refine wpAnyH_ready (rs := [1]) (by kernel_rfl) (by simp) ?_
          refine AllReadyH.cons rfl (fun K hK => ?_) ?_
          · have HC := Lib.hid (H1.out _ hs)
            go_simp
            go_wp2_with ((go_at_call 12; (with_reducible refine HC.out.mono ?_); rintro e wn ⟨rfl, hbn⟩))
            refine hK.out _ _ (hfl.up hbn).s (fun _ => IH _ _ _ ?_)
            exact ⟨1, true, true, g1, g2, g3, g4, by omega, by simp [nB], by kernel_rfl, by kernel_rfl, hfl.up hbn⟩
          exact AllReadyH.nil
    · cases b1 with
      | false =>
        cases b2 with
        | false =>
          obtain rfl : k = 2 := by simp [nB] at hk; omega
          subst hL; subst ha
          simp only [setB, pU, decide_eq_true_eq, Nat.reduceLeDiff, Nat.le_refl, Bool.false_eq_true, if_true, if_false, List.setIfInBounds_toArray, List.set_cons_zero, List.set_cons_succ]
          have hs := hfl.s
          refine wpAnyH_ready (rs := [5, 6, 7]) (by kernel_rfl) (by simp) ?_
          refine AllReadyH.cons rfl (fun K hK => ?_) ?_
          · have HC := Lib.hid (H2.out _ hs)
            go_simp
            go_wp2_with ((go_at_call 12; (with_reducible refine HC.out.mono ?_); rintro e wn ⟨rfl, hbn⟩))
            refine hK.out _ _ (hfl.up hbn).s (fun _ => IH _ _ _ ?_)
            exact ⟨2, false, false, g1, g2, g3, g4, by omega, by simp [nB], by kernel_rfl, by kernel_rfl, hfl.up hbn⟩
          refine AllReadyH.cons rfl (fun K hK => ?_) ?_
          · go_simp
            refine hK.out _ _ hfl.new1.s (fun _ => IH _ _ _ ?_)
            exact ⟨1, true, false, W.heap.size, g2, g3, g4, by omega, by simp [nB], by kernel_rfl, by kernel_rfl, hfl.new1⟩
          refine AllReadyH.cons rfl (fun K hK => ?_) ?_
          · go_simp
            refine hK.out _ _ hfl.new2.s (fun _ => IH _ _ _ ?_)
            exact ⟨1, false, true, g1, W.heap.size, g3, g4, by omega, by simp [nB], by kernel_rfl, by kernel_rfl, hfl.new2⟩
          exact AllReadyH.nil
        | true =>
          obtain rfl : k = 1 := by simp [nB] at hk; omega
          subst hL; subst ha
          simp only [setB, pU, decide_eq_true_eq, Nat.reduceLeDiff, Nat.le_refl, Bool.false_eq_true, if_true, if_false, List.setIfInBounds_toArray, List.set_cons_zero, List.set_cons_succ]
          have hs := hfl.s
          refine wpAnyH_ready (rs := [5, 6]) (by kernel_rfl) (by simp) ?_
          refine AllReadyH.cons rfl (fun K hK => ?_) ?_
          · have HC := Lib.hid (H2.out _ hs)
            go_simp
            go_wp2_with ((go_at_call 12; (with_reducible refine HC.out.mono ?_); rintro e wn ⟨rfl, hbn⟩))
            refine hK.out _ _ (hfl.up hbn).s (fun _ => IH _ _ _ ?_)
            exact ⟨2, false, true, g1, g2, g3, g4, by omega, by simp [nB], by kernel_rfl, by kernel_rfl, hfl.up hbn⟩
          refine AllReadyH.cons rfl (fun K hK => ?_) ?_
          · go_simp
            refine hK.out _ _ hfl.new1.s (fun _ => IH _ _ _ ?_)
            exact ⟨1, true, true, W.heap.size, g2, g3, g4, by omega, by simp [nB], by kernel_rfl, by kernel_rfl, hfl.new1⟩
          exact AllReadyH.nil
      | true =>
        cases b2 with
        | false =>
          obtain rfl : k = 1 := by simp [nB] at hk; omega
          subst hL; subst ha
          simp only [setB, pU, decide_eq_true_eq, Nat.reduceLeDiff, Nat.le_refl, Bool.false_eq_true, if_true, if_false, List.setIfInBounds_toArray, List.set_cons_zero, List.set_cons_succ]
          have hs := hfl.s
          refine wpAnyH_ready (rs := [5, 7]) (by kernel_rfl) (by simp) ?_
          refine AllReadyH.cons rfl (fun K hK => ?_) ?_
          · have HC := Lib.hid (H2.out _ hs)
            go_simp
            go_wp2_with ((go_at_call 12; (with_reducible refine HC.out.mono ?_); rintro e wn ⟨rfl, hbn⟩))
            refine hK.out _ _ (hfl.up hbn).s (fun _ => IH _ _ _ ?_)
            exact ⟨2, true, false, g1, g2, g3, g4, by omega, by simp [nB], by kernel_rfl, by kernel_rfl, hfl.up hbn⟩
          refine AllReadyH.cons rfl (fun K hK => ?_) ?_
          · go_simp
            refine hK.out _ _ hfl.new2.s (fun _ => IH _ _ _ ?_)
            exact ⟨1, true, true, g1, W.heap.size, g3, g4, by omega, by simp [nB], by kernel_rfl, by kernel_rfl, hfl.new2⟩
          exact AllReadyH.nil
        | true =>
          obtain rfl : k = 0 := by simp [nB] at hk; omega
          subst hL; subst ha
          simp only [setB, pU, decide_eq_true_eq, Nat.reduceLeDiff, Nat.le_refl, Bool.false_eq_true, if_true, if_false, List.setIfInBounds_toArray, List.set_cons_zero, List.set_cons_succ]
          have hs := hfl.s
          refine wpAnyH_ready (rs := [5]) (by kernel_rfl) (by simp) ?_
          refine AllReadyH.cons rfl (fun K hK => ?_) ?_
          · have HC := Lib.hid (H2.out _ hs)
            go_simp
            go_wp2_with ((go_at_call 12; (with_reducible refine HC.out.mono ?_); rintro e wn ⟨rfl, hbn⟩))
            refine hK.out _ _ (hfl.up hbn).s (fun _ => IH _ _ _ ?_)
            exact ⟨2, true, true, g1, g2, g3, g4, by omega, by simp [nB], by kernel_rfl, by kernel_rfl, hfl.up hbn⟩
          exact AllReadyH.nil
    · cases b1 with
      | false =>
        cases b2 with
        | false =>
          obtain rfl : k = 1 := by simp [nB] at hk; omega
          subst hL; subst ha
          simp only [setB, pU, decide_eq_true_eq, Nat.reduceLeDiff, Nat.le_refl, Bool.false_eq_true, if_true, if_false, List.setIfInBounds_toArray, List.set_cons_zero, List.set_cons_succ]
          have hs := hfl.s
          refine wpAnyH_ready (rs := [6, 7]) (by kernel_rfl) (by simp) ?_
          refine AllReadyH.cons rfl (fun K hK => ?_) ?_
          · go_simp
            refine hK.out _ _ hfl.new1.s (fun _ => IH _ _ _ ?_)
            exact ⟨2, true, false, W.heap.size, g2, g3, g4, by omega, by simp [nB], by kernel_rfl, by kernel_rfl, hfl.new1⟩
          refine AllReadyH.cons rfl (fun K hK => ?_) ?_
          · go_simp
            refine hK.out _ _ hfl.new2.s (fun _ => IH _ _ _ ?_)
            exact ⟨2, false, true, g1, W.heap.size, g3, g4, by omega, by simp [nB], by kernel_rfl, by kernel_rfl, hfl.new2⟩
          exact AllReadyH.nil
        | true =>
          obtain rfl : k = 0 := by simp [nB] at hk; omega
          subst hL; subst ha
          simp only [setB, pU, decide_eq_true_eq, Nat.reduceLeDiff, Nat.le_refl, Bool.false_eq_true, if_true, if_false, List.setIfInBounds_toArray, List.set_cons_zero, List.set_cons_succ]
          have hs := hfl.s
          refine wpAnyH_ready (rs := [6]) (by kernel_rfl) (by simp) ?_
          refine AllReadyH.cons rfl (fun K hK => ?_) ?_
          · go_simp
            refine hK.out _ _ hfl.new1.s (fun _ => IH _ _ _ ?_)
            exact ⟨2, true, true, W.heap.size, g2, g3, g4, by omega, by simp [nB], by kernel_rfl, by kernel_rfl, hfl.new1⟩
          exact AllReadyH.nil
      | true =>
        cases b2 with
        | false =>
          obtain rfl : k = 0 := by simp [nB] at hk; omega
          subst hL; subst ha
          simp only [setB, pU, decide_eq_true_eq, Nat.reduceLeDiff, Nat.le_refl, Bool.false_eq_true, if_true, if_false, List.setIfInBounds_toArray, List.set_cons_zero, List.set_cons_succ]
          have hs := hfl.s
          refine wpAnyH_ready (rs := [7]) (by kernel_rfl) (by simp) ?_
          refine AllReadyH.cons rfl (fun K hK => ?_) ?_
          · go_simp
            refine hK.out _ _ hfl.new2.s (fun _ => IH _ _ _ ?_)
            exact ⟨2, true, true, g1, W.heap.size, g3, g4, by omega, by simp [nB], by kernel_rfl, by kernel_rfl, hfl.new2⟩
          exact AllReadyH.nil
        | true =>
          exfalso; simp [nB] at hk
  case h0 =>
    intro L a W ⟨c, b1, b2, g1, g2, g3, g4, hc, hk, hL, ha, hfl⟩
    subst hT
    obtain rfl : c = 2 := by omega
    skip
    have eb1 : b1 = true := by
      cases b1 with
      | true => rfl
      | false => exact absurd hk (by simp only [nB, Bool.false_eq_true, if_false]; omega)
    have eb2 : b2 = true := by
      cases b2 with
      | true => rfl
      | false => exact absurd hk (by simp only [nB, Bool.false_eq_true, if_false]; omega)
    subst eb1
    subst eb2
    subst hL; subst ha
    simp only [setB, pU, decide_eq_true_eq, Nat.reduceLeDiff, Nat.le_refl, Bool.false_eq_true, if_true, if_false, List.setIfInBounds_toArray, List.set_cons_zero, List.set_cons_succ]
    obtain ⟨hu1, hg1⟩ := hfl.u1 rfl
    obtain ⟨hu2, hg2⟩ := hfl.u2 rfl
    have n12 := hfl.d12 rfl rfl
    have hs0 := hfl.s
    clear hfl hk hc
    obtain ⟨z0, z1, z2, z3⟩ := LBlk.all (s := U4.zero) hu1
    have f0 := hu1.free 0
    have f1 := hu1.free 1
    have f2 := hu1.free 2
    have f3 := hu1.free 3
    have hs1 : BelS w2.drew ((((W.setCell ⟨g1, 0, none⟩ (.int .u64 (XF.a : Int))).setCell ⟨g1, 1, none⟩ (.int .u64 (XF.b : Int))).setCell ⟨g1, 2, none⟩ (.int .u64 (XF.c : Int))).setCell ⟨g1, 3, none⟩ (.int .u64 (XF.d : Int))) := Below.set4U hs0 hg1 (.int .u64 (XF.a : Int)) (.int .u64 (XF.b : Int)) (.int .u64 (XF.c : Int)) (.int .u64 (XF.d : Int))
    refine wpAnyH_ready (rs := [8]) (by kernel_rfl) (by simp) (AllReadyH.cons rfl (fun K hK => ?_) AllReadyH.nil)
    go_simp
    refine hK.out _ _ hs1 (fun _ => ?_)
    clear hK K z0 z1 z2 z3 f0 f1 f2 f3
    replace hu1 := LBlk.set4 (s := U4.zero) hu1 XF
    replace hu2 := LBlk.far4U hu2 n12.symm (.int .u64 (XF.a : Int)) (.int .u64 (XF.b : Int)) (.int .u64 (XF.c : Int)) (.int .u64 (XF.d : Int))
    generalize ((((W.setCell ⟨g1, 0, none⟩ (.int .u64 (XF.a : Int))).setCell ⟨g1, 1, none⟩ (.int .u64 (XF.b : Int))).setCell ⟨g1, 2, none⟩ (.int .u64 (XF.c : Int))).setCell ⟨g1, 3, none⟩ (.int .u64 (XF.d : Int))) = Wa1 at *
    obtain ⟨z0, z1, z2, z3⟩ := LBlk.all (s := U4.zero) hu2
    have f0 := hu2.free 0
    have f1 := hu2.free 1
    have f2 := hu2.free 2
    have f3 := hu2.free 3
    have hs2 : BelS w2.drew ((((Wa1.setCell ⟨g2, 0, none⟩ (.int .u64 (XT.a : Int))).setCell ⟨g2, 1, none⟩ (.int .u64 (XT.b : Int))).setCell ⟨g2, 2, none⟩ (.int .u64 (XT.c : Int))).setCell ⟨g2, 3, none⟩ (.int .u64 (XT.d : Int))) := Below.set4U hs1 hg2 (.int .u64 (XT.a : Int)) (.int .u64 (XT.b : Int)) (.int .u64 (XT.c : Int)) (.int .u64 (XT.d : Int))
    refine wpAnyH_ready (rs := [9]) (by kernel_rfl) (by simp) (AllReadyH.cons rfl (fun K hK => ?_) AllReadyH.nil)
    go_simp
    refine hK.out _ _ hs2 (fun _ => ?_)
    clear hK K z0 z1 z2 z3 f0 f1 f2 f3
    replace hu2 := LBlk.set4 (s := U4.zero) hu2 XT
    replace hu1 := LBlk.far4U hu1 n12 (.int .u64 (XT.a : Int)) (.int .u64 (XT.b : Int)) (.int .u64 (XT.c : Int)) (.int .u64 (XT.d : Int))
    generalize ((((Wa1.setCell ⟨g2, 0, none⟩ (.int .u64 (XT.a : Int))).setCell ⟨g2, 1, none⟩ (.int .u64 (XT.b : Int))).setCell ⟨g2, 2, none⟩ (.int .u64 (XT.c : Int))).setCell ⟨g2, 3, none⟩ (.int .u64 (XT.d : Int))) = Wa2 at *
    refine wpAnyH_done (by kernel_rfl) ?_ _
    have A4 := (A2.up (Below.drew (Below.refl _ _))).up hs2
    have hk4 : Kept W0 Wa2 := (hk2.trans (Kept.drew w2)).trans (Kept.of_below hs2)
    have HUU : Hid (∀ W, Kept Wa2 W → W.cell? ⟨g1, 0, none⟩ = some (.int .u64 (XF.a : Int)) ∧ W.cell? ⟨g1, 1, none⟩ = some (.int .u64 (XF.b : Int)) ∧ W.cell? ⟨g1, 2, none⟩ = some (.int .u64 (XF.c : Int)) ∧ W.cell? ⟨g1, 3, none⟩ = some (.int .u64 (XF.d : Int)) ∧ W.cell? ⟨g2, 0, none⟩ = some (.int .u64 (XT.a : Int)) ∧ W.cell? ⟨g2, 1, none⟩ = some (.int .u64 (XT.b : Int)) ∧ W.cell? ⟨g2, 2, none⟩ = some (.int .u64 (XT.c : Int)) ∧ W.cell? ⟨g2, 3, none⟩ = some (.int .u64 (XT.d : Int))) := Lib.hid (fun W hk => by
      obtain ⟨a0, a1, a2, a3⟩ := LBlk.all (s := XF) hu1
      obtain ⟨b0, b1, b2, b3⟩ := LBlk.all (s := XT) hu2
      exact ⟨hk.cell a0, hk.cell a1, hk.cell a2, hk.cell a3, hk.cell b0, hk.cell b1, hk.cell b2, hk.cell b3⟩)
    obtain ⟨z0, z1, z2, z3, z4, z5, z6, z7, z8⟩ := HBX.out _ hk4
    have han := aante_any A4 (show yn + 0 + 3 ≤ maxLen by have := HYN.out; unfold maxLen; omega) ch HCH.out t (HT.out _ hk4) HSS.out fr (hk4.block HK.out)
    rw [HCL.out] at han
    have HAN := Lib.hid han
    have HK4 := Lib.hid hk4
    obtain ⟨QA, hQA⟩ : ∃ QA, QA = anteM ps ch t := ⟨_, rfl⟩
    rw [← hQA] at HNO HKY HBA HAN
    obtain ⟨qe, R2⟩ := QA
    dsimp only at HNO HKY HBA HAN
    clear han hQA A4 A2 hk2 hk4 HOD H1 H2 hS0 hg1 hg2 n12 hs0 hs1 hs2 hu1 hu2
    go_wp2_with fail
    refine HAN.out.mono ?_
    rintro e w5 ⟨rfl, A5, hk45⟩
    have HF5 := Lib.hid (HQ1.out.trans (A5.below (B := w.heap.size) HYM.out HQ1.out.size))
    have HK5 := Lib.hid (HK4.out.trans hk45)
    have HA5 := Lib.hid A5
    obtain ⟨u0, u1, u2, u3, u4, u5, u6, u7⟩ := HUU.out _ hk45
    have HUU5 := Lib.hid (fun (W : World) (hz : Kept w5 W) => HUU.out W (hk45.trans hz))
    clear HAN A5 hk45 HUU z0 z1 z2 z3 z4 z5 z6 z7 z8
    by_cases e0 : qe = 0
    rotate_left
    · have hne : (qe != 0) = true := by simpa using e0
      have hR := HNO.out e0
      subst hR
      have hp := HA5.out.pairs (show yn + (0 + 3) ≤ 1000000000 by have := HYN.out; omega) ⟨#[]⟩ (by decide +kernel)
      rw [filter_all] at hp
      have HPa := Lib.hid hp
      clear hp HNO HKY HBA HUU5 u0 u1 u2 u3 u4 u5 u6 u7
      go_wp2_with fail
      refine HPa.out.mono ?_
      rintro e w7 ⟨v7, rfl, ho7, hb7⟩
      have hsa := samePs_any w7 v7 (.slice A n c) _ _ ho7.rdP (HPS0.out _ (HK5.out.trans (Kept.of_below hb7)))
      have HSA := Lib.hid hsa
      obtain ⟨A7, c7, hv7⟩ := ho7.form
      subst hv7
      have hq7 := below_chain HF5.out HF5.out.size hb7
      clear ho7 HPa hsa
      simp only [decide_true] at HSA
      generalize R2.length = n7 at *
      go_wp2_with fail
      refine HSA.out.mono ?_
      rintro e w8 ⟨rfl, hb8⟩
      have hq8 := below_chain hq7 hq7.size hb8
      go_wp2_with fail
      go_ret
      exact ⟨rfl, hq8⟩
    subst e0
    have HPS := HPS0
    have HSTI : Hid (∀ key, ¬ key = kAcc t.sg → ¬ key = kBal t.sg fuelS → ¬ key = (⟨#[98, 97, 108, 47, 102, 101, 101, 115, 47, 102, 117, 101, 108]⟩ : ByteArray) → getL R2 key = getL ps key) := Lib.hid fun key h1 h2 h3 => HKY.out rfl key h1 h2 h3
    have HBA2 := Lib.hid (fun h2 => HBA.out rfl h2)
    clear HNO HKY HBA HPS0 HK4
    obtain ⟨z0, z1, z2, z3, z4, z5, z6, z7, z8⟩ := HBX.out _ HK5.out
    have had := radd_any XF t.fee w5 HXX.out.1 HFE.out
    obtain ⟨AD, hAD⟩ : ∃ AD, AD = addU XF t.fee := ⟨_, rfl⟩
    rw [← hAD] at had HBA2
    obtain ⟨MM, mb⟩ := AD
    have hsu := fun Z => rsub_any XT t.fee Z HXX.out.2 HFE.out
    obtain ⟨SU, hSU⟩ : ∃ SU, SU = subU XT t.fee := ⟨_, rfl⟩
    rw [← hSU] at hsu HBA2
    obtain ⟨LL, lb⟩ := SU
    dsimp only at had hsu
    unfold U4.val U4.cells at had hsu
    have HAD := Lib.hid had
    have HSU := Lib.hid hsu
    clear had hsu hAD hSU
    go_wp2_with fail
    refine HAD.out.mono ?_
    rintro e w6 ⟨rfl, hb6⟩
    have hkm := heap_alloc_new w6 (.cells #[.int .u64 (MM.a : Int), .int .u64 (MM.b : Int), .int .u64 (MM.c : Int), .int .u64 (MM.d : Int)] 25)
    have hb6a := hb6.alloc hb6.size (.cells #[.int .u64 (MM.a : Int), .int .u64 (MM.b : Int), .int .u64 (MM.c : Int), .int .u64 (MM.d : Int)] 25)
    have ham : Below w6.heap.size w6 (w6.alloc (.cells #[.int .u64 (MM.a : Int), .int .u64 (MM.b : Int), .int .u64 (MM.c : Int), .int .u64 (MM.d : Int)] 25)) := (Below.refl _ _).alloc (Nat.le_refl _) _
    have hK6 := HK5.out.trans (Kept.of_below hb6a)
    obtain ⟨y0, y1, y2, y3, y4, y5, y6, y7, y8⟩ := HBX.out _ hK6
    obtain ⟨t0, t1, t2, t3, t4, t5, t6, t7⟩ := HUU5.out _ (Kept.of_below hb6a)
    have HM6 : Hid (∀ Z, Below (w6.alloc (.cells #[.int .u64 (MM.a : Int), .int .u64 (MM.b : Int), .int .u64 (MM.c : Int), .int .u64 (MM.d : Int)] 25)).heap.size (w6.alloc (.cells #[.int .u64 (MM.a : Int), .int .u64 (MM.b : Int), .int .u64 (MM.c : Int), .int .u64 (MM.d : Int)] 25)) Z → Z.cell? ⟨w6.heap.size, 0, none⟩ = some (.int .u64 (MM.a : Int)) ∧ Z.cell? ⟨w6.heap.size, 1, none⟩ = some (.int .u64 (MM.b : Int)) ∧ Z.cell? ⟨w6.heap.size, 2, none⟩ = some (.int .u64 (MM.c : Int)) ∧ Z.cell? ⟨w6.heap.size, 3, none⟩ = some (.int .u64 (MM.d : Int))) := Lib.hid fun Z hz => by
      have hz1 := (hz.block _ (blk_lt hkm)).trans hkm
      exact ⟨blk_cell hz1 0, blk_cell hz1 1, blk_cell hz1 2, blk_cell hz1 3⟩
    have HB6 := Lib.hid hb6a
    have HSU6 := Lib.hid (HSU.out (w6.alloc (.cells #[.int .u64 (MM.a : Int), .int .u64 (MM.b : Int), .int .u64 (MM.c : Int), .int .u64 (MM.d : Int)] 25)))
    clear z0 z1 z2 z3 z4 z5 z6 z7 z8 u0 u1 u2 u3 u4 u5 u6 u7 hkm hb6a ham hK6 HAD HSU hb6
    go_wp2_with fail
    generalize w6.alloc (.cells #[.int .u64 (MM.a : Int), .int .u64 (MM.b : Int), .int .u64 (MM.c : Int), .int .u64 (MM.d : Int)] 25) = W6 at *
    refine HSU6.out.mono ?_
    rintro e w7 ⟨rfl, hb7⟩
    have hkl := heap_alloc_new w7 (.cells #[.int .u64 (LL.a : Int), .int .u64 (LL.b : Int), .int .u64 (LL.c : Int), .int .u64 (LL.d : Int)] 25)
    have hb7a := hb7.alloc hb7.size (.cells #[.int .u64 (LL.a : Int), .int .u64 (LL.b : Int), .int .u64 (LL.c : Int), .int .u64 (LL.d : Int)] 25)
    have hal : Below w7.heap.size w7 (w7.alloc (.cells #[.int .u64 (LL.a : Int), .int .u64 (LL.b : Int), .int .u64 (LL.c : Int), .int .u64 (LL.d : Int)] 25)) := (Below.refl _ _).alloc (Nat.le_refl _) _
    have hb57 := below_chain HB6.out HB6.out.size hb7a
    have HK8 := Lib.hid (HK5.out.trans (Kept.of_below hb57))
    have HA8 := Lib.hid (HA5.out.up hb57)
    have HF8 := Lib.hid (below_chain HF5.out HF5.out.size hb57)
    have HX8 : Hid (∀ W, Below (w7.alloc (.cells #[.int .u64 (LL.a : Int), .int .u64 (LL.b : Int), .int .u64 (LL.c : Int), .int .u64 (LL.d : Int)] 25)).heap.size (w7.alloc (.cells #[.int .u64 (LL.a : Int), .int .u64 (LL.b : Int), .int .u64 (LL.c : Int), .int .u64 (LL.d : Int)] 25)) W → W.cell? ⟨w.heap.size, 0, none⟩ = some (.string t.sg) ∧ W.cell? ⟨w6.heap.size, 0, none⟩ = some (.int .u64 (MM.a : Int)) ∧ W.cell? ⟨w6.heap.size, 1, none⟩ = some (.int .u64 (MM.b : Int)) ∧ W.cell? ⟨w6.heap.size, 2, none⟩ = some (.int .u64 (MM.c : Int)) ∧ W.cell? ⟨w6.heap.size, 3, none⟩ = some (.int .u64 (MM.d : Int)) ∧ W.cell? ⟨w7.heap.size, 0, none⟩ = some (.int .u64 (LL.a : Int)) ∧ W.cell? ⟨w7.heap.size, 1, none⟩ = some (.int .u64 (LL.b : Int)) ∧ W.cell? ⟨w7.heap.size, 2, none⟩ = some (.int .u64 (LL.c : Int)) ∧ W.cell? ⟨w7.heap.size, 3, none⟩ = some (.int .u64 (LL.d : Int))) := Lib.hid fun W hz => by
      have hz1 := (hz.block _ (blk_lt hkl)).trans hkl
      have hz2 := below_chain hb7a hb7a.size hz
      obtain ⟨m0, m1, m2, m3⟩ := HM6.out _ hz2
      exact ⟨(HBX.out _ (HK8.out.trans (Kept.of_below hz))).1, m0, m1, m2, m3, blk_cell hz1 0, blk_cell hz1 1, blk_cell hz1 2, blk_cell hz1 3⟩
    have HB1 := Lib.hid (fun (Z : World) (hz : Below (w7.alloc (.cells #[.int .u64 (LL.a : Int), .int .u64 (LL.b : Int), .int .u64 (LL.c : Int), .int .u64 (LL.d : Int)] 25)).heap.size (w7.alloc (.cells #[.int .u64 (LL.a : Int), .int .u64 (LL.b : Int), .int .u64 (LL.c : Int), .int .u64 (LL.d : Int)] 25)) Z) => (HA8.out.up hz).bal feesS fuelS (by decide +kernel) (by decide +kernel))
    have HB2 := Lib.hid (fun (Z : World) (hz : Below (w7.alloc (.cells #[.int .u64 (LL.a : Int), .int .u64 (LL.b : Int), .int .u64 (LL.c : Int), .int .u64 (LL.d : Int)] 25)).heap.size (w7.alloc (.cells #[.int .u64 (LL.a : Int), .int .u64 (LL.b : Int), .int .u64 (LL.c : Int), .int .u64 (LL.d : Int)] 25)) Z) => (HA8.out.up hz).bal t.sg fuelS HSS.out (by decide +kernel))
    obtain ⟨BM, hBM⟩ : ∃ X, X = balM R2 feesS fuelS := ⟨_, rfl⟩
    obtain ⟨BL, hBL⟩ : ∃ X, X = balM R2 t.sg fuelS := ⟨_, rfl⟩
    rw [← hBM] at HB1 HBA2
    rw [← hBL] at HB2 HBA2
    obtain ⟨K1, hK1⟩ : ∃ K, K = kAcc t.sg := ⟨_, rfl⟩
    obtain ⟨K2, hK2⟩ : ∃ K, K = kBal t.sg fuelS := ⟨_, rfl⟩
    have cc1 : ∀ W, (Op.stringOp .add ⟨#[97, 99, 99, 47]⟩ t.sg).run Tryz.prog W = .ok (.string K1) W := fun W => by
      rw [hK1]; exact txt_add accP t.sg (by rw [show accP.size = 4 from rfl]; have := HSS.out; omega) W
    obtain ⟨KH, hKH⟩ : ∃ K, K = balP ++ t.sg := ⟨_, rfl⟩
    have cc2 : ∀ W, (Op.stringOp .add ⟨#[98, 97, 108, 47]⟩ t.sg).run Tryz.prog W = .ok (.string KH) W := fun W => by
      rw [hKH]; exact txt_add balP t.sg (by rw [show balP.size = 4 from rfl]; have := HSS.out; omega) W
    have cc3 : ∀ W, (Op.stringOp .add KH ⟨#[47, 102, 117, 101, 108]⟩).run Tryz.prog W = .ok (.string K2) W := fun W => by
      have e2 : K2 = KH ++ ⟨#[47, 102, 117, 101, 108]⟩ := by
        rw [hK2, hKH]; unfold kBal
        apply bytes_ext
        simp only [data_list, List.append_assoc]
        rfl
      rw [e2]; exact txt_add KH ⟨#[47, 102, 117, 101, 108]⟩ (by rw [hKH, ByteArray.size_append, show balP.size = 4 from rfl]; have := HSS.out; rw [show (⟨#[47, 102, 117, 101, 108]⟩ : ByteArray).size = 5 from rfl]; omega) W
    rw [← hK1, ← hK2] at HSTI
    unfold U4.val U4.cells feesS fuelS at HB1
    unfold U4.val U4.cells fuelS at HB2
    clear hkl hb7a hal hb57 HM6 hb7 HSU6 y0 y1 y2 y3 y4 y5 y6 y7 y8 t0 t1 t2 t3 t4 t5 t6 t7 hBM hBL hK1 hK2 hKH HK5 HA5 HF5 HUU5 HB6 HXX HFE
    go_wp2_with fail
    generalize w7.alloc (.cells #[.int .u64 (LL.a : Int), .int .u64 (LL.b : Int), .int .u64 (LL.c : Int), .int .u64 (LL.d : Int)] 25) = W8 at *
    generalize w7.heap.size = g7 at *
    generalize w6.heap.size = g6 at *
    by_cases hsf : t.sg = feesS
    · have fab : t.sg.toList = [102, 101, 101, 115] := by rw [hsf]; decide +kernel
      clear hsf HBA2
      have hbd : Below W8.heap.size W8 W8.drew := (Below.refl _ _).drew
      go_wp2_with fail
      refine wp_region_held_drew (S := BelS W8.drew) (by kernel_rfl) (BelS.refl _) (fun hS0 => ?_)
      refine wpAnyH_take (i := 0) (oi := _) (v := ?_) rfl (by kernel_rfl) (by kernel_rfl) (by kernel_rfl) (fun _ _ _ h => h) (Or.inl ⟨by rfl, ?_⟩) hS0 ?_
      rotate_left
      · intro W hSW
        try go_simp
        all_goals with_reducible rfl
      simp only [Act.put, List.setIfInBounds_toArray, List.set_cons_zero, List.set_cons_succ, List.getElem_toArray, List.getElem_cons_zero, List.getElem_cons_succ]
      refine wpAnyH_take (i := 1) (oi := _) (v := ?_) rfl (by kernel_rfl) (by kernel_rfl) (by kernel_rfl) (fun _ _ _ h => h) (Or.inl ⟨by rfl, ?_⟩) hS0 ?_
      rotate_left
      · intro W hSW
        obtain ⟨zs, m0, m1, m2, m3, l0, l1, l2, l3⟩ := HX8.out W (below_chain hbd hbd.size hSW)
        try go_simp
        all_goals with_reducible rfl
      simp only [Act.put, List.setIfInBounds_toArray, List.set_cons_zero, List.set_cons_succ, List.getElem_toArray, List.getElem_cons_zero, List.getElem_cons_succ]
      refine wpAnyH_take (i := 2) (oi := _) (v := .bool false) rfl (by kernel_rfl) (by kernel_rfl) (by kernel_rfl) (fun _ _ _ h => h) (Or.inl ⟨by rfl, ?_⟩) hS0 ?_
      skip
      · intro W hSW
        try go_simp
        all_goals first | with_reducible rfl | (simp; done) | trace_state
      simp only [Act.put, List.setIfInBounds_toArray, List.set_cons_zero, List.set_cons_succ, List.getElem_toArray, List.getElem_cons_zero, List.getElem_cons_succ]
      refine wpAnyH_take (i := 3) (oi := _) (v := ?_) rfl (by kernel_rfl) (by kernel_rfl) (by kernel_rfl) (fun _ _ _ h => h) (Or.inl ⟨by rfl, ?_⟩) hS0 ?_
      rotate_left
      · intro W hSW
        try go_simp
        all_goals with_reducible rfl
      simp only [Act.put, List.setIfInBounds_toArray, List.set_cons_zero, List.set_cons_succ, List.getElem_toArray, List.getElem_cons_zero, List.getElem_cons_succ]
      refine wpAnyH_take (i := 4) (oi := _) (v := undef) rfl (by kernel_rfl) (by kernel_rfl) (by kernel_rfl) (fun _ _ _ h => h) (Or.inr ⟨by rfl, rfl⟩) hS0 ?_
      simp only [Act.put, List.setIfInBounds_toArray, List.set_cons_zero, List.set_cons_succ, List.getElem_toArray, List.getElem_cons_zero, List.getElem_cons_succ]
      refine wpAnyH_take (i := 5) (oi := _) (v := undef) rfl (by kernel_rfl) (by kernel_rfl) (by kernel_rfl) (fun _ _ _ h => h) (Or.inr ⟨by rfl, rfl⟩) hS0 ?_
      simp only [Act.put, List.setIfInBounds_toArray, List.set_cons_zero, List.set_cons_succ, List.getElem_toArray, List.getElem_cons_zero, List.getElem_cons_succ]
      refine wpAnyH_take (i := 6) (oi := _) (v := undef) rfl (by kernel_rfl) (by kernel_rfl) (by kernel_rfl) (fun _ _ _ h => h) (Or.inr ⟨by rfl, rfl⟩) hS0 ?_
      simp only [Act.put, List.setIfInBounds_toArray, List.set_cons_zero, List.set_cons_succ, List.getElem_toArray, List.getElem_cons_zero, List.getElem_cons_succ]
      refine wpAnyH_take (i := 7) (oi := _) (v := undef) rfl (by kernel_rfl) (by kernel_rfl) (by kernel_rfl) (fun _ _ _ h => h) (Or.inr ⟨by rfl, rfl⟩) hS0 ?_
      simp only [Act.put, List.setIfInBounds_toArray, List.set_cons_zero, List.set_cons_succ, List.getElem_toArray, List.getElem_cons_zero, List.getElem_cons_succ]
      refine wpAnyH_take (i := 8) (oi := _) (v := undef) rfl (by kernel_rfl) (by kernel_rfl) (by kernel_rfl) (fun _ _ _ h => h) (Or.inr ⟨by rfl, rfl⟩) hS0 ?_
      simp only [Act.put, List.setIfInBounds_toArray, List.set_cons_zero, List.set_cons_succ, List.getElem_toArray, List.getElem_cons_zero, List.getElem_cons_succ]
      refine wpAnyH_take (i := 9) (oi := _) (v := undef) rfl (by kernel_rfl) (by kernel_rfl) (by kernel_rfl) (fun _ _ _ h => h) (Or.inr ⟨by rfl, rfl⟩) hS0 ?_
      simp only [Act.put, List.setIfInBounds_toArray, List.set_cons_zero, List.set_cons_succ, List.getElem_toArray, List.getElem_cons_zero, List.getElem_cons_succ]
      refine wpAnyH_take (i := 10) (oi := _) (v := undef) rfl (by kernel_rfl) (by kernel_rfl) (by kernel_rfl) (fun _ _ _ h => h) (Or.inr ⟨by rfl, rfl⟩) hS0 ?_
      simp only [Act.put, List.setIfInBounds_toArray, List.set_cons_zero, List.set_cons_succ, List.getElem_toArray, List.getElem_cons_zero, List.getElem_cons_succ]
      refine wpAnyH_take (i := 11) (oi := _) (v := undef) rfl (by kernel_rfl) (by kernel_rfl) (by kernel_rfl) (fun _ _ _ h => h) (Or.inr ⟨by rfl, rfl⟩) hS0 ?_
      simp only [Act.put, List.setIfInBounds_toArray, List.set_cons_zero, List.set_cons_succ, List.getElem_toArray, List.getElem_cons_zero, List.getElem_cons_succ]
      refine wpAnyH_take (i := 12) (oi := _) (v := undef) rfl (by kernel_rfl) (by kernel_rfl) (by kernel_rfl) (fun _ _ _ h => h) (Or.inr ⟨by rfl, rfl⟩) hS0 ?_
      simp only [Act.put, List.setIfInBounds_toArray, List.set_cons_zero, List.set_cons_succ, List.getElem_toArray, List.getElem_cons_zero, List.getElem_cons_succ]
      refine wpAnyH_take (i := 13) (oi := _) (v := undef) rfl (by kernel_rfl) (by kernel_rfl) (by kernel_rfl) (fun _ _ _ h => h) (Or.inr ⟨by rfl, rfl⟩) hS0 ?_
      simp only [Act.put, List.setIfInBounds_toArray, List.set_cons_zero, List.set_cons_succ, List.getElem_toArray, List.getElem_cons_zero, List.getElem_cons_succ]
      refine wpAnyH_take (i := 14) (oi := _) (v := undef) rfl (by kernel_rfl) (by kernel_rfl) (by kernel_rfl) (fun _ _ _ h => h) (Or.inr ⟨by rfl, rfl⟩) hS0 ?_
      simp only [Act.put, List.setIfInBounds_toArray, List.set_cons_zero, List.set_cons_succ, List.getElem_toArray, List.getElem_cons_zero, List.getElem_cons_succ]
      refine wpAnyH_take (i := 15) (oi := _) (v := undef) rfl (by kernel_rfl) (by kernel_rfl) (by kernel_rfl) (fun _ _ _ h => h) (Or.inr ⟨by rfl, rfl⟩) hS0 ?_
      simp only [Act.put, List.setIfInBounds_toArray, List.set_cons_zero, List.set_cons_succ, List.getElem_toArray, List.getElem_cons_zero, List.getElem_cons_succ]
      refine wpAnyH_take (i := 16) (oi := _) (v := undef) rfl (by kernel_rfl) (by kernel_rfl) (by kernel_rfl) (fun _ _ _ h => h) (Or.inr ⟨by rfl, rfl⟩) hS0 ?_
      simp only [Act.put, List.setIfInBounds_toArray, List.set_cons_zero, List.set_cons_succ, List.getElem_toArray, List.getElem_cons_zero, List.getElem_cons_succ]
      refine wpAnyH_take (i := 17) (oi := _) (v := undef) rfl (by kernel_rfl) (by kernel_rfl) (by kernel_rfl) (fun _ _ _ h => h) (Or.inr ⟨by rfl, rfl⟩) hS0 ?_
      simp only [Act.put, List.setIfInBounds_toArray, List.set_cons_zero, List.set_cons_succ, List.getElem_toArray, List.getElem_cons_zero, List.getElem_cons_succ]
      refine wpAnyH_take (i := 18) (oi := _) (v := undef) rfl (by kernel_rfl) (by kernel_rfl) (by kernel_rfl) (fun _ _ _ h => h) (Or.inr ⟨by rfl, rfl⟩) hS0 ?_
      simp only [Act.put, List.setIfInBounds_toArray, List.set_cons_zero, List.set_cons_succ, List.getElem_toArray, List.getElem_cons_zero, List.getElem_cons_succ]
      refine wpAnyH_take (i := 19) (oi := _) (v := undef) rfl (by kernel_rfl) (by kernel_rfl) (by kernel_rfl) (fun _ _ _ h => h) (Or.inr ⟨by rfl, rfl⟩) hS0 ?_
      simp only [Act.put, List.setIfInBounds_toArray, List.set_cons_zero, List.set_cons_succ, List.getElem_toArray, List.getElem_cons_zero, List.getElem_cons_succ]
      refine wpAnyH_take (i := 20) (oi := _) (v := undef) rfl (by kernel_rfl) (by kernel_rfl) (by kernel_rfl) (fun _ _ _ h => h) (Or.inr ⟨by rfl, rfl⟩) hS0 ?_
      simp only [Act.put, List.setIfInBounds_toArray, List.set_cons_zero, List.set_cons_succ, List.getElem_toArray, List.getElem_cons_zero, List.getElem_cons_succ]
      refine wpAnyH_take (i := 21) (oi := _) (v := undef) rfl (by kernel_rfl) (by kernel_rfl) (by kernel_rfl) (fun _ _ _ h => h) (Or.inr ⟨by rfl, rfl⟩) hS0 ?_
      simp only [Act.put, List.setIfInBounds_toArray, List.set_cons_zero, List.set_cons_succ, List.getElem_toArray, List.getElem_cons_zero, List.getElem_cons_succ]
      refine wpAnyH_take (i := 22) (oi := _) (v := undef) rfl (by kernel_rfl) (by kernel_rfl) (by kernel_rfl) (fun _ _ _ h => h) (Or.inr ⟨by rfl, rfl⟩) hS0 ?_
      simp only [Act.put, List.setIfInBounds_toArray, List.set_cons_zero, List.set_cons_succ, List.getElem_toArray, List.getElem_cons_zero, List.getElem_cons_succ]
      refine wpAnyH_take (i := 23) (oi := _) (v := undef) rfl (by kernel_rfl) (by kernel_rfl) (by kernel_rfl) (fun _ _ _ h => h) (Or.inr ⟨by rfl, rfl⟩) hS0 ?_
      simp only [Act.put, List.setIfInBounds_toArray, List.set_cons_zero, List.set_cons_succ, List.getElem_toArray, List.getElem_cons_zero, List.getElem_cons_succ]
      refine wpAnyH_take (i := 24) (oi := _) (v := ?_) rfl (by kernel_rfl) (by kernel_rfl) (by kernel_rfl) (fun _ _ _ h => h) (Or.inl ⟨by rfl, ?_⟩) hS0 ?_
      rotate_left
      · intro W hSW
        try go_simp
        all_goals with_reducible rfl
      simp only [Act.put, List.setIfInBounds_toArray, List.set_cons_zero, List.set_cons_succ, List.getElem_toArray, List.getElem_cons_zero, List.getElem_cons_succ]
      refine wpAnyH_done (by kernel_rfl) ?_ _
      have hW9 : Below W8.heap.size W8 W8.drew := hbd
      have HA9 := Lib.hid (HA8.out.up hW9)
      have HK9 := Lib.hid (HK8.out.trans (Kept.of_below hW9))
      have HF9 := Lib.hid (below_chain HF8.out HF8.out.size hW9)
      clear hW9 HB1 HB2 HX8 HA8 HK8 HF8
      try clear hbd
      try clear hS0
      try clear hqA hbA hSA
      try clear hqB hbB hSB
      generalize W8.drew = W9 at *
      go_wp2_with fail
      go_loopw [95] (fun i Z => ∃ j : Nat, j ≤ n ∧ i = .int .i64 (j : Int) ∧ Below W9.heap.size W9 Z)
        (fun i _ => n - (intOf i).toNat)
      case atStart => exact ⟨0, by omega, rfl, Below.refl _ _⟩
      case round =>
        obtain ⟨j, hj, rfl, hbe⟩ := hrel
        have HFR := Lib.hid (fun (Z : World) (hz : Below wr.heap.size wr Z) => below_chain HF9.out HF9.out.size (below_chain hbe hbe.size hz))
        have hn9 : n ≤ 2000000 := HLN2.out
        by_cases hlt : j < n
        · have hjl : j < ps.length := by have := HNN.out; omega
          have i1 : (0 : Int) ≤ (j : Int) := by omega
          have i2 : (j : Int) < (n : Int) := by omega
          have hkr := HK9.out.trans (Kept.of_below hbe)
          obtain ⟨A', c', e', -, -, hp⟩ := HPS.out _ hkr
          obtain ⟨b, o, hA', -, hcl⟩ := hp (by omega)
          injection e' with s1 s2 s3
          subst s1
          subst s3
          subst hA'
          clear s2 hp
          obtain ⟨k0, x, k1, hx⟩ := hcl j hjl
          have hsz := HNL.out _ (List.getElem_mem hjl)
          have HST := Lib.hid (fun h1 h2 h3 => (HSTI.out (ps[j]'hjl).1 h1 h2 h3).trans (HGL.out _ (List.getElem_mem hjl)))
          generalize ps[j]'hjl = pr at *
          obtain ⟨p1, p2⟩ := pr
          dsimp only at k0 hx hsz HST
          have HXR := Lib.hid hx
          obtain ⟨Ax, cx, hxv⟩ := hx.form
          subst hxv
          obtain ⟨nx, hnx⟩ : ∃ nx, nx = p2.length := ⟨_, rfl⟩
          rw [← hnx] at HXR k1
          clear hnx hcl
          have hbx := heap_alloc_new wr (.cells #[.string p1, .slice Ax nx cx] 48)
          have ha : Below wr.heap.size wr (wr.alloc (.cells #[.string p1, .slice Ax nx cx] 48)) := (Below.refl _ _).alloc (Nat.le_refl _) _
          have hbea := below_chain hbe hbe.size ha
          have HGE := Lib.hid ((HA9.out.up hbea).get p1 hsz)
          have x0 := blk_cell hbx 0
          have x1 := blk_cell hbx 1
          simp at x0 x1
          have HCE : Hid (∀ Z, Below (wr.alloc (.cells #[.string p1, .slice Ax nx cx] 48)).heap.size (wr.alloc (.cells #[.string p1, .slice Ax nx cx] 48)) Z → Z.cell? ⟨wr.heap.size, 0, none⟩ = some (.string p1) ∧ Z.cell? ⟨wr.heap.size, 1, none⟩ = some (.slice Ax nx cx) ∧ Z.cell? ⟨w.heap.size, 0, none⟩ = some (.string t.sg) ∧ Rd Z Z.heap.size (.slice Ax nx cx) p2 ∧ Below w.heap.size w Z ∧ Below W9.heap.size W9 Z) := Lib.hid fun Z hz => by
            have hz1 := (hz.block _ (blk_lt hbx)).trans hbx
            have hz2 := below_chain ha ha.size hz
            exact ⟨blk_cell hz1 0, blk_cell hz1 1, (HBX.out _ (hkr.trans (Kept.of_below hz2))).1, (Kept.of_below hz2).rd HXR.out, HFR.out _ hz2, below_chain hbe hbe.size hz2⟩
          clear hx hbx ha hbea hkr
          go_wp2_with fail
          generalize wr.alloc (.cells #[.string p1, .slice Ax nx cx] 48) = Wr at *
          refine HGE.out.mono ?_
          rintro e w8 ⟨v8, rfl, ho8, hb8⟩
          obtain ⟨y0, y1, y2, hrx, -, hbf⟩ := HCE.out _ hb8
          obtain ⟨GV, hGV⟩ : ∃ GV, GV = getL R2 p1 := ⟨_, rfl⟩
          rw [← hGV] at ho8 HST ⊢
          obtain ⟨gb, hgb⟩ : ∃ gb, gb = GV.isSome := ⟨_, rfl⟩
          rw [← hgb]
          have HO8 := Lib.hid ho8
          obtain ⟨A8, c8, hv8⟩ := ho8.form
          subst hv8
          obtain ⟨n8, hn8⟩ : ∃ n8, n8 = (GV.getD []).length := ⟨_, rfl⟩
          rw [← hn8] at HO8 ⊢
          have HGB := Lib.hid hgb
          clear hGV hgb hn8 ho8 HGE HCE k0 k1 x0 x1
          have HBF := Lib.hid hbf
          have HRX := Lib.hid hrx
          clear hbf hrx
          by_cases e1 : p1 = K1
          · have f1 : p1.toList = K1.toList := by rw [e1]
            clear e1 HST HRX HO8 HGB
            go_wp2_with fail
            all_goals exact ⟨⟨j + 1, by omega, by go_num, HBF.out⟩, by simp [intOf]; omega⟩
          · have f1 : ¬ p1.toList = K1.toList := fun h => e1 (toList_inj h)
            have E1 := Lib.hid e1
            clear e1
            by_cases e2 : p1 = K2
            · have f2 : p1.toList = K2.toList := by rw [e2]
              clear e2 HST HRX HO8 HGB
              go_wp2_with fail
              all_goals exact ⟨⟨j + 1, by omega, by go_num, HBF.out⟩, by simp [intOf]; omega⟩
            · have f2 : ¬ p1.toList = K2.toList := fun h => e2 (toList_inj h)
              have E2 := Lib.hid e2
              clear e2
              by_cases e3 : p1 = (⟨#[98, 97, 108, 47, 102, 101, 101, 115, 47, 102, 117, 101, 108]⟩ : ByteArray)
              · have f3 : p1.toList = [98, 97, 108, 47, 102, 101, 101, 115, 47, 102, 117, 101, 108] := by rw [e3]; decide +kernel
                clear e3 HST HRX HO8 HGB
                go_wp2_with fail
                all_goals exact ⟨⟨j + 1, by omega, by go_num, HBF.out⟩, by simp [intOf]; omega⟩
              · have f3 : ¬ p1.toList = [98, 97, 108, 47, 102, 101, 101, 115, 47, 102, 117, 101, 108] := fun h => e3 (toList_inj (h.trans (show ([98, 97, 108, 47, 102, 101, 101, 115, 47, 102, 117, 101, 108] : List UInt8) = (⟨#[98, 97, 108, 47, 102, 101, 101, 115, 47, 102, 117, 101, 108]⟩ : ByteArray).toList by decide +kernel)))
                have hst := HST.out E1.out E2.out e3
                subst hst
                obtain rfl : gb = true := HGB.out
                have hr8 : Rd w8 w8.heap.size (.slice A8 n8 c8) p2 := HO8.out.rd
                have cv1 := run_str Tryz.underlying27 Tryz.underlying5 Tryz.isString hr8
                have cv2 := run_str Tryz.underlying27 Tryz.underlying5 Tryz.isString HRX.out
                have f4 : ((⟨p2.toArray⟩ : ByteArray).toList != (⟨p2.toArray⟩ : ByteArray).toList) = false := by simp
                generalize (⟨p2.toArray⟩ : ByteArray) = SV at *
                clear e3 HST HRX HO8 HGB hr8
                go_wp2_with fail
                all_goals exact ⟨⟨j + 1, by omega, by go_num, HBF.out⟩, by simp [intOf]; omega⟩
        · have i2 : ¬ (j : Int) < (n : Int) := by omega
          have hfin := HFR.out _ (Below.refl _ _)
          go_wp2_with fail
          go_ret
          exact ⟨rfl, hfin⟩
    · have fab : ¬ t.sg.toList = [102, 101, 101, 115] := fun h => hsf (toList_inj (h.trans (show ([102, 101, 101, 115] : List UInt8) = feesS.toList by decide +kernel)))
      obtain ⟨hm, hl⟩ := HBA2.out hsf
      injection hm with hm hmb
      injection hl with hl hlb
      subst hm
      subst hmb
      subst hl
      subst hlb
      have nq1 := fun W => neq4 MM MM W
      have nq2 := fun W => neq4 LL LL W
      rw [eqB_refl] at nq1 nq2
      unfold U4.cells at nq1 nq2
      clear hsf HBA2
      have hbd : Below W8.heap.size W8 W8.drew := (Below.refl _ _).drew
      go_wp2_with fail
      refine wp_region_held_drew (S := BelS W8.drew) (by kernel_rfl) (BelS.refl _) (fun hS0 => ?_)
      refine wpAnyH_take (i := 0) (oi := _) (v := ?_) rfl (by kernel_rfl) (by kernel_rfl) (by kernel_rfl) (fun _ _ _ h => h) (Or.inl ⟨by rfl, ?_⟩) hS0 ?_
      rotate_left
      · intro W hSW
        try go_simp
        all_goals with_reducible rfl
      simp only [Act.put, List.setIfInBounds_toArray, List.set_cons_zero, List.set_cons_succ, List.getElem_toArray, List.getElem_cons_zero, List.getElem_cons_succ]
      refine wpAnyH_take (i := 1) (oi := _) (v := ?_) rfl (by kernel_rfl) (by kernel_rfl) (by kernel_rfl) (fun _ _ _ h => h) (Or.inl ⟨by rfl, ?_⟩) hS0 ?_
      rotate_left
      · intro W hSW
        obtain ⟨zs, m0, m1, m2, m3, l0, l1, l2, l3⟩ := HX8.out W (below_chain hbd hbd.size hSW)
        try go_simp
        all_goals with_reducible rfl
      simp only [Act.put, List.setIfInBounds_toArray, List.set_cons_zero, List.set_cons_succ, List.getElem_toArray, List.getElem_cons_zero, List.getElem_cons_succ]
      refine wpAnyH_take (i := 2) (oi := _) (v := .bool true) rfl (by kernel_rfl) (by kernel_rfl) (by kernel_rfl) (fun _ _ _ h => h) (Or.inl ⟨by rfl, ?_⟩) hS0 ?_
      skip
      · intro W hSW
        try go_simp
        all_goals first | with_reducible rfl | (simp; done) | trace_state
      simp only [Act.put, List.setIfInBounds_toArray, List.set_cons_zero, List.set_cons_succ, List.getElem_toArray, List.getElem_cons_zero, List.getElem_cons_succ]
      refine wpAnyH_take (i := 3) (oi := _) (v := ?_) rfl (by kernel_rfl) (by kernel_rfl) (by kernel_rfl) (fun _ _ _ h => h) (Or.inl ⟨by rfl, ?_⟩) hS0 ?_
      rotate_left
      · intro W hSW
        try go_simp
        all_goals with_reducible rfl
      simp only [Act.put, List.setIfInBounds_toArray, List.set_cons_zero, List.set_cons_succ, List.getElem_toArray, List.getElem_cons_zero, List.getElem_cons_succ]
      refine wpAnyH_take (i := 4) (oi := _) (v := ?_) rfl (by kernel_rfl) (by kernel_rfl) (by kernel_rfl) (fun _ _ _ h => h) (Or.inl ⟨by rfl, ?_⟩) hS0 ?_
      rotate_left
      · intro W hSW
        try go_simp
        all_goals with_reducible rfl
      simp only [Act.put, List.setIfInBounds_toArray, List.set_cons_zero, List.set_cons_succ, List.getElem_toArray, List.getElem_cons_zero, List.getElem_cons_succ]
      refine wpAnyH_take (i := 5) (oi := _) (v := ?_) rfl (by kernel_rfl) (by kernel_rfl) (by kernel_rfl) (fun _ _ _ h => h) (Or.inl ⟨by rfl, ?_⟩) hS0 ?_
      rotate_left
      · intro W hSW
        try go_simp
        all_goals with_reducible rfl
      simp only [Act.put, List.setIfInBounds_toArray, List.set_cons_zero, List.set_cons_succ, List.getElem_toArray, List.getElem_cons_zero, List.getElem_cons_succ]
      refine wpAnyH_take (i := 6) (oi := _) (v := ?_) rfl (by kernel_rfl) (by kernel_rfl) (by kernel_rfl) (fun _ _ _ h => h) (Or.inl ⟨by rfl, ?_⟩) hS0 ?_
      rotate_left
      · intro W hSW
        try go_simp
        all_goals with_reducible rfl
      simp only [Act.put, List.setIfInBounds_toArray, List.set_cons_zero, List.set_cons_succ, List.getElem_toArray, List.getElem_cons_zero, List.getElem_cons_succ]
      refine wpAnyH_take (i := 7) (oi := _) (v := ?_) rfl (by kernel_rfl) (by kernel_rfl) (by kernel_rfl) (fun _ _ _ h => h) (Or.inl ⟨by rfl, ?_⟩) hS0 ?_
      rotate_left
      · intro W hSW
        try go_simp
        all_goals with_reducible rfl
      simp only [Act.put, List.setIfInBounds_toArray, List.set_cons_zero, List.set_cons_succ, List.getElem_toArray, List.getElem_cons_zero, List.getElem_cons_succ]
      refine wpAnyH_take (i := 8) (oi := _) (v := ?_) rfl (by kernel_rfl) (by kernel_rfl) (by kernel_rfl) (fun _ _ _ h => h) (Or.inl ⟨by rfl, ?_⟩) hS0 ?_
      rotate_left
      · intro W hSW
        try go_simp
        all_goals with_reducible rfl
      simp only [Act.put, List.setIfInBounds_toArray, List.set_cons_zero, List.set_cons_succ, List.getElem_toArray, List.getElem_cons_zero, List.getElem_cons_succ]
      refine wpAnyH_take (i := 9) (oi := _) (v := ?_) rfl (by kernel_rfl) (by kernel_rfl) (by kernel_rfl) (fun _ _ _ h => h) (Or.inl ⟨by rfl, ?_⟩) hS0 ?_
      rotate_left
      · intro W hSW
        try go_simp
        all_goals with_reducible rfl
      simp only [Act.put, List.setIfInBounds_toArray, List.set_cons_zero, List.set_cons_succ, List.getElem_toArray, List.getElem_cons_zero, List.getElem_cons_succ]
      refine wpAnyH_take (i := 10) (oi := _) (v := ?_) rfl (by kernel_rfl) (by kernel_rfl) (by kernel_rfl) (fun _ _ _ h => h) (Or.inl ⟨by rfl, ?_⟩) hS0 ?_
      rotate_left
      · intro W hSW
        try go_simp
        all_goals with_reducible rfl
      simp only [Act.put, List.setIfInBounds_toArray, List.set_cons_zero, List.set_cons_succ, List.getElem_toArray, List.getElem_cons_zero, List.getElem_cons_succ]
      refine wpAnyH_take (i := 11) (oi := _) (v := ?_) rfl (by kernel_rfl) (by kernel_rfl) (by kernel_rfl) (fun _ _ _ h => h) (Or.inl ⟨by rfl, ?_⟩) hS0 ?_
      rotate_left
      · intro W hSW
        try go_simp
        all_goals with_reducible rfl
      simp only [Act.put, List.setIfInBounds_toArray, List.set_cons_zero, List.set_cons_succ, List.getElem_toArray, List.getElem_cons_zero, List.getElem_cons_succ]
      refine wpAnyH_take (i := 13) (oi := _) (v := ?_) rfl (by kernel_rfl) (by kernel_rfl) (by kernel_rfl) (fun _ _ _ h => h) (Or.inl ⟨by rfl, ?_⟩) hS0 ?_
      rotate_left
      · intro W hSW
        obtain ⟨zs, m0, m1, m2, m3, l0, l1, l2, l3⟩ := HX8.out W (below_chain hbd hbd.size hSW)
        try go_simp
        all_goals with_reducible rfl
      simp only [Act.put, List.setIfInBounds_toArray, List.set_cons_zero, List.set_cons_succ, List.getElem_toArray, List.getElem_cons_zero, List.getElem_cons_succ]
      refine wpAnyH_ready (rs := [12]) (by kernel_rfl) (by simp) (AllReadyH.cons rfl (fun K hK => ?_) AllReadyH.nil)
      have DA := Lib.hid (HB1.out W8.drew hbd)
      go_simp
      go_wp2_with ((go_at_call 12; (with_reducible refine DA.out.mono ?_); rintro e wA ⟨rfl, hbA⟩))
      have hqA := below_chain hbd hbd.size hbA
      refine hK.out _ _ hbA (fun _ => ?_)
      clear hK K DA
      refine wpAnyH_stronger (S' := BelS wA) (fun W h => below_chain hbA hbA.size h) _ _ _ _ ?_
      have hSA : BelS wA wA := BelS.refl wA
      refine wpAnyH_take (i := 14) (oi := _) (v := ?_) rfl (by kernel_rfl) (by kernel_rfl) (by kernel_rfl) (fun _ _ _ h => h) (Or.inl ⟨by rfl, ?_⟩) hSA ?_
      rotate_left
      · intro W hSW
        try go_simp
        all_goals with_reducible rfl
      simp only [Act.put, List.setIfInBounds_toArray, List.set_cons_zero, List.set_cons_succ, List.getElem_toArray, List.getElem_cons_zero, List.getElem_cons_succ]
      refine wpAnyH_take (i := 15) (oi := _) (v := ?_) rfl (by kernel_rfl) (by kernel_rfl) (by kernel_rfl) (fun _ _ _ h => h) (Or.inl ⟨by rfl, ?_⟩) hSA ?_
      rotate_left
      · intro W hSW
        try go_simp
        all_goals with_reducible rfl
      simp only [Act.put, List.setIfInBounds_toArray, List.set_cons_zero, List.set_cons_succ, List.getElem_toArray, List.getElem_cons_zero, List.getElem_cons_succ]
      refine wpAnyH_take (i := 16) (oi := _) (v := ?_) rfl (by kernel_rfl) (by kernel_rfl) (by kernel_rfl) (fun _ _ _ h => h) (Or.inl ⟨by rfl, ?_⟩) hSA ?_
      rotate_left
      · intro W hSW
        try go_simp
        all_goals with_reducible rfl
      simp only [Act.put, List.setIfInBounds_toArray, List.set_cons_zero, List.set_cons_succ, List.getElem_toArray, List.getElem_cons_zero, List.getElem_cons_succ]
      refine wpAnyH_take (i := 17) (oi := _) (v := ?_) rfl (by kernel_rfl) (by kernel_rfl) (by kernel_rfl) (fun _ _ _ h => h) (Or.inl ⟨by rfl, ?_⟩) hSA ?_
      rotate_left
      · intro W hSW
        try go_simp
        all_goals with_reducible rfl
      simp only [Act.put, List.setIfInBounds_toArray, List.set_cons_zero, List.set_cons_succ, List.getElem_toArray, List.getElem_cons_zero, List.getElem_cons_succ]
      refine wpAnyH_take (i := 18) (oi := _) (v := ?_) rfl (by kernel_rfl) (by kernel_rfl) (by kernel_rfl) (fun _ _ _ h => h) (Or.inl ⟨by rfl, ?_⟩) hSA ?_
      rotate_left
      · intro W hSW
        try go_simp
        all_goals with_reducible rfl
      simp only [Act.put, List.setIfInBounds_toArray, List.set_cons_zero, List.set_cons_succ, List.getElem_toArray, List.getElem_cons_zero, List.getElem_cons_succ]
      refine wpAnyH_take (i := 19) (oi := _) (v := ?_) rfl (by kernel_rfl) (by kernel_rfl) (by kernel_rfl) (fun _ _ _ h => h) (Or.inl ⟨by rfl, ?_⟩) hSA ?_
      rotate_left
      · intro W hSW
        obtain ⟨zs, m0, m1, m2, m3, l0, l1, l2, l3⟩ := HX8.out W (below_chain hqA hqA.size hSW)
        try go_simp
        all_goals with_reducible rfl
      simp only [Act.put, List.setIfInBounds_toArray, List.set_cons_zero, List.set_cons_succ, List.getElem_toArray, List.getElem_cons_zero, List.getElem_cons_succ]
      refine wpAnyH_take (i := 21) (oi := _) (v := ?_) rfl (by kernel_rfl) (by kernel_rfl) (by kernel_rfl) (fun _ _ _ h => h) (Or.inl ⟨by rfl, ?_⟩) hSA ?_
      rotate_left
      · intro W hSW
        obtain ⟨zs, m0, m1, m2, m3, l0, l1, l2, l3⟩ := HX8.out W (below_chain hqA hqA.size hSW)
        try go_simp
        all_goals with_reducible rfl
      simp only [Act.put, List.setIfInBounds_toArray, List.set_cons_zero, List.set_cons_succ, List.getElem_toArray, List.getElem_cons_zero, List.getElem_cons_succ]
      refine wpAnyH_ready (rs := [20]) (by kernel_rfl) (by simp) (AllReadyH.cons rfl (fun K hK => ?_) AllReadyH.nil)
      have DB := Lib.hid (HB2.out wA hqA)
      go_simp
      go_wp2_with ((go_at_call 12; (with_reducible refine DB.out.mono ?_); rintro e wB ⟨rfl, hbB⟩))
      have hqB := below_chain hqA hqA.size hbB
      refine hK.out _ _ hbB (fun _ => ?_)
      clear hK K DB
      refine wpAnyH_stronger (S' := BelS wB) (fun W h => below_chain hbB hbB.size h) _ _ _ _ ?_
      have hSB : BelS wB wB := BelS.refl wB
      refine wpAnyH_take (i := 22) (oi := _) (v := ?_) rfl (by kernel_rfl) (by kernel_rfl) (by kernel_rfl) (fun _ _ _ h => h) (Or.inl ⟨by rfl, ?_⟩) hSB ?_
      rotate_left
      · intro W hSW
        try go_simp
        all_goals with_reducible rfl
      simp only [Act.put, List.setIfInBounds_toArray, List.set_cons_zero, List.set_cons_succ, List.getElem_toArray, List.getElem_cons_zero, List.getElem_cons_succ]
      refine wpAnyH_take (i := 23) (oi := _) (v := ?_) rfl (by kernel_rfl) (by kernel_rfl) (by kernel_rfl) (fun _ _ _ h => h) (Or.inl ⟨by rfl, ?_⟩) hSB ?_
      rotate_left
      · intro W hSW
        try go_simp
        all_goals with_reducible rfl
      simp only [Act.put, List.setIfInBounds_toArray, List.set_cons_zero, List.set_cons_succ, List.getElem_toArray, List.getElem_cons_zero, List.getElem_cons_succ]
      refine wpAnyH_take (i := 24) (oi := _) (v := ?_) rfl (by kernel_rfl) (by kernel_rfl) (by kernel_rfl) (fun _ _ _ h => h) (Or.inl ⟨by rfl, ?_⟩) hSB ?_
      rotate_left
      · intro W hSW
        try go_simp
        all_goals with_reducible rfl
      simp only [Act.put, List.setIfInBounds_toArray, List.set_cons_zero, List.set_cons_succ, List.getElem_toArray, List.getElem_cons_zero, List.getElem_cons_succ]
      refine wpAnyH_done (by kernel_rfl) ?_ _
      have hW9 : Below W8.heap.size W8 wB := hqB
      have HA9 := Lib.hid (HA8.out.up hW9)
      have HK9 := Lib.hid (HK8.out.trans (Kept.of_below hW9))
      have HF9 := Lib.hid (below_chain HF8.out HF8.out.size hW9)
      clear hW9 HB1 HB2 HX8 HA8 HK8 HF8
      try clear hbd
      try clear hS0
      try clear hqA hbA hSA
      try clear hqB hbB hSB
      generalize wB = W9 at *
      go_wp2_with fail
      go_loopw [95] (fun i Z => ∃ j : Nat, j ≤ n ∧ i = .int .i64 (j : Int) ∧ Below W9.heap.size W9 Z)
        (fun i _ => n - (intOf i).toNat)
      case atStart => exact ⟨0, by omega, rfl, Below.refl _ _⟩
      case round =>
        obtain ⟨j, hj, rfl, hbe⟩ := hrel
        have HFR := Lib.hid (fun (Z : World) (hz : Below wr.heap.size wr Z) => below_chain HF9.out HF9.out.size (below_chain hbe hbe.size hz))
        have hn9 : n ≤ 2000000 := HLN2.out
        by_cases hlt : j < n
        · have hjl : j < ps.length := by have := HNN.out; omega
          have i1 : (0 : Int) ≤ (j : Int) := by omega
          have i2 : (j : Int) < (n : Int) := by omega
          have hkr := HK9.out.trans (Kept.of_below hbe)
          obtain ⟨A', c', e', -, -, hp⟩ := HPS.out _ hkr
          obtain ⟨b, o, hA', -, hcl⟩ := hp (by omega)
          injection e' with s1 s2 s3
          subst s1
          subst s3
          subst hA'
          clear s2 hp
          obtain ⟨k0, x, k1, hx⟩ := hcl j hjl
          have hsz := HNL.out _ (List.getElem_mem hjl)
          have HST := Lib.hid (fun h1 h2 h3 => (HSTI.out (ps[j]'hjl).1 h1 h2 h3).trans (HGL.out _ (List.getElem_mem hjl)))
          generalize ps[j]'hjl = pr at *
          obtain ⟨p1, p2⟩ := pr
          dsimp only at k0 hx hsz HST
          have HXR := Lib.hid hx
          obtain ⟨Ax, cx, hxv⟩ := hx.form
          subst hxv
          obtain ⟨nx, hnx⟩ : ∃ nx, nx = p2.length := ⟨_, rfl⟩
          rw [← hnx] at HXR k1
          clear hnx hcl
          have hbx := heap_alloc_new wr (.cells #[.string p1, .slice Ax nx cx] 48)
          have ha : Below wr.heap.size wr (wr.alloc (.cells #[.string p1, .slice Ax nx cx] 48)) := (Below.refl _ _).alloc (Nat.le_refl _) _
          have hbea := below_chain hbe hbe.size ha
          have HGE := Lib.hid ((HA9.out.up hbea).get p1 hsz)
          have x0 := blk_cell hbx 0
          have x1 := blk_cell hbx 1
          simp at x0 x1
          have HCE : Hid (∀ Z, Below (wr.alloc (.cells #[.string p1, .slice Ax nx cx] 48)).heap.size (wr.alloc (.cells #[.string p1, .slice Ax nx cx] 48)) Z → Z.cell? ⟨wr.heap.size, 0, none⟩ = some (.string p1) ∧ Z.cell? ⟨wr.heap.size, 1, none⟩ = some (.slice Ax nx cx) ∧ Z.cell? ⟨w.heap.size, 0, none⟩ = some (.string t.sg) ∧ Rd Z Z.heap.size (.slice Ax nx cx) p2 ∧ Below w.heap.size w Z ∧ Below W9.heap.size W9 Z) := Lib.hid fun Z hz => by
            have hz1 := (hz.block _ (blk_lt hbx)).trans hbx
            have hz2 := below_chain ha ha.size hz
            exact ⟨blk_cell hz1 0, blk_cell hz1 1, (HBX.out _ (hkr.trans (Kept.of_below hz2))).1, (Kept.of_below hz2).rd HXR.out, HFR.out _ hz2, below_chain hbe hbe.size hz2⟩
          clear hx hbx ha hbea hkr
          go_wp2_with fail
          generalize wr.alloc (.cells #[.string p1, .slice Ax nx cx] 48) = Wr at *
          refine HGE.out.mono ?_
          rintro e w8 ⟨v8, rfl, ho8, hb8⟩
          obtain ⟨y0, y1, y2, hrx, -, hbf⟩ := HCE.out _ hb8
          obtain ⟨GV, hGV⟩ : ∃ GV, GV = getL R2 p1 := ⟨_, rfl⟩
          rw [← hGV] at ho8 HST ⊢
          obtain ⟨gb, hgb⟩ : ∃ gb, gb = GV.isSome := ⟨_, rfl⟩
          rw [← hgb]
          have HO8 := Lib.hid ho8
          obtain ⟨A8, c8, hv8⟩ := ho8.form
          subst hv8
          obtain ⟨n8, hn8⟩ : ∃ n8, n8 = (GV.getD []).length := ⟨_, rfl⟩
          rw [← hn8] at HO8 ⊢
          have HGB := Lib.hid hgb
          clear hGV hgb hn8 ho8 HGE HCE k0 k1 x0 x1
          have HBF := Lib.hid hbf
          have HRX := Lib.hid hrx
          clear hbf hrx
          by_cases e1 : p1 = K1
          · have f1 : p1.toList = K1.toList := by rw [e1]
            clear e1 HST HRX HO8 HGB
            go_wp2_with fail
            all_goals exact ⟨⟨j + 1, by omega, by go_num, HBF.out⟩, by simp [intOf]; omega⟩
          · have f1 : ¬ p1.toList = K1.toList := fun h => e1 (toList_inj h)
            have E1 := Lib.hid e1
            clear e1
            by_cases e2 : p1 = K2
            · have f2 : p1.toList = K2.toList := by rw [e2]
              clear e2 HST HRX HO8 HGB
              go_wp2_with fail
              all_goals exact ⟨⟨j + 1, by omega, by go_num, HBF.out⟩, by simp [intOf]; omega⟩
            · have f2 : ¬ p1.toList = K2.toList := fun h => e2 (toList_inj h)
              have E2 := Lib.hid e2
              clear e2
              by_cases e3 : p1 = (⟨#[98, 97, 108, 47, 102, 101, 101, 115, 47, 102, 117, 101, 108]⟩ : ByteArray)
              · have f3 : p1.toList = [98, 97, 108, 47, 102, 101, 101, 115, 47, 102, 117, 101, 108] := by rw [e3]; decide +kernel
                clear e3 HST HRX HO8 HGB
                go_wp2_with fail
                all_goals exact ⟨⟨j + 1, by omega, by go_num, HBF.out⟩, by simp [intOf]; omega⟩
              · have f3 : ¬ p1.toList = [98, 97, 108, 47, 102, 101, 101, 115, 47, 102, 117, 101, 108] := fun h => e3 (toList_inj (h.trans (show ([98, 97, 108, 47, 102, 101, 101, 115, 47, 102, 117, 101, 108] : List UInt8) = (⟨#[98, 97, 108, 47, 102, 101, 101, 115, 47, 102, 117, 101, 108]⟩ : ByteArray).toList by decide +kernel)))
                have hst := HST.out E1.out E2.out e3
                subst hst
                obtain rfl : gb = true := HGB.out
                have hr8 : Rd w8 w8.heap.size (.slice A8 n8 c8) p2 := HO8.out.rd
                have cv1 := run_str Tryz.underlying27 Tryz.underlying5 Tryz.isString hr8
                have cv2 := run_str Tryz.underlying27 Tryz.underlying5 Tryz.isString HRX.out
                have f4 : ((⟨p2.toArray⟩ : ByteArray).toList != (⟨p2.toArray⟩ : ByteArray).toList) = false := by simp
                generalize (⟨p2.toArray⟩ : ByteArray) = SV at *
                clear e3 HST HRX HO8 HGB hr8
                go_wp2_with fail
                all_goals exact ⟨⟨j + 1, by omega, by go_num, HBF.out⟩, by simp [intOf]; omega⟩
        · have i2 : ¬ (j : Int) < (n : Int) := by omega
          have hfin := HFR.out _ (Below.refl _ _)
          go_wp2_with fail
          go_ret
          exact ⟨rfl, hfin⟩
end Go.Proofs.YtniclaapiabmdaaGreatDoor
