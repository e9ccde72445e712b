/- The law: a transaction that was taken isn't taken again; what is refused changes nothing. -/
import Derived.Test.YtniclaapiabmdaaGreatDoorM22
import Derived.Test.YtniclaapiabmdaaGreatDoorM17
namespace Go.Proofs.YtniclaapiabmdaaGreatDoor
set_option maxRecDepth 100000
open Go Go.RowKit
set_option linter.unusedVariables false

theorem ante_no {R : List Pr} {ch : ByteArray} {t : TxV} (h : (anteM R ch t).1 ≠ 0) : (anteM R ch t).2 = R ∧ (checkM R ch t = (anteM R ch t).1 ∨ checkM R ch t = 0) := by
  unfold anteM at h ⊢
  by_cases h1 : checkM R ch t = 0
  · rw [if_pos h1] at h ⊢
    by_cases h2 : (paidM R t).1 = 0
    · rw [if_pos h2] at h
      cases e : getA R t.sg with
      | none => rw [e] at h; exact absurd rfl h
      | some x => rw [e] at h; exact absurd rfl h
    · rw [if_neg h2]
      exact ⟨rfl, Or.inr h1⟩
  · rw [if_neg h1]
    exact ⟨rfl, Or.inl rfl⟩
theorem ante_yes {R : List Pr} {ch : ByteArray} {t : TxV} (h : (anteM R ch t).1 = 0) : checkM R ch t = 0 ∧ (paidM R t).1 = 0 ∧ ∃ r b, r.length = 32 ∧ b < 18446744073709551616 ∧ getA R t.sg = some (r, b, t.seq) ∧ (anteM R ch t).2 = putA (paidM R t).2 t.sg r b ((t.seq + 1) % 18446744073709551616) ∧ getA (anteM R ch t).2 t.sg = some (r, b, (t.seq + 1) % 18446744073709551616) := by
  have h0 := h
  unfold anteM at h
  by_cases h1 : checkM R ch t = 0
  · obtain ⟨r, b, s, e, e2, e3, e4, e5, e6⟩ := check_ok h1
    rw [if_pos h1] at h
    by_cases h2 : (paidM R t).1 = 0
    · have hb := (getA_ok e).choose_spec.2.2.1
      have h3 : (anteM R ch t).2 = putA (paidM R t).2 t.sg r b ((t.seq + 1) % 18446744073709551616) := by
        unfold anteM
        rw [if_pos h1, if_pos h2]
        simp only [e, e2]
      refine ⟨h1, h2, r, b, e5, hb, by rw [e, e2], h3, ?_⟩
      rw [h3]
      exact getA_put (by omega) hb (by omega)
    · rw [if_neg h2] at h; exact absurd h h2
  · rw [if_neg h1] at h; exact absurd h h1
theorem ante_again {R : List Pr} {ch : ByteArray} {t : TxV} (hq : t.seq < 18446744073709551616) (h : (anteM R ch t).1 = 0) : anteM (anteM R ch t).2 ch t = (81, (anteM R ch t).2) := by
  obtain ⟨-, -, r, b, -, -, -, -, e⟩ := ante_yes h
  have h81 : checkM (anteM R ch t).2 ch t = 81 := by
    unfold checkM
    simp only [e]
    rw [if_neg (by omega)]
  generalize (anteM R ch t).2 = R2 at *
  unfold anteM
  rw [h81, if_neg (by decide)]
set_option maxHeartbeats 32000000 in
theorem once_law (w : World) (v : Value) (ps : List Pr) (hps : RdP w w.heap.size v ps) (hnl : ∀ p ∈ ps, p.1.size ≤ maxLen) (hlen : ps.length ≤ 2000000) (ch : ByteArray) (hch : ch.size ≤ maxLen) (t : TxV) (ht : t.rd w) (hs : t.sg.size ≤ 100000000)
    (fr : TypeId × Nat × Nat) (hk : w.heap[0]? = some (.cells kVals fr.1 fr.2)) :
    Calls Tryz.prog 3 #[v, .string ch, .agg t.cells] w fun e w' => e = .returned (.bool true) ∧ Below w.heap.size w w' := by
  obtain ⟨Am, cm, hvm⟩ : ∃ A c, t.vms = .slice A t.ms.length c := by obtain ⟨A, c, e, _⟩ := ht.ms; exact ⟨A, c, e⟩
  obtain ⟨As, cs, hvs⟩ := ht.sig.form
  have hcl : t.cells = #[.string t.sg, .int .u64 (t.seq : Int), .int .u64 (t.gas : Int), .int .u64 (t.fee.a : Int), .int .u64 (t.fee.b : Int), .int .u64 (t.fee.c : Int), .int .u64 (t.fee.d : Int), .slice Am t.ms.length cm, .slice As t.sig.length cs] := by rw [TxV.cells, hvm, hvs]
  have hbox := heap_alloc_new w (.cells #[.string t.sg, .int .u64 (t.seq : Int), .int .u64 (t.gas : Int), .int .u64 (t.fee.a : Int), .int .u64 (t.fee.b : Int), .int .u64 (t.fee.c : Int), .int .u64 (t.fee.d : Int), .slice Am t.ms.length cm, .slice As t.sig.length cs] 29)
  have ha0 : Below w.heap.size w (w.alloc (.cells #[.string t.sg, .int .u64 (t.seq : Int), .int .u64 (t.gas : Int), .int .u64 (t.fee.a : Int), .int .u64 (t.fee.b : Int), .int .u64 (t.fee.c : Int), .int .u64 (t.fee.d : Int), .slice Am t.ms.length cm, .slice As t.sig.length cs] 29)) := (Below.refl _ _).alloc (Nat.le_refl _) _
  have hp0 : RdP (w.alloc (.cells #[.string t.sg, .int .u64 (t.seq : Int), .int .u64 (t.gas : Int), .int .u64 (t.fee.a : Int), .int .u64 (t.fee.b : Int), .int .u64 (t.fee.c : Int), .int .u64 (t.fee.d : Int), .slice Am t.ms.length cm, .slice As t.sig.length cs] 29)) (w.alloc (.cells #[.string t.sg, .int .u64 (t.seq : Int), .int .u64 (t.gas : Int), .int .u64 (t.fee.a : Int), .int .u64 (t.fee.b : Int), .int .u64 (t.fee.c : Int), .int .u64 (t.fee.d : Int), .slice Am t.ms.length cm, .slice As t.sig.length cs] 29)).heap.size v ps := hps.kept (Kept.of_below ha0)
  have HN := Lib.hid (new_any (w.alloc (.cells #[.string t.sg, .int .u64 (t.seq : Int), .int .u64 (t.gas : Int), .int .u64 (t.fee.a : Int), .int .u64 (t.fee.b : Int), .int .u64 (t.fee.c : Int), .int .u64 (t.fee.d : Int), .slice Am t.ms.length cm, .slice As t.sig.length cs] 29)) v ps hp0 hnl)
  have HK := Lib.hid ((Kept.of_below ha0).block hk)
  have ht0 : t.rd (w.alloc (.cells #[.string t.sg, .int .u64 (t.seq : Int), .int .u64 (t.gas : Int), .int .u64 (t.fee.a : Int), .int .u64 (t.fee.b : Int), .int .u64 (t.fee.c : Int), .int .u64 (t.fee.d : Int), .slice Am t.ms.length cm, .slice As t.sig.length cs] 29)) := ht.up ha0
  have HT := Lib.hid (fun (Z : World) (hz : Kept (w.alloc (.cells #[.string t.sg, .int .u64 (t.seq : Int), .int .u64 (t.gas : Int), .int .u64 (t.fee.a : Int), .int .u64 (t.fee.b : Int), .int .u64 (t.fee.c : Int), .int .u64 (t.fee.d : Int), .slice Am t.ms.length cm, .slice As t.sig.length cs] 29)) Z) => ht0.keptM hz)
  have HBX : Hid (∀ Z, Kept (w.alloc (.cells #[.string t.sg, .int .u64 (t.seq : Int), .int .u64 (t.gas : Int), .int .u64 (t.fee.a : Int), .int .u64 (t.fee.b : Int), .int .u64 (t.fee.c : Int), .int .u64 (t.fee.d : Int), .slice Am t.ms.length cm, .slice As t.sig.length cs] 29)) Z → Z.cell? ⟨w.heap.size, 0, none⟩ = some (.string t.sg) ∧ Z.cell? ⟨w.heap.size, 1, none⟩ = some (.int .u64 (t.seq : Int)) ∧ Z.cell? ⟨w.heap.size, 2, none⟩ = some (.int .u64 (t.gas : Int)) ∧ Z.cell? ⟨w.heap.size, 3, none⟩ = some (.int .u64 (t.fee.a : Int)) ∧ Z.cell? ⟨w.heap.size, 4, none⟩ = some (.int .u64 (t.fee.b : Int)) ∧ Z.cell? ⟨w.heap.size, 5, none⟩ = some (.int .u64 (t.fee.c : Int)) ∧ Z.cell? ⟨w.heap.size, 6, none⟩ = some (.int .u64 (t.fee.d : Int)) ∧ Z.cell? ⟨w.heap.size, 7, none⟩ = some (.slice Am t.ms.length cm) ∧ Z.cell? ⟨w.heap.size, 8, none⟩ = some (.slice As t.sig.length cs)) := Lib.hid fun Z hz => ⟨hz.cell (blk_cell hbox 0), hz.cell (blk_cell hbox 1), hz.cell (blk_cell hbox 2), hz.cell (blk_cell hbox 3), hz.cell (blk_cell hbox 4), hz.cell (blk_cell hbox 5), hz.cell (blk_cell hbox 6), hz.cell (blk_cell hbox 7), hz.cell (blk_cell hbox 8)⟩
  have HCH := Lib.hid hch
  have HSS := Lib.hid hs
  have HCL := Lib.hid hcl
  have HSQ := Lib.hid ht.seq
  have HA0 := Lib.hid ha0
  have HNL := Lib.hid hnl
  have HLN := Lib.hid hlen
  have hno := fun h => ante_no (R := ps) (ch := ch) (t := t) h
  have hye := fun h => ante_yes (R := ps) (ch := ch) (t := t) h
  have hag := fun h => ante_again (R := ps) (ch := ch) ht.seq h
  rw [hcl]
  obtain ⟨A, c, rfl⟩ : ∃ A c, v = .slice A ps.length c := by obtain ⟨A, c, h, _⟩ := hps; exact ⟨A, c, h⟩
  obtain ⟨SR, hSR⟩ : ∃ SR : ByteArray, SR = ⟨(rootM ps).1.toArray⟩ := ⟨_, rfl⟩
  have HCS : Hid (∀ (Z : World) (v : Value), Rd Z Z.heap.size v (rootM ps).1 → (convert 27 9 v).run Tryz.prog Z = .ok (.string SR) Z) := Lib.hid fun Z v h => by rw [hSR]; exact run_str Tryz.underlying27 Tryz.underlying5 Tryz.isString h
  have HNO := Lib.hid hno
  have HYE := Lib.hid hye
  have HAG := Lib.hid hag
  clear hSR hps hp0 hnl hlen hk hch hs hcl hvm hvs ht ht0 hbox hno hye hag ha0
  go_enter Tryz.func3, Tryz.ntmps3
  go_wp2_with fail
  generalize w.alloc (.cells #[.string t.sg, .int .u64 (t.seq : Int), .int .u64 (t.gas : Int), .int .u64 (t.fee.a : Int), .int .u64 (t.fee.b : Int), .int .u64 (t.fee.c : Int), .int .u64 (t.fee.d : Int), .slice Am t.ms.length cm, .slice As t.sig.length cs] 29) = W0 at *
  refine HN.out.mono ?_
  rintro e w1 ⟨⟨-, rfl⟩ | ⟨-, y, rfl, hyb, hym, hyn, hly, hri, hp1⟩, hb1⟩
  · have hq1 := below_chain HA0.out HA0.out.size hb1
    clear HN HT HBX HYE HAG HNO HCS
    go_wp2_with fail
    refine (afixed_any _).mono ?_
    rintro e w2 ⟨rfl, hb2⟩
    have hq2 := below_chain hq1 hq1.size hb2
    go_wp2_with fail
    refine (afixed_any _).mono ?_
    rintro e w3 ⟨rfl, hb3⟩
    have hq3 := below_chain hq2 hq2.size hb3
    go_wp2_with fail
    go_ret
    exact ⟨rfl, hq3⟩
  have A1 := Acc.made hp1 hly hri HNL.out
  have hq1 := below_chain HA0.out HA0.out.size hb1
  have hk1 := Kept.of_below hb1
  have HYM := Lib.hid (show w.heap.size ≤ y.m from Nat.le_trans HA0.out.size hym)
  have HYN := Lib.hid (show y.n ≤ 2000000 by rw [show y.n = ps.length from hyn]; exact HLN.out)
  have HQ1 := Lib.hid hq1
  obtain ⟨yb, ym, yn, yf⟩ := y
  dsimp only at HYM HYN ⊢
  clear hyb hym hyn hly hri hp1 HN hb1 hq1
  go_wp2_with fail
  refine (afixed_any _).mono ?_
  rintro e w2 ⟨rfl, hb2⟩
  have A2 := A1.up hb2
  have hk2 := hk1.trans (Kept.of_below hb2)
  have HR1 := Lib.hid (A2.root (show yn + 0 ≤ 1000000000 by have := HYN.out; omega) fr (hk2.block HK.out))
  clear A1 hk1 hb2
  go_wp2_with fail
  refine HR1.out.mono ?_
  rintro e w3 ⟨v3, rfl, ho3, hb3⟩
  have A3 := A2.up hb3
  have hk3 := hk2.trans (Kept.of_below hb3)
  have HO3 := Lib.hid ho3
  obtain ⟨A3', c3, hv3⟩ := ho3.form
  subst hv3
  obtain ⟨n3, hn3⟩ : ∃ n, n = (rootM ps).1.length := ⟨_, rfl⟩
  rw [← hn3] at HO3 ⊢
  clear hn3
  have HRV3 : Hid (∀ Z, Kept w3 Z → Rd Z Z.heap.size (.slice A3' n3 c3) (rootM ps).1) := Lib.hid fun Z hz => hz.rd HO3.out.rd
  have hck := acheck_any A3 ch HCH.out t (HT.out _ hk3) HSS.out fr (hk3.block HK.out)
  rw [HCL.out] at hck
  have HCK := Lib.hid hck
  have HA3 := Lib.hid A3
  have HK3 := Lib.hid hk3
  obtain ⟨z0, z1, z2, z3, z4, z5, z6, z7, z8⟩ := HBX.out _ hk3
  clear hck A3 hk3 ho3 HO3 HR1 A2 hk2 hb3
  go_wp2_with fail
  refine HCK.out.mono ?_
  rintro e w4 ⟨rfl, hb4⟩
  obtain ⟨QC, hQC⟩ : ∃ QC, QC = checkM ps ch t := ⟨_, rfl⟩
  rw [← hQC] at HNO HYE ⊢
  have HA4 := Lib.hid (HA3.out.up hb4)
  have HK4 := Lib.hid (HK3.out.trans (Kept.of_below hb4))
  have HRV := Lib.hid (fun (Z : World) (hz : Below w4.heap.size w4 Z) => HRV3.out Z ((Kept.of_below hb4).trans (Kept.of_below hz)))
  have HRT := Lib.hid (fun (Z : World) (hz : Below w4.heap.size w4 Z) => (HA4.out.up hz).root (show yn + 0 ≤ 1000000000 by have := HYN.out; omega) fr ((HK4.out.trans (Kept.of_below hz)).block HK.out))
  have hsn : (SR.toList != SR.toList) = false := by simp
  have HB4 := Lib.hid hb4
  clear HCK hQC hb4 z0 z1 z2 z3 z4 z5 z6 z7 z8
  have hbd : Below w4.heap.size w4 w4.drew := (Below.refl _ _).drew
  go_wp2_with fail
  refine wp_region_held_drew (S := BelS w4.drew) (by kernel_rfl) (BelS.refl _) (fun hS0 => ?_)
  refine wpAnyH_take (i := 0) (oi := _) (v := ?_) rfl (by kernel_rfl) (by kernel_rfl) (by kernel_rfl) (fun _ _ _ h => h) (Or.inl ⟨by rfl, ?_⟩) hS0 ?_
  rotate_left
  · intro W hSW
    try go_simp
    all_goals with_reducible rfl
  simp only [Act.put, List.setIfInBounds_toArray, List.set_cons_zero, List.set_cons_succ, List.getElem_toArray, List.getElem_cons_zero, List.getElem_cons_succ]
  refine wpAnyH_take (i := 3) (oi := _) (v := ?_) rfl (by kernel_rfl) (by kernel_rfl) (by kernel_rfl) (fun _ _ _ h => h) (Or.inl ⟨by rfl, ?_⟩) hS0 ?_
  rotate_left
  · intro W hSW
    try go_simp
    all_goals with_reducible rfl
  simp only [Act.put, List.setIfInBounds_toArray, List.set_cons_zero, List.set_cons_succ, List.getElem_toArray, List.getElem_cons_zero, List.getElem_cons_succ]
  refine wpAnyH_take (i := 4) (oi := _) (v := ?_) rfl (by kernel_rfl) (by kernel_rfl) (by kernel_rfl) (fun _ _ _ h => h) (Or.inl ⟨by rfl, ?_⟩) hS0 ?_
  rotate_left
  · intro W hSW
    have cv := HCS.out W _ (HRV.out W (below_chain hbd hbd.size hSW))
    try go_simp
    all_goals with_reducible rfl
  simp only [Act.put, List.setIfInBounds_toArray, List.set_cons_zero, List.set_cons_succ, List.getElem_toArray, List.getElem_cons_zero, List.getElem_cons_succ]
  refine wpAnyH_ready (rs := [1]) (by kernel_rfl) (by simp) (AllReadyH.cons rfl (fun K hK => ?_) AllReadyH.nil)
  have DA := Lib.hid (HRT.out w4.drew hbd)
  go_simp
  go_wp2_with ((go_at_call 8; (with_reducible refine DA.out.mono ?_); rintro e wA ⟨vA, rfl, hoA, hbA⟩))
  have hqA := below_chain hbd hbd.size hbA
  refine hK.out _ _ hbA (fun _ => ?_)
  clear hK K DA
  refine wpAnyH_stronger (S' := BelS wA) (fun W h => below_chain hbA hbA.size h) _ _ _ _ ?_
  have hSA : BelS wA wA := BelS.refl wA
  refine wpAnyH_take (i := 2) (oi := _) (v := ?_) rfl (by kernel_rfl) (by kernel_rfl) (by kernel_rfl) (fun _ _ _ h => h) (Or.inl ⟨by rfl, ?_⟩) hSA ?_
  rotate_left
  · intro W hSW
    have cv := HCS.out W _ (hoA.rd.up (Nat.le_refl _) hSW)
    try go_simp
    all_goals with_reducible rfl
  simp only [Act.put, List.setIfInBounds_toArray, List.set_cons_zero, List.set_cons_succ, List.getElem_toArray, List.getElem_cons_zero, List.getElem_cons_succ]
  refine wpAnyH_take (i := 5) (oi := _) (v := ?_) rfl (by kernel_rfl) (by kernel_rfl) (by kernel_rfl) (fun _ _ _ h => h) (Or.inl ⟨by rfl, ?_⟩) hSA ?_
  rotate_left
  · intro W hSW
    try go_simp
    all_goals with_reducible rfl
  simp only [Act.put, List.setIfInBounds_toArray, List.set_cons_zero, List.set_cons_succ, List.getElem_toArray, List.getElem_cons_zero, List.getElem_cons_succ]
  refine wpAnyH_done (by kernel_rfl) ?_ _
  have HK6 := Lib.hid (HK4.out.trans (Kept.of_below hqA))
  have hA6 := HA4.out.up (hqA)
  have HRV6 : Hid (∀ Z, Kept wA Z → Rd Z Z.heap.size (.slice A3' n3 c3) (rootM ps).1) := Lib.hid fun Z hz => HRV3.out Z ((Kept.of_below HB4.out).trans ((Kept.of_below (hqA)).trans hz))
  have han := aante_any hA6 (show yn + 0 + 3 ≤ maxLen by have := HYN.out; unfold maxLen; omega) ch HCH.out t (HT.out _ HK6.out) HSS.out fr (HK6.out.block HK.out)
  rw [HCL.out] at han
  have HAN := Lib.hid han
  obtain ⟨z0, z1, z2, z3, z4, z5, z6, z7, z8⟩ := HBX.out _ HK6.out
  obtain ⟨QA, hQA⟩ : ∃ QA, QA = anteM ps ch t := ⟨_, rfl⟩
  rw [← hQA] at HNO HYE HAG HAN
  obtain ⟨qe, R2⟩ := QA
  dsimp only at HNO HYE HAG HAN
  clear han hQA hA6 HRT HRV
  go_wp2_with fail
  refine HAN.out.mono ?_
  rintro e w7 ⟨rfl, A7, hk67⟩
  have HK7 := Lib.hid (HK6.out.trans hk67)
  have HA7 := Lib.hid A7
  have HF7 := Lib.hid (HQ1.out.trans (A7.below (B := w.heap.size) HYM.out HQ1.out.size))
  have HRV7 : Hid (∀ Z, Kept w7 Z → Rd Z Z.heap.size (.slice A3' n3 c3) (rootM ps).1) := Lib.hid fun Z hz => HRV6.out Z (hk67.trans hz)
  clear HAN A7 HRV6 HRV3 HA3 HA4 HK3 HK4 HK6 hk67 z0 z1 z2 z3 z4 z5 z6 z7 z8 hbd
  by_cases e0 : qe = 0
  · subst e0
    obtain ⟨hQC, -, r, b, hr32, hb64, -, -, hga⟩ := HYE.out rfl
    have hag := HAG.out rfl
    subst hQC
    have HGA := Lib.hid hga
    have HAG2 := Lib.hid hag
    have HR32 := Lib.hid hr32
    have HG := Lib.hid (aget_any HA7.out t.sg HSS.out)
    obtain ⟨z0, z1, z2, z3, z4, z5, z6, z7, z8⟩ := HBX.out _ HK7.out
    clear HNO HYE HAG hga hag HRV7 HCS hr32 hb64
    go_wp2_with fail
    refine HG.out.mono ?_
    rintro e w8 ⟨⟨v8, r8, b8, s8, hg8, rfl, ho8⟩ | ⟨hg8, -⟩, hb8⟩
    rotate_left
    · rw [HGA.out] at hg8; cases hg8
    rw [HGA.out] at hg8
    injection hg8 with e1
    injection e1 with e1 e2
    injection e2 with e2 e3
    subst e1
    subst e2
    obtain ⟨sn, hsn⟩ : ∃ sn, sn = (t.seq + 1) % 18446744073709551616 := ⟨_, rfl⟩
    have hw : IntKind.u64.wrap ((t.seq : Int) + 1) = (sn : Int) := by have := HSQ.out; rw [hsn, IntKind.wrap_u64]; omega
    rw [← hsn] at e3
    subst e3
    obtain ⟨A8, c8, hv8⟩ := ho8.form
    subst hv8
    obtain ⟨n8, hn8⟩ : ∃ n, n = r.length := ⟨_, rfl⟩
    rw [← hn8]
    clear hn8
    have hk9 := heap_alloc_new w8 (.cells #[.slice A8 n8 c8, .int .u64 (b : Int), .int .u64 (sn : Int)] 38)
    have hb9 := hb8.alloc hb8.size (.cells #[.slice A8 n8 c8, .int .u64 (b : Int), .int .u64 (sn : Int)] 38)
    have hK9 := HK7.out.trans (Kept.of_below hb9)
    have HK9 := Lib.hid hK9
    have HA9 := Lib.hid (HA7.out.up hb9)
    have HF9 := Lib.hid (below_chain HF7.out HF7.out.size hb9)
    obtain ⟨y0, y1, y2, y3, y4, y5, y6, y7, y8⟩ := HBX.out _ hK9
    have x2 := blk_cell hk9 2
    simp at x2
    have HR9 := Lib.hid (HA9.out.root (show yn + (0 + 3) ≤ 1000000000 by have := HYN.out; omega) fr (hK9.block HK.out))
    clear hk9 hb9 hK9 ho8 hb8 HG HGA hsn z0 z1 z2 z3 z4 z5 z6 z7 z8 HK7 HA7 HF7
    go_wp2_with fail
    generalize w8.alloc (.cells #[.slice A8 n8 c8, .int .u64 (b : Int), .int .u64 (sn : Int)] 38) = W9 at *
    refine HR9.out.mono ?_
    rintro e w10 ⟨v10, rfl, ho10, hb10⟩
    have HO10 := Lib.hid ho10
    obtain ⟨A10, c10, hv10⟩ := ho10.form
    subst hv10
    obtain ⟨n10, hn10⟩ : ∃ n, n = (rootM R2).1.length := ⟨_, rfl⟩
    rw [← hn10] at HO10 ⊢
    clear hn10
    have hK10 := HK9.out.trans (Kept.of_below hb10)
    have HK10 := Lib.hid hK10
    have han := aante_any (HA9.out.up hb10) (show yn + (0 + 3) + 3 ≤ maxLen by have := HYN.out; unfold maxLen; omega) ch HCH.out t (HT.out _ hK10) HSS.out fr (hK10.block HK.out)
    rw [HCL.out, HAG2.out] at han
    have HAN := Lib.hid han
    have HF10 := Lib.hid (below_chain HF9.out HF9.out.size hb10)
    have HYB := Lib.hid (And.intro HA9.out hb10)
    obtain ⟨z0, z1, z2, z3, z4, z5, z6, z7, z8⟩ := HBX.out _ hK10
    clear han hK10 hb10 ho10 HR9 HA9 HF9 HK9 y0 y1 y2 y3 y4 y5 y6 y7 y8 x2 HAG2
    go_wp2_with fail
    refine HAN.out.mono ?_
    rintro e w11 ⟨rfl, A11, hk11⟩
    try dsimp only at A11
    have HK11 := Lib.hid (HK10.out.trans hk11)
    have HA11 := Lib.hid A11
    have HF11 := Lib.hid (HQ1.out.trans (A11.below (B := w.heap.size) HYM.out HQ1.out.size))
    have HRV : Hid (∀ Z, Below w11.heap.size w11 Z → Rd Z Z.heap.size (.slice A10 n10 c10) (rootM R2).1) := Lib.hid fun Z hz => (hk11.trans (Kept.of_below hz)).rd HO10.out.rd
    have HRT := Lib.hid (fun (Z : World) (hz : Below w11.heap.size w11 Z) => (HA11.out.up hz).root (show yn + (0 + 3 + 3) ≤ 1000000000 by have := HYN.out; omega) fr ((HK11.out.trans (Kept.of_below hz)).block HK.out))
    obtain ⟨ST, hct⟩ : ∃ S : ByteArray, ∀ (Z : World) (v : Value), Rd Z Z.heap.size v (rootM R2).1 → (convert 27 9 v).run Tryz.prog Z = .ok (.string S) Z := ⟨⟨(rootM R2).1.toArray⟩, fun Z v h => run_str Tryz.underlying27 Tryz.underlying5 Tryz.isString h⟩
    have HCT := Lib.hid hct
    have hss : (ST.toList == ST.toList) = true := beq_self_eq_true _
    clear hct HAN A11 hk11 HO10 HK10 HF10 HYB z0 z1 z2 z3 z4 z5 z6 z7 z8
    have hbd : Below w11.heap.size w11 w11.drew := (Below.refl _ _).drew
    go_wp2_with fail
    refine wp_region_held_drew (S := BelS w11.drew) (by kernel_rfl) (BelS.refl _) (fun hS0 => ?_)
    refine wpAnyH_take (i := 0) (oi := _) (v := ?_) rfl (by kernel_rfl) (by kernel_rfl) (by kernel_rfl) (fun _ _ _ h => h) (Or.inl ⟨by rfl, ?_⟩) hS0 ?_
    rotate_left
    · intro W hSW
      try go_simp
      all_goals with_reducible rfl
    simp only [Act.put, List.setIfInBounds_toArray, List.set_cons_zero, List.set_cons_succ, List.getElem_toArray, List.getElem_cons_zero, List.getElem_cons_succ]
    refine wpAnyH_take (i := 1) (oi := _) (v := ?_) rfl (by kernel_rfl) (by kernel_rfl) (by kernel_rfl) (fun _ _ _ h => h) (Or.inl ⟨by rfl, ?_⟩) hS0 ?_
    rotate_left
    · intro W hSW
      try go_simp
      all_goals with_reducible rfl
    simp only [Act.put, List.setIfInBounds_toArray, List.set_cons_zero, List.set_cons_succ, List.getElem_toArray, List.getElem_cons_zero, List.getElem_cons_succ]
    refine wpAnyH_take (i := 2) (oi := _) (v := ?_) rfl (by kernel_rfl) (by kernel_rfl) (by kernel_rfl) (fun _ _ _ h => h) (Or.inl ⟨by rfl, ?_⟩) hS0 ?_
    rotate_left
    · intro W hSW
      try go_simp
      all_goals with_reducible rfl
    simp only [Act.put, List.setIfInBounds_toArray, List.set_cons_zero, List.set_cons_succ, List.getElem_toArray, List.getElem_cons_zero, List.getElem_cons_succ]
    refine wpAnyH_take (i := 3) (oi := _) (v := ?_) rfl (by kernel_rfl) (by kernel_rfl) (by kernel_rfl) (fun _ _ _ h => h) (Or.inl ⟨by rfl, ?_⟩) hS0 ?_
    rotate_left
    · intro W hSW
      try go_simp
      all_goals with_reducible rfl
    simp only [Act.put, List.setIfInBounds_toArray, List.set_cons_zero, List.set_cons_succ, List.getElem_toArray, List.getElem_cons_zero, List.getElem_cons_succ]
    refine wpAnyH_take (i := 6) (oi := _) (v := ?_) rfl (by kernel_rfl) (by kernel_rfl) (by kernel_rfl) (fun _ _ _ h => h) (Or.inl ⟨by rfl, ?_⟩) hS0 ?_
    rotate_left
    · intro W hSW
      try go_simp
      all_goals with_reducible rfl
    simp only [Act.put, List.setIfInBounds_toArray, List.set_cons_zero, List.set_cons_succ, List.getElem_toArray, List.getElem_cons_zero, List.getElem_cons_succ]
    refine wpAnyH_take (i := 7) (oi := _) (v := ?_) rfl (by kernel_rfl) (by kernel_rfl) (by kernel_rfl) (fun _ _ _ h => h) (Or.inl ⟨by rfl, ?_⟩) hS0 ?_
    rotate_left
    · intro W hSW
      have cv := HCT.out W _ (HRV.out W (below_chain hbd hbd.size hSW))
      try go_simp
      all_goals with_reducible rfl
    simp only [Act.put, List.setIfInBounds_toArray, List.set_cons_zero, List.set_cons_succ, List.getElem_toArray, List.getElem_cons_zero, List.getElem_cons_succ]
    refine wpAnyH_ready (rs := [4]) (by kernel_rfl) (by simp) (AllReadyH.cons rfl (fun K hK => ?_) AllReadyH.nil)
    have DA := Lib.hid (HRT.out w11.drew hbd)
    go_simp
    go_wp2_with ((go_at_call 8; (with_reducible refine DA.out.mono ?_); rintro e wA ⟨vA, rfl, hoA, hbA⟩))
    have hqA := below_chain hbd hbd.size hbA
    refine hK.out _ _ hbA (fun _ => ?_)
    clear hK K DA
    refine wpAnyH_stronger (S' := BelS wA) (fun W h => below_chain hbA hbA.size h) _ _ _ _ ?_
    have hSA : BelS wA wA := BelS.refl wA
    refine wpAnyH_take (i := 5) (oi := _) (v := ?_) rfl (by kernel_rfl) (by kernel_rfl) (by kernel_rfl) (fun _ _ _ h => h) (Or.inl ⟨by rfl, ?_⟩) hSA ?_
    rotate_left
    · intro W hSW
      have cv := HCT.out W _ (hoA.rd.up (Nat.le_refl _) hSW)
      try go_simp
      all_goals with_reducible rfl
    simp only [Act.put, List.setIfInBounds_toArray, List.set_cons_zero, List.set_cons_succ, List.getElem_toArray, List.getElem_cons_zero, List.getElem_cons_succ]
    refine wpAnyH_take (i := 8) (oi := _) (v := ?_) rfl (by kernel_rfl) (by kernel_rfl) (by kernel_rfl) (fun _ _ _ h => h) (Or.inl ⟨by rfl, ?_⟩) hSA ?_
    rotate_left
    · intro W hSW
      try go_simp
      all_goals with_reducible rfl
    simp only [Act.put, List.setIfInBounds_toArray, List.set_cons_zero, List.set_cons_succ, List.getElem_toArray, List.getElem_cons_zero, List.getElem_cons_succ]
    refine wpAnyH_take (i := 9) (oi := _) (v := ?_) rfl (by kernel_rfl) (by kernel_rfl) (by kernel_rfl) (fun _ _ _ h => h) (Or.inl ⟨by rfl, ?_⟩) hSA ?_
    rotate_left
    · intro W hSW
      try go_simp
      all_goals with_reducible rfl
    simp only [Act.put, List.setIfInBounds_toArray, List.set_cons_zero, List.set_cons_succ, List.getElem_toArray, List.getElem_cons_zero, List.getElem_cons_succ]
    refine wpAnyH_take (i := 10) (oi := _) (v := ?_) rfl (by kernel_rfl) (by kernel_rfl) (by kernel_rfl) (fun _ _ _ h => h) (Or.inl ⟨by rfl, ?_⟩) hSA ?_
    rotate_left
    · intro W hSW
      try go_simp
      all_goals with_reducible rfl
    simp only [Act.put, List.setIfInBounds_toArray, List.set_cons_zero, List.set_cons_succ, List.getElem_toArray, List.getElem_cons_zero, List.getElem_cons_succ]
    refine wpAnyH_done (by kernel_rfl) ?_ _
    have hfin := HF11.out.trans ((hqA).mono HF11.out.size)
    go_wp2_with fail
    go_ret
    exact ⟨rfl, hfin⟩
  · have hne : (qe != 0) = true := by simpa using e0
    obtain ⟨hR, hor⟩ := HNO.out e0
    subst hR
    have HRV := Lib.hid (fun (Z : World) (hz : Below w7.heap.size w7 Z) => HRV7.out Z (Kept.of_below hz))
    have HRT := Lib.hid (fun (Z : World) (hz : Below w7.heap.size w7 Z) => (HA7.out.up hz).root (show yn + (0 + 3) ≤ 1000000000 by have := HYN.out; omega) fr ((HK7.out.trans (Kept.of_below hz)).block HK.out))
    have hss : (SR.toList == SR.toList) = true := beq_self_eq_true _
    by_cases hqq : QC = qe
    · have hqe : (QC == qe) = true := by simpa using hqq
      clear HNO HYE HAG HRV7 hor hqq
      have hbd : Below w7.heap.size w7 w7.drew := (Below.refl _ _).drew
      go_wp2_with fail
      refine wp_region_held_drew (S := BelS w7.drew) (by kernel_rfl) (BelS.refl _) (fun hS0 => ?_)
      refine wpAnyH_take (i := 0) (oi := _) (v := ?_) rfl (by kernel_rfl) (by kernel_rfl) (by kernel_rfl) (fun _ _ _ h => h) (Or.inl ⟨by rfl, ?_⟩) hS0 ?_
      rotate_left
      · intro W hSW
        try go_simp
        all_goals with_reducible rfl
      simp only [Act.put, List.setIfInBounds_toArray, List.set_cons_zero, List.set_cons_succ, List.getElem_toArray, List.getElem_cons_zero, List.getElem_cons_succ]
      refine wpAnyH_take (i := 3) (oi := _) (v := ?_) rfl (by kernel_rfl) (by kernel_rfl) (by kernel_rfl) (fun _ _ _ h => h) (Or.inl ⟨by rfl, ?_⟩) hS0 ?_
      rotate_left
      · intro W hSW
        try go_simp
        all_goals with_reducible rfl
      simp only [Act.put, List.setIfInBounds_toArray, List.set_cons_zero, List.set_cons_succ, List.getElem_toArray, List.getElem_cons_zero, List.getElem_cons_succ]
      refine wpAnyH_take (i := 4) (oi := _) (v := ?_) rfl (by kernel_rfl) (by kernel_rfl) (by kernel_rfl) (fun _ _ _ h => h) (Or.inl ⟨by rfl, ?_⟩) hS0 ?_
      rotate_left
      · intro W hSW
        have cv := HCS.out W _ (HRV.out W (below_chain hbd hbd.size hSW))
        try go_simp
        all_goals with_reducible rfl
      simp only [Act.put, List.setIfInBounds_toArray, List.set_cons_zero, List.set_cons_succ, List.getElem_toArray, List.getElem_cons_zero, List.getElem_cons_succ]
      refine wpAnyH_ready (rs := [1]) (by kernel_rfl) (by simp) (AllReadyH.cons rfl (fun K hK => ?_) AllReadyH.nil)
      have DA := Lib.hid (HRT.out w7.drew hbd)
      go_simp
      go_wp2_with ((go_at_call 8; (with_reducible refine DA.out.mono ?_); rintro e wA ⟨vA, rfl, hoA, hbA⟩))
      have hqA := below_chain hbd hbd.size hbA
      refine hK.out _ _ hbA (fun _ => ?_)
      clear hK K DA
      refine wpAnyH_stronger (S' := BelS wA) (fun W h => below_chain hbA hbA.size h) _ _ _ _ ?_
      have hSA : BelS wA wA := BelS.refl wA
      refine wpAnyH_take (i := 2) (oi := _) (v := ?_) rfl (by kernel_rfl) (by kernel_rfl) (by kernel_rfl) (fun _ _ _ h => h) (Or.inl ⟨by rfl, ?_⟩) hSA ?_
      rotate_left
      · intro W hSW
        have cv := HCS.out W _ (hoA.rd.up (Nat.le_refl _) hSW)
        try go_simp
        all_goals with_reducible rfl
      simp only [Act.put, List.setIfInBounds_toArray, List.set_cons_zero, List.set_cons_succ, List.getElem_toArray, List.getElem_cons_zero, List.getElem_cons_succ]
      refine wpAnyH_take (i := 5) (oi := _) (v := ?_) rfl (by kernel_rfl) (by kernel_rfl) (by kernel_rfl) (fun _ _ _ h => h) (Or.inl ⟨by rfl, ?_⟩) hSA ?_
      rotate_left
      · intro W hSW
        try go_simp
        all_goals with_reducible rfl
      simp only [Act.put, List.setIfInBounds_toArray, List.set_cons_zero, List.set_cons_succ, List.getElem_toArray, List.getElem_cons_zero, List.getElem_cons_succ]
      refine wpAnyH_take (i := 6) (oi := _) (v := ?_) rfl (by kernel_rfl) (by kernel_rfl) (by kernel_rfl) (fun _ _ _ h => h) (Or.inl ⟨by rfl, ?_⟩) hSA ?_
      rotate_left
      · intro W hSW
        try go_simp
        all_goals with_reducible rfl
      simp only [Act.put, List.setIfInBounds_toArray, List.set_cons_zero, List.set_cons_succ, List.getElem_toArray, List.getElem_cons_zero, List.getElem_cons_succ]
      refine wpAnyH_take (i := 7) (oi := _) (v := ?_) rfl (by kernel_rfl) (by kernel_rfl) (by kernel_rfl) (fun _ _ _ h => h) (Or.inl ⟨by rfl, ?_⟩) hSA ?_
      rotate_left
      · intro W hSW
        try go_simp
        all_goals with_reducible rfl
      simp only [Act.put, List.setIfInBounds_toArray, List.set_cons_zero, List.set_cons_succ, List.getElem_toArray, List.getElem_cons_zero, List.getElem_cons_succ]
      refine wpAnyH_take (i := 8) (oi := _) (v := ?_) rfl (by kernel_rfl) (by kernel_rfl) (by kernel_rfl) (fun _ _ _ h => h) (Or.inl ⟨by rfl, ?_⟩) hSA ?_
      rotate_left
      · intro W hSW
        try go_simp
        all_goals with_reducible rfl
      simp only [Act.put, List.setIfInBounds_toArray, List.set_cons_zero, List.set_cons_succ, List.getElem_toArray, List.getElem_cons_zero, List.getElem_cons_succ]
      refine wpAnyH_take (i := 9) (oi := _) (v := ?_) rfl (by kernel_rfl) (by kernel_rfl) (by kernel_rfl) (fun _ _ _ h => h) (Or.inl ⟨by rfl, ?_⟩) hSA ?_
      rotate_left
      · intro W hSW
        try go_simp
        all_goals with_reducible rfl
      simp only [Act.put, List.setIfInBounds_toArray, List.set_cons_zero, List.set_cons_succ, List.getElem_toArray, List.getElem_cons_zero, List.getElem_cons_succ]
      refine wpAnyH_take (i := 10) (oi := _) (v := ?_) rfl (by kernel_rfl) (by kernel_rfl) (by kernel_rfl) (fun _ _ _ h => h) (Or.inl ⟨by rfl, ?_⟩) hSA ?_
      rotate_left
      · intro W hSW
        try go_simp
        all_goals with_reducible rfl
      simp only [Act.put, List.setIfInBounds_toArray, List.set_cons_zero, List.set_cons_succ, List.getElem_toArray, List.getElem_cons_zero, List.getElem_cons_succ]
      refine wpAnyH_take (i := 11) (oi := _) (v := undef) rfl (by kernel_rfl) (by kernel_rfl) (by kernel_rfl) (fun _ _ _ h => h) (Or.inr ⟨by rfl, rfl⟩) hSA ?_
      simp only [Act.put, List.setIfInBounds_toArray, List.set_cons_zero, List.set_cons_succ, List.getElem_toArray, List.getElem_cons_zero, List.getElem_cons_succ]
      refine wpAnyH_take (i := 12) (oi := _) (v := undef) rfl (by kernel_rfl) (by kernel_rfl) (by kernel_rfl) (fun _ _ _ h => h) (Or.inr ⟨by rfl, rfl⟩) hSA ?_
      simp only [Act.put, List.setIfInBounds_toArray, List.set_cons_zero, List.set_cons_succ, List.getElem_toArray, List.getElem_cons_zero, List.getElem_cons_succ]
      refine wpAnyH_take (i := 13) (oi := _) (v := ?_) rfl (by kernel_rfl) (by kernel_rfl) (by kernel_rfl) (fun _ _ _ h => h) (Or.inl ⟨by rfl, ?_⟩) hSA ?_
      rotate_left
      · intro W hSW
        try go_simp
        all_goals with_reducible rfl
      simp only [Act.put, List.setIfInBounds_toArray, List.set_cons_zero, List.set_cons_succ, List.getElem_toArray, List.getElem_cons_zero, List.getElem_cons_succ]
      refine wpAnyH_take (i := 14) (oi := _) (v := ?_) rfl (by kernel_rfl) (by kernel_rfl) (by kernel_rfl) (fun _ _ _ h => h) (Or.inl ⟨by rfl, ?_⟩) hSA ?_
      rotate_left
      · intro W hSW
        try go_simp
        all_goals with_reducible rfl
      simp only [Act.put, List.setIfInBounds_toArray, List.set_cons_zero, List.set_cons_succ, List.getElem_toArray, List.getElem_cons_zero, List.getElem_cons_succ]
      refine wpAnyH_take (i := 15) (oi := _) (v := ?_) rfl (by kernel_rfl) (by kernel_rfl) (by kernel_rfl) (fun _ _ _ h => h) (Or.inl ⟨by rfl, ?_⟩) hSA ?_
      rotate_left
      · intro W hSW
        try go_simp
        all_goals with_reducible rfl
      simp only [Act.put, List.setIfInBounds_toArray, List.set_cons_zero, List.set_cons_succ, List.getElem_toArray, List.getElem_cons_zero, List.getElem_cons_succ]
      refine wpAnyH_done (by kernel_rfl) ?_ _
      have hfin := HF7.out.trans ((hqA).mono HF7.out.size)
      go_wp2_with fail
      go_ret
      exact ⟨rfl, hfin⟩
    · have hqe : (QC == qe) = false := by simpa using hqq
      have hq0 : QC = 0 := by rcases hor with h | h; exact absurd h hqq; exact h
      subst hq0
      clear HNO HYE HAG HRV7 hor hqq
      have hbd : Below w7.heap.size w7 w7.drew := (Below.refl _ _).drew
      go_wp2_with fail
      refine wp_region_held_drew (S := BelS w7.drew) (by kernel_rfl) (BelS.refl _) (fun hS0 => ?_)
      refine wpAnyH_take (i := 0) (oi := _) (v := ?_) rfl (by kernel_rfl) (by kernel_rfl) (by kernel_rfl) (fun _ _ _ h => h) (Or.inl ⟨by rfl, ?_⟩) hS0 ?_
      rotate_left
      · intro W hSW
        try go_simp
        all_goals with_reducible rfl
      simp only [Act.put, List.setIfInBounds_toArray, List.set_cons_zero, List.set_cons_succ, List.getElem_toArray, List.getElem_cons_zero, List.getElem_cons_succ]
      refine wpAnyH_take (i := 3) (oi := _) (v := ?_) rfl (by kernel_rfl) (by kernel_rfl) (by kernel_rfl) (fun _ _ _ h => h) (Or.inl ⟨by rfl, ?_⟩) hS0 ?_
      rotate_left
      · intro W hSW
        try go_simp
        all_goals with_reducible rfl
      simp only [Act.put, List.setIfInBounds_toArray, List.set_cons_zero, List.set_cons_succ, List.getElem_toArray, List.getElem_cons_zero, List.getElem_cons_succ]
      refine wpAnyH_take (i := 4) (oi := _) (v := ?_) rfl (by kernel_rfl) (by kernel_rfl) (by kernel_rfl) (fun _ _ _ h => h) (Or.inl ⟨by rfl, ?_⟩) hS0 ?_
      rotate_left
      · intro W hSW
        have cv := HCS.out W _ (HRV.out W (below_chain hbd hbd.size hSW))
        try go_simp
        all_goals with_reducible rfl
      simp only [Act.put, List.setIfInBounds_toArray, List.set_cons_zero, List.set_cons_succ, List.getElem_toArray, List.getElem_cons_zero, List.getElem_cons_succ]
      refine wpAnyH_ready (rs := [1]) (by kernel_rfl) (by simp) (AllReadyH.cons rfl (fun K hK => ?_) AllReadyH.nil)
      have DA := Lib.hid (HRT.out w7.drew hbd)
      go_simp
      go_wp2_with ((go_at_call 8; (with_reducible refine DA.out.mono ?_); rintro e wA ⟨vA, rfl, hoA, hbA⟩))
      have hqA := below_chain hbd hbd.size hbA
      refine hK.out _ _ hbA (fun _ => ?_)
      clear hK K DA
      refine wpAnyH_stronger (S' := BelS wA) (fun W h => below_chain hbA hbA.size h) _ _ _ _ ?_
      have hSA : BelS wA wA := BelS.refl wA
      refine wpAnyH_take (i := 2) (oi := _) (v := ?_) rfl (by kernel_rfl) (by kernel_rfl) (by kernel_rfl) (fun _ _ _ h => h) (Or.inl ⟨by rfl, ?_⟩) hSA ?_
      rotate_left
      · intro W hSW
        have cv := HCS.out W _ (hoA.rd.up (Nat.le_refl _) hSW)
        try go_simp
        all_goals with_reducible rfl
      simp only [Act.put, List.setIfInBounds_toArray, List.set_cons_zero, List.set_cons_succ, List.getElem_toArray, List.getElem_cons_zero, List.getElem_cons_succ]
      refine wpAnyH_take (i := 5) (oi := _) (v := ?_) rfl (by kernel_rfl) (by kernel_rfl) (by kernel_rfl) (fun _ _ _ h => h) (Or.inl ⟨by rfl, ?_⟩) hSA ?_
      rotate_left
      · intro W hSW
        try go_simp
        all_goals with_reducible rfl
      simp only [Act.put, List.setIfInBounds_toArray, List.set_cons_zero, List.set_cons_succ, List.getElem_toArray, List.getElem_cons_zero, List.getElem_cons_succ]
      refine wpAnyH_take (i := 6) (oi := _) (v := ?_) rfl (by kernel_rfl) (by kernel_rfl) (by kernel_rfl) (fun _ _ _ h => h) (Or.inl ⟨by rfl, ?_⟩) hSA ?_
      rotate_left
      · intro W hSW
        try go_simp
        all_goals with_reducible rfl
      simp only [Act.put, List.setIfInBounds_toArray, List.set_cons_zero, List.set_cons_succ, List.getElem_toArray, List.getElem_cons_zero, List.getElem_cons_succ]
      refine wpAnyH_take (i := 7) (oi := _) (v := ?_) rfl (by kernel_rfl) (by kernel_rfl) (by kernel_rfl) (fun _ _ _ h => h) (Or.inl ⟨by rfl, ?_⟩) hSA ?_
      rotate_left
      · intro W hSW
        try go_simp
        all_goals with_reducible rfl
      simp only [Act.put, List.setIfInBounds_toArray, List.set_cons_zero, List.set_cons_succ, List.getElem_toArray, List.getElem_cons_zero, List.getElem_cons_succ]
      refine wpAnyH_take (i := 8) (oi := _) (v := ?_) rfl (by kernel_rfl) (by kernel_rfl) (by kernel_rfl) (fun _ _ _ h => h) (Or.inl ⟨by rfl, ?_⟩) hSA ?_
      rotate_left
      · intro W hSW
        try go_simp
        all_goals with_reducible rfl
      simp only [Act.put, List.setIfInBounds_toArray, List.set_cons_zero, List.set_cons_succ, List.getElem_toArray, List.getElem_cons_zero, List.getElem_cons_succ]
      refine wpAnyH_take (i := 9) (oi := _) (v := ?_) rfl (by kernel_rfl) (by kernel_rfl) (by kernel_rfl) (fun _ _ _ h => h) (Or.inl ⟨by rfl, ?_⟩) hSA ?_
      rotate_left
      · intro W hSW
        try go_simp
        all_goals with_reducible rfl
      simp only [Act.put, List.setIfInBounds_toArray, List.set_cons_zero, List.set_cons_succ, List.getElem_toArray, List.getElem_cons_zero, List.getElem_cons_succ]
      refine wpAnyH_take (i := 10) (oi := _) (v := ?_) rfl (by kernel_rfl) (by kernel_rfl) (by kernel_rfl) (fun _ _ _ h => h) (Or.inl ⟨by rfl, ?_⟩) hSA ?_
      rotate_left
      · intro W hSW
        try go_simp
        all_goals with_reducible rfl
      simp only [Act.put, List.setIfInBounds_toArray, List.set_cons_zero, List.set_cons_succ, List.getElem_toArray, List.getElem_cons_zero, List.getElem_cons_succ]
      refine wpAnyH_take (i := 11) (oi := _) (v := ?_) rfl (by kernel_rfl) (by kernel_rfl) (by kernel_rfl) (fun _ _ _ h => h) (Or.inl ⟨by rfl, ?_⟩) hSA ?_
      rotate_left
      · intro W hSW
        try go_simp
        all_goals with_reducible rfl
      simp only [Act.put, List.setIfInBounds_toArray, List.set_cons_zero, List.set_cons_succ, List.getElem_toArray, List.getElem_cons_zero, List.getElem_cons_succ]
      refine wpAnyH_take (i := 12) (oi := _) (v := ?_) rfl (by kernel_rfl) (by kernel_rfl) (by kernel_rfl) (fun _ _ _ h => h) (Or.inl ⟨by rfl, ?_⟩) hSA ?_
      rotate_left
      · intro W hSW
        try go_simp
        all_goals with_reducible rfl
      simp only [Act.put, List.setIfInBounds_toArray, List.set_cons_zero, List.set_cons_succ, List.getElem_toArray, List.getElem_cons_zero, List.getElem_cons_succ]
      refine wpAnyH_take (i := 13) (oi := _) (v := ?_) rfl (by kernel_rfl) (by kernel_rfl) (by kernel_rfl) (fun _ _ _ h => h) (Or.inl ⟨by rfl, ?_⟩) hSA ?_
      rotate_left
      · intro W hSW
        try go_simp
        all_goals with_reducible rfl
      simp only [Act.put, List.setIfInBounds_toArray, List.set_cons_zero, List.set_cons_succ, List.getElem_toArray, List.getElem_cons_zero, List.getElem_cons_succ]
      refine wpAnyH_take (i := 14) (oi := _) (v := ?_) rfl (by kernel_rfl) (by kernel_rfl) (by kernel_rfl) (fun _ _ _ h => h) (Or.inl ⟨by rfl, ?_⟩) hSA ?_
      rotate_left
      · intro W hSW
        try go_simp
        all_goals with_reducible rfl
      simp only [Act.put, List.setIfInBounds_toArray, List.set_cons_zero, List.set_cons_succ, List.getElem_toArray, List.getElem_cons_zero, List.getElem_cons_succ]
      refine wpAnyH_take (i := 15) (oi := _) (v := ?_) rfl (by kernel_rfl) (by kernel_rfl) (by kernel_rfl) (fun _ _ _ h => h) (Or.inl ⟨by rfl, ?_⟩) hSA ?_
      rotate_left
      · intro W hSW
        try go_simp
        all_goals with_reducible rfl
      simp only [Act.put, List.setIfInBounds_toArray, List.set_cons_zero, List.set_cons_succ, List.getElem_toArray, List.getElem_cons_zero, List.getElem_cons_succ]
      refine wpAnyH_done (by kernel_rfl) ?_ _
      have hfin := HF7.out.trans ((hqA).mono HF7.out.size)
      go_wp2_with fail
      go_ret
      exact ⟨rfl, hfin⟩
end Go.Proofs.YtniclaapiabmdaaGreatDoor
