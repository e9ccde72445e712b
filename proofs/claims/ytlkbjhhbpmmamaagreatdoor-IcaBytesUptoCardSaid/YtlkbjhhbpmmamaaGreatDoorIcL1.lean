
/- The law: the bytes of any orders are the document's; any bytes are parsed to its orders, or refused, and have one form. -/
import Derived.Test.YtlkbjhhbpmmamaaGreatDoorIcL2
import Derived.Test.YtlkbjhhbpmmamaaGreatDoorIcaG
import Derived.Test.YtlkbjhhbpmmamaaGreatDoorHeldBy
namespace Go.Proofs.YtlkbjhhbpmmamaaGreatDoor
set_option maxRecDepth 100000
open Go Go.RowKit
set_option linter.unusedVariables false

theorem Tryz.ordF : ∃ f0 f1 f2 : Field, (Tryz.prog.fieldsOf 33).toList = [f0, f1, f2] ∧ f0.type = 9 ∧ f1.type = 9 ∧ f2.type = 31 ∧ f0.offset = 0 ∧ f1.offset = 1 ∧ f2.offset = 2 :=
  ⟨_, _, _, (by rfl), rfl, rfl, rfl, rfl, rfl, rfl⟩
theorem ord_self (o : OrdV) : ∀ f ∈ (Tryz.prog.fieldsOf 33).toList, SelfF o.cells f := by
  obtain ⟨f0, f1, f2, hl, t0, t1, t2, o0, o1, o2⟩ := Tryz.ordF
  rw [hl]
  intro f hf
  simp only [List.mem_cons, List.not_mem_nil, or_false] at hf
  rcases hf with rfl | rfl | rfl
  · exact self_str o.t (by rw [t0]; exact Tryz.underlying9) (fun w => by rw [t0, o0]; rfl)
  · exact self_str o.d (by rw [t1]; exact Tryz.underlying9) (fun w => by rw [t1, o1]; rfl)
  · exact self_u4 o.x t2 (fun w => by rw [o2]; rfl)
theorem ord_eqIn (o : OrdV) (W : World) : (Op.equalIn 10000 33 (.agg o.cells) (.agg o.cells)).run Tryz.prog W = .ok true W := by
  rw [run_equalIn_struct W 9999 _ _ _ (by kernel_rfl) (by kernel_rfl), eqFields_self (ord_self o)]
set_option maxHeartbeats 16000000 in
theorem icab_no (w : World) (v : Value) (l : List OrdV) (hv : OrdsAt w v l) (hx : ∀ o ∈ l, o.x.ok ∧ o.t.size ≤ maxLen ∧ o.d.size ≤ maxLen) (hn : l.length ≤ 1048576) (vb : Value) (b : List UInt8) (hr : Rd w w.heap.size vb b) (hl : b.length ≤ 10000000) (hcase : ¬ ((ordsR b).bad = 0 ∧ rEnd (ordsR b).rest (ordsR b).fault = 0)) :
    Calls Tryz.prog 3 #[v, vb] w fun e w' => e = .returned (.bool true) ∧ Below w.heap.size w w' := by
  have HRB0 := Lib.hid (fun (Z : World) (hz : Below w.heap.size w Z) => hr.up (Nat.le_refl _) hz)
  have HV0 := Lib.hid (fun (Z : World) (hz : Below w.heap.size w Z) => hv.up hz)
  have HP1 := Lib.hid (fun (Z : World) (hz : Below w.heap.size w Z) => icb_any Z v l (hv.up hz) hx hn)
  have HP2 := Lib.hid (fun (Z : World) (hz : Below w.heap.size w Z) => ricb_any Z v l (hv.up hz) hx hn)
  have HA := Lib.hid (icparse_any w vb b hr (by omega))
  have HB := Lib.hid (fun (Z : World) (hz : Below w.heap.size w Z) => ricparse_any Z vb b (hr.up (Nat.le_refl _) hz) (by omega))
  have hcs : ∀ (L : List UInt8), ∃ S : ByteArray, ∀ (Z : World) (v : Value), Rd Z Z.heap.size v L → (convert 23 9 v).run Tryz.prog Z = .ok (.string S) Z := fun L => ⟨⟨L.toArray⟩, fun Z v h => run_str Tryz.underlying23 Tryz.underlying5 Tryz.isString h⟩
  obtain ⟨SL, hcl⟩ := hcs (ordsB l l.length)
  obtain ⟨SB, hcb⟩ := hcs b
  have HCL := Lib.hid hcl
  have HCB := Lib.hid hcb
  have hSL : (SL.toList == SL.toList) = true := beq_self_eq_true _
  have hSB : (SB.toList == SB.toList) = true := beq_self_eq_true _
  have HCS := Lib.hid hcase
  have HBK := Lib.hid (fun (h : (ordsR b).bad = 0 ∧ rEnd (ordsR b).rest (ordsR b).fault = 0) => orders_back h.1 h.2)
  have HFI := Lib.hid (ordsR_fit b)
  have HLE := Lib.hid (ordsR_len b)
  obtain ⟨Al, cl, rfl⟩ : ∃ A c, v = .slice A l.length c := by obtain ⟨A, c, h, _⟩ := hv; exact ⟨A, c, h⟩
  obtain ⟨Ab, cb, rfl⟩ := hr.form
  generalize ordsB l l.length = LB at *
  generalize l.length = nl at *
  obtain ⟨nb, hnb⟩ : ∃ n, n = b.length := ⟨_, rfl⟩
  rw [← hnb] at HRB0 HA HB ⊢
  clear hv hx hn hr hl hcs hcl hcb hcase hnb
  generalize (ordsR b).acc = acc at *
  go_enter Tryz.func3, Tryz.ntmps3
  go_wp2_with fail
  refine HA.out.mono ?_
  rintro e w1 ⟨hb1, ⟨h1, h2, -⟩ | ⟨-, rfl⟩⟩
  · exact absurd ⟨h1, h2⟩ HCS.out
  have HB1 := Lib.hid (HB.out _ hb1)
  clear HA HB
  go_wp2_with fail
  refine HB1.out.mono ?_
  rintro e w2 ⟨hb2, ⟨h1, h2, -⟩ | ⟨-, rfl⟩⟩
  · exact absurd ⟨h1, h2⟩ HCS.out
  have hq2 := below_chain hb1 hb1.size hb2
  have HRB : Hid (∀ Z, Below w2.heap.size w2 Z → Rd Z Z.heap.size (.slice Ab nb cb) b) := Lib.hid fun Z hz => HRB0.out Z (below_chain hq2 hq2.size hz)
  replace HP1 : Hid (∀ Z, Below w2.heap.size w2 Z → Calls Tryz.prog 12 #[.slice Al nl cl] Z fun e w' => ∃ v', e = .returned v' ∧ Own w' Z.heap.size v' LB ∧ Below Z.heap.size Z w') := Lib.hid fun Z hz => HP1.out Z (below_chain hq2 hq2.size hz)
  replace HP2 : Hid (∀ Z, Below w2.heap.size w2 Z → Calls Tryz.prog 13 #[.slice Al nl cl] Z fun e w' => ∃ v', e = .returned v' ∧ Own w' Z.heap.size v' LB ∧ Below Z.heap.size Z w') := Lib.hid fun Z hz => HP2.out Z (below_chain hq2 hq2.size hz)
  have hbd : Below w2.heap.size w2 w2.drew := (Below.refl _ _).drew
  clear HB1 hb1 hb2
  go_wp2_with fail
  refine wp_region_held_drew (S := BelS w2.drew) (by kernel_rfl) (BelS.refl _) (fun hS0 => ?_)
  refine wpAnyH_ready (rs := [0]) (by kernel_rfl) (by simp) (AllReadyH.cons rfl (fun K hK => ?_) AllReadyH.nil)
  have DA := Lib.hid (icafixed_any w2.drew)
  go_simp
  go_wp2_with ((go_at_call 11; (with_reducible refine DA.out.mono ?_); rintro e wA ⟨rfl, hbA⟩))
  have hqA := below_chain hbd hbd.size hbA
  refine hK.out _ _ hbA (fun _ => ?_)
  clear hK K DA
  refine wpAnyH_stronger (S' := BelS wA) (fun W h => below_chain hbA hbA.size h) _ _ _ _ ?_
  have hSA : BelS wA wA := BelS.refl wA
  refine wpAnyH_take (i := 1) (oi := _) (v := ?_) rfl (by kernel_rfl) (by kernel_rfl) (by kernel_rfl) (fun _ _ _ h => h) (Or.inl ⟨by rfl, ?_⟩) hSA ?_
  rotate_left
  · intro W hSW
    try go_simp
    all_goals with_reducible rfl
  simp only [Act.put, List.setIfInBounds_toArray, List.set_cons_zero, List.set_cons_succ, List.getElem_toArray, List.getElem_cons_zero, List.getElem_cons_succ]
  refine wpAnyH_take (i := 2) (oi := _) (v := ?_) rfl (by kernel_rfl) (by kernel_rfl) (by kernel_rfl) (fun _ _ _ h => h) (Or.inl ⟨by rfl, ?_⟩) hSA ?_
  rotate_left
  · intro W hSW
    try go_simp
    all_goals with_reducible rfl
  simp only [Act.put, List.setIfInBounds_toArray, List.set_cons_zero, List.set_cons_succ, List.getElem_toArray, List.getElem_cons_zero, List.getElem_cons_succ]
  refine wpAnyH_take (i := 3) (oi := _) (v := ?_) rfl (by kernel_rfl) (by kernel_rfl) (by kernel_rfl) (fun _ _ _ h => h) (Or.inl ⟨by rfl, ?_⟩) hSA ?_
  rotate_left
  · intro W hSW
    try go_simp
    all_goals with_reducible rfl
  simp only [Act.put, List.setIfInBounds_toArray, List.set_cons_zero, List.set_cons_succ, List.getElem_toArray, List.getElem_cons_zero, List.getElem_cons_succ]
  refine wpAnyH_take (i := 4) (oi := _) (v := ?_) rfl (by kernel_rfl) (by kernel_rfl) (by kernel_rfl) (fun _ _ _ h => h) (Or.inl ⟨by rfl, ?_⟩) hSA ?_
  rotate_left
  · intro W hSW
    try go_simp
    all_goals with_reducible rfl
  simp only [Act.put, List.setIfInBounds_toArray, List.set_cons_zero, List.set_cons_succ, List.getElem_toArray, List.getElem_cons_zero, List.getElem_cons_succ]
  refine wpAnyH_take (i := 5) (oi := _) (v := ?_) rfl (by kernel_rfl) (by kernel_rfl) (by kernel_rfl) (fun _ _ _ h => h) (Or.inl ⟨by rfl, ?_⟩) hSA ?_
  rotate_left
  · intro W hSW
    try go_simp
    all_goals with_reducible rfl
  simp only [Act.put, List.setIfInBounds_toArray, List.set_cons_zero, List.set_cons_succ, List.getElem_toArray, List.getElem_cons_zero, List.getElem_cons_succ]
  refine wpAnyH_take (i := 6) (oi := _) (v := ?_) rfl (by kernel_rfl) (by kernel_rfl) (by kernel_rfl) (fun _ _ _ h => h) (Or.inl ⟨by rfl, ?_⟩) hSA ?_
  rotate_left
  · intro W hSW
    try go_simp
    all_goals with_reducible rfl
  simp only [Act.put, List.setIfInBounds_toArray, List.set_cons_zero, List.set_cons_succ, List.getElem_toArray, List.getElem_cons_zero, List.getElem_cons_succ]
  refine wpAnyH_take (i := 7) (oi := _) (v := ?_) rfl (by kernel_rfl) (by kernel_rfl) (by kernel_rfl) (fun _ _ _ h => h) (Or.inl ⟨by rfl, ?_⟩) hSA ?_
  rotate_left
  · intro W hSW
    try go_simp
    all_goals with_reducible rfl
  simp only [Act.put, List.setIfInBounds_toArray, List.set_cons_zero, List.set_cons_succ, List.getElem_toArray, List.getElem_cons_zero, List.getElem_cons_succ]
  refine wpAnyH_take (i := 8) (oi := _) (v := ?_) rfl (by kernel_rfl) (by kernel_rfl) (by kernel_rfl) (fun _ _ _ h => h) (Or.inl ⟨by rfl, ?_⟩) hSA ?_
  rotate_left
  · intro W hSW
    try go_simp
    all_goals with_reducible rfl
  simp only [Act.put, List.setIfInBounds_toArray, List.set_cons_zero, List.set_cons_succ, List.getElem_toArray, List.getElem_cons_zero, List.getElem_cons_succ]
  refine wpAnyH_take (i := 9) (oi := _) (v := ?_) rfl (by kernel_rfl) (by kernel_rfl) (by kernel_rfl) (fun _ _ _ h => h) (Or.inl ⟨by rfl, ?_⟩) hSA ?_
  rotate_left
  · intro W hSW
    try go_simp
    all_goals with_reducible rfl
  simp only [Act.put, List.setIfInBounds_toArray, List.set_cons_zero, List.set_cons_succ, List.getElem_toArray, List.getElem_cons_zero, List.getElem_cons_succ]
  refine wpAnyH_take (i := 10) (oi := _) (v := ?_) rfl (by kernel_rfl) (by kernel_rfl) (by kernel_rfl) (fun _ _ _ h => h) (Or.inl ⟨by rfl, ?_⟩) hSA ?_
  rotate_left
  · intro W hSW
    try go_simp
    all_goals with_reducible rfl
  simp only [Act.put, List.setIfInBounds_toArray, List.set_cons_zero, List.set_cons_succ, List.getElem_toArray, List.getElem_cons_zero, List.getElem_cons_succ]
  refine wpAnyH_take (i := 11) (oi := _) (v := ?_) rfl (by kernel_rfl) (by kernel_rfl) (by kernel_rfl) (fun _ _ _ h => h) (Or.inl ⟨by rfl, ?_⟩) hSA ?_
  rotate_left
  · intro W hSW
    try go_simp
    all_goals with_reducible rfl
  simp only [Act.put, List.setIfInBounds_toArray, List.set_cons_zero, List.set_cons_succ, List.getElem_toArray, List.getElem_cons_zero, List.getElem_cons_succ]
  refine wpAnyH_take (i := 12) (oi := _) (v := ?_) rfl (by kernel_rfl) (by kernel_rfl) (by kernel_rfl) (fun _ _ _ h => h) (Or.inl ⟨by rfl, ?_⟩) hSA ?_
  rotate_left
  · intro W hSW
    try go_simp
    all_goals with_reducible rfl
  simp only [Act.put, List.setIfInBounds_toArray, List.set_cons_zero, List.set_cons_succ, List.getElem_toArray, List.getElem_cons_zero, List.getElem_cons_succ]
  refine wpAnyH_take (i := 13) (oi := _) (v := ?_) rfl (by kernel_rfl) (by kernel_rfl) (by kernel_rfl) (fun _ _ _ h => h) (Or.inl ⟨by rfl, ?_⟩) hSA ?_
  rotate_left
  · intro W hSW
    try go_simp
    all_goals with_reducible rfl
  simp only [Act.put, List.setIfInBounds_toArray, List.set_cons_zero, List.set_cons_succ, List.getElem_toArray, List.getElem_cons_zero, List.getElem_cons_succ]
  refine wpAnyH_take (i := 14) (oi := _) (v := ?_) rfl (by kernel_rfl) (by kernel_rfl) (by kernel_rfl) (fun _ _ _ h => h) (Or.inl ⟨by rfl, ?_⟩) hSA ?_
  rotate_left
  · intro W hSW
    try go_simp
    all_goals with_reducible rfl
  simp only [Act.put, List.setIfInBounds_toArray, List.set_cons_zero, List.set_cons_succ, List.getElem_toArray, List.getElem_cons_zero, List.getElem_cons_succ]
  refine wpAnyH_take (i := 15) (oi := _) (v := ?_) rfl (by kernel_rfl) (by kernel_rfl) (by kernel_rfl) (fun _ _ _ h => h) (Or.inl ⟨by rfl, ?_⟩) hSA ?_
  rotate_left
  · intro W hSW
    try go_simp
    all_goals with_reducible rfl
  simp only [Act.put, List.setIfInBounds_toArray, List.set_cons_zero, List.set_cons_succ, List.getElem_toArray, List.getElem_cons_zero, List.getElem_cons_succ]
  refine wpAnyH_take (i := 18) (oi := _) (v := ?_) rfl (by kernel_rfl) (by kernel_rfl) (by kernel_rfl) (fun _ _ _ h => h) (Or.inl ⟨by rfl, ?_⟩) hSA ?_
  rotate_left
  · intro W hSW
    try go_simp
    all_goals with_reducible rfl
  simp only [Act.put, List.setIfInBounds_toArray, List.set_cons_zero, List.set_cons_succ, List.getElem_toArray, List.getElem_cons_zero, List.getElem_cons_succ]
  refine wpAnyH_ready (rs := [16]) (by kernel_rfl) (by simp) (AllReadyH.cons rfl (fun K hK => ?_) AllReadyH.nil)
  have DB := Lib.hid (HP1.out wA hqA)
  go_simp
  go_wp2_with ((go_at_call 12; (with_reducible refine DB.out.mono ?_); rintro e wB ⟨vB, rfl, hoB, hbB⟩))
  have hqB := below_chain hqA hqA.size hbB
  refine hK.out _ _ hbB (fun _ => ?_)
  clear hK K DB
  refine wpAnyH_stronger (S' := BelS wB) (fun W h => below_chain hbB hbB.size h) _ _ _ _ ?_
  have hSB : BelS wB wB := BelS.refl wB
  refine wpAnyH_take (i := 17) (oi := _) (v := ?_) rfl (by kernel_rfl) (by kernel_rfl) (by kernel_rfl) (fun _ _ _ h => h) (Or.inl ⟨by rfl, ?_⟩) hSB ?_
  rotate_left
  · intro W hSW
    have cv := HCL.out W _ (hoB.rd.up (Nat.le_refl _) hSW)
    try go_simp
    all_goals with_reducible rfl
  simp only [Act.put, List.setIfInBounds_toArray, List.set_cons_zero, List.set_cons_succ, List.getElem_toArray, List.getElem_cons_zero, List.getElem_cons_succ]
  refine wpAnyH_ready (rs := [19]) (by kernel_rfl) (by simp) (AllReadyH.cons rfl (fun K hK => ?_) AllReadyH.nil)
  have DC := Lib.hid (HP2.out wB hqB)
  go_simp
  go_wp2_with ((go_at_call 13; (with_reducible refine DC.out.mono ?_); rintro e wC ⟨vC, rfl, hoC, hbC⟩))
  have hqC := below_chain hqB hqB.size hbC
  refine hK.out _ _ hbC (fun _ => ?_)
  clear hK K DC
  refine wpAnyH_stronger (S' := BelS wC) (fun W h => below_chain hbC hbC.size h) _ _ _ _ ?_
  have hSC : BelS wC wC := BelS.refl wC
  refine wpAnyH_take (i := 20) (oi := _) (v := ?_) rfl (by kernel_rfl) (by kernel_rfl) (by kernel_rfl) (fun _ _ _ h => h) (Or.inl ⟨by rfl, ?_⟩) hSC ?_
  rotate_left
  · intro W hSW
    have cv := HCL.out W _ (hoC.rd.up (Nat.le_refl _) hSW)
    try go_simp
    all_goals with_reducible rfl
  simp only [Act.put, List.setIfInBounds_toArray, List.set_cons_zero, List.set_cons_succ, List.getElem_toArray, List.getElem_cons_zero, List.getElem_cons_succ]
  refine wpAnyH_take (i := 21) (oi := _) (v := ?_) rfl (by kernel_rfl) (by kernel_rfl) (by kernel_rfl) (fun _ _ _ h => h) (Or.inl ⟨by rfl, ?_⟩) hSC ?_
  rotate_left
  · intro W hSW
    try go_simp
    all_goals with_reducible rfl
  simp only [Act.put, List.setIfInBounds_toArray, List.set_cons_zero, List.set_cons_succ, List.getElem_toArray, List.getElem_cons_zero, List.getElem_cons_succ]
  refine wpAnyH_take (i := 22) (oi := _) (v := ?_) rfl (by kernel_rfl) (by kernel_rfl) (by kernel_rfl) (fun _ _ _ h => h) (Or.inl ⟨by rfl, ?_⟩) hSC ?_
  rotate_left
  · intro W hSW
    try go_simp
    all_goals with_reducible rfl
  simp only [Act.put, List.setIfInBounds_toArray, List.set_cons_zero, List.set_cons_succ, List.getElem_toArray, List.getElem_cons_zero, List.getElem_cons_succ]
  refine wpAnyH_take (i := 23) (oi := _) (v := ?_) rfl (by kernel_rfl) (by kernel_rfl) (by kernel_rfl) (fun _ _ _ h => h) (Or.inl ⟨by rfl, ?_⟩) hSC ?_
  rotate_left
  · intro W hSW
    try go_simp
    all_goals with_reducible rfl
  simp only [Act.put, List.setIfInBounds_toArray, List.set_cons_zero, List.set_cons_succ, List.getElem_toArray, List.getElem_cons_zero, List.getElem_cons_succ]
  refine wpAnyH_take (i := 24) (oi := _) (v := ?_) rfl (by kernel_rfl) (by kernel_rfl) (by kernel_rfl) (fun _ _ _ h => h) (Or.inl ⟨by rfl, ?_⟩) hSC ?_
  rotate_left
  · intro W hSW
    try go_simp
    all_goals with_reducible rfl
  simp only [Act.put, List.setIfInBounds_toArray, List.set_cons_zero, List.set_cons_succ, List.getElem_toArray, List.getElem_cons_zero, List.getElem_cons_succ]
  refine wpAnyH_take (i := 25) (oi := _) (v := ?_) rfl (by kernel_rfl) (by kernel_rfl) (by kernel_rfl) (fun _ _ _ h => h) (Or.inl ⟨by rfl, ?_⟩) hSC ?_
  rotate_left
  · intro W hSW
    try go_simp
    all_goals with_reducible rfl
  simp only [Act.put, List.setIfInBounds_toArray, List.set_cons_zero, List.set_cons_succ, List.getElem_toArray, List.getElem_cons_zero, List.getElem_cons_succ]
  refine wpAnyH_take (i := 26) (oi := _) (v := ?_) rfl (by kernel_rfl) (by kernel_rfl) (by kernel_rfl) (fun _ _ _ h => h) (Or.inl ⟨by rfl, ?_⟩) hSC ?_
  rotate_left
  · intro W hSW
    try go_simp
    all_goals with_reducible rfl
  simp only [Act.put, List.setIfInBounds_toArray, List.set_cons_zero, List.set_cons_succ, List.getElem_toArray, List.getElem_cons_zero, List.getElem_cons_succ]
  refine wpAnyH_take (i := 27) (oi := _) (v := undef) rfl (by kernel_rfl) (by kernel_rfl) (by kernel_rfl) (fun _ _ _ h => h) (Or.inr ⟨by rfl, rfl⟩) hSC ?_
  simp only [Act.put, List.setIfInBounds_toArray, List.set_cons_zero, List.set_cons_succ, List.getElem_toArray, List.getElem_cons_zero, List.getElem_cons_succ]
  refine wpAnyH_take (i := 28) (oi := _) (v := undef) rfl (by kernel_rfl) (by kernel_rfl) (by kernel_rfl) (fun _ _ _ h => h) (Or.inr ⟨by rfl, rfl⟩) hSC ?_
  simp only [Act.put, List.setIfInBounds_toArray, List.set_cons_zero, List.set_cons_succ, List.getElem_toArray, List.getElem_cons_zero, List.getElem_cons_succ]
  refine wpAnyH_take (i := 29) (oi := _) (v := undef) rfl (by kernel_rfl) (by kernel_rfl) (by kernel_rfl) (fun _ _ _ h => h) (Or.inr ⟨by rfl, rfl⟩) hSC ?_
  simp only [Act.put, List.setIfInBounds_toArray, List.set_cons_zero, List.set_cons_succ, List.getElem_toArray, List.getElem_cons_zero, List.getElem_cons_succ]
  refine wpAnyH_take (i := 30) (oi := _) (v := undef) rfl (by kernel_rfl) (by kernel_rfl) (by kernel_rfl) (fun _ _ _ h => h) (Or.inr ⟨by rfl, rfl⟩) hSC ?_
  simp only [Act.put, List.setIfInBounds_toArray, List.set_cons_zero, List.set_cons_succ, List.getElem_toArray, List.getElem_cons_zero, List.getElem_cons_succ]
  refine wpAnyH_take (i := 31) (oi := _) (v := undef) rfl (by kernel_rfl) (by kernel_rfl) (by kernel_rfl) (fun _ _ _ h => h) (Or.inr ⟨by rfl, rfl⟩) hSC ?_
  simp only [Act.put, List.setIfInBounds_toArray, List.set_cons_zero, List.set_cons_succ, List.getElem_toArray, List.getElem_cons_zero, List.getElem_cons_succ]
  refine wpAnyH_take (i := 32) (oi := _) (v := undef) rfl (by kernel_rfl) (by kernel_rfl) (by kernel_rfl) (fun _ _ _ h => h) (Or.inr ⟨by rfl, rfl⟩) hSC ?_
  simp only [Act.put, List.setIfInBounds_toArray, List.set_cons_zero, List.set_cons_succ, List.getElem_toArray, List.getElem_cons_zero, List.getElem_cons_succ]
  refine wpAnyH_take (i := 33) (oi := _) (v := ?_) rfl (by kernel_rfl) (by kernel_rfl) (by kernel_rfl) (fun _ _ _ h => h) (Or.inl ⟨by rfl, ?_⟩) hSC ?_
  rotate_left
  · intro W hSW
    try go_simp
    all_goals with_reducible rfl
  simp only [Act.put, List.setIfInBounds_toArray, List.set_cons_zero, List.set_cons_succ, List.getElem_toArray, List.getElem_cons_zero, List.getElem_cons_succ]
  refine wpAnyH_take (i := 34) (oi := _) (v := ?_) rfl (by kernel_rfl) (by kernel_rfl) (by kernel_rfl) (fun _ _ _ h => h) (Or.inl ⟨by rfl, ?_⟩) hSC ?_
  rotate_left
  · intro W hSW
    try go_simp
    all_goals with_reducible rfl
  simp only [Act.put, List.setIfInBounds_toArray, List.set_cons_zero, List.set_cons_succ, List.getElem_toArray, List.getElem_cons_zero, List.getElem_cons_succ]
  refine wpAnyH_done (by kernel_rfl) ?_ _
  have hqf := below_chain hq2 hq2.size hqC
  go_wp2_with fail
  go_loopw [57] (fun i W => i = .int .i64 0 ∧ W = wC) (fun _ _ => 0)
  case atStart => exact ⟨rfl, rfl⟩
  case round =>
    rename World => W
    obtain ⟨rfl, rfl⟩ := hrel
    go_wp2_with fail
    go_ret
    exact ⟨rfl, hqf⟩
set_option maxHeartbeats 16000000 in
theorem icab_yes (w : World) (v : Value) (l : List OrdV) (hv : OrdsAt w v l) (hx : ∀ o ∈ l, o.x.ok ∧ o.t.size ≤ maxLen ∧ o.d.size ≤ maxLen) (hn : l.length ≤ 1048576) (vb : Value) (b : List UInt8) (hr : Rd w w.heap.size vb b) (hl : b.length ≤ 10000000) (hcase : (ordsR b).bad = 0 ∧ rEnd (ordsR b).rest (ordsR b).fault = 0) :
    Calls Tryz.prog 3 #[v, vb] w fun e w' => e = .returned (.bool true) ∧ Below w.heap.size w w' := by
  have HRB0 := Lib.hid (fun (Z : World) (hz : Below w.heap.size w Z) => hr.up (Nat.le_refl _) hz)
  have HV0 := Lib.hid (fun (Z : World) (hz : Below w.heap.size w Z) => hv.up hz)
  have HP1 := Lib.hid (fun (Z : World) (hz : Below w.heap.size w Z) => icb_any Z v l (hv.up hz) hx hn)
  have HP2 := Lib.hid (fun (Z : World) (hz : Below w.heap.size w Z) => ricb_any Z v l (hv.up hz) hx hn)
  have HA := Lib.hid (icparse_any w vb b hr (by omega))
  have HB := Lib.hid (fun (Z : World) (hz : Below w.heap.size w Z) => ricparse_any Z vb b (hr.up (Nat.le_refl _) hz) (by omega))
  have hcs : ∀ (L : List UInt8), ∃ S : ByteArray, ∀ (Z : World) (v : Value), Rd Z Z.heap.size v L → (convert 23 9 v).run Tryz.prog Z = .ok (.string S) Z := fun L => ⟨⟨L.toArray⟩, fun Z v h => run_str Tryz.underlying23 Tryz.underlying5 Tryz.isString h⟩
  obtain ⟨SL, hcl⟩ := hcs (ordsB l l.length)
  obtain ⟨SB, hcb⟩ := hcs b
  have HCL := Lib.hid hcl
  have HCB := Lib.hid hcb
  have hSL : (SL.toList == SL.toList) = true := beq_self_eq_true _
  have hSB : (SB.toList == SB.toList) = true := beq_self_eq_true _
  have HCS := Lib.hid hcase
  have HBK := Lib.hid (fun (h : (ordsR b).bad = 0 ∧ rEnd (ordsR b).rest (ordsR b).fault = 0) => orders_back h.1 h.2)
  have HFI := Lib.hid (ordsR_fit b)
  have HLE := Lib.hid (ordsR_len b)
  obtain ⟨Al, cl, rfl⟩ : ∃ A c, v = .slice A l.length c := by obtain ⟨A, c, h, _⟩ := hv; exact ⟨A, c, h⟩
  obtain ⟨Ab, cb, rfl⟩ := hr.form
  generalize ordsB l l.length = LB at *
  generalize l.length = nl at *
  obtain ⟨nb, hnb⟩ : ∃ n, n = b.length := ⟨_, rfl⟩
  rw [← hnb] at HRB0 HA HB ⊢
  clear hv hx hn hr hl hcs hcl hcb hcase hnb
  generalize (ordsR b).acc = acc at *
  go_enter Tryz.func3, Tryz.ntmps3
  go_wp2_with fail
  refine HA.out.mono ?_
  rintro e w1 ⟨hb1, ⟨-, -, ⟨v1, rfl, ho1⟩⟩ | ⟨h1, -⟩⟩
  rotate_left
  · exact absurd HCS.out h1
  have HB1 := Lib.hid (HB.out _ hb1)
  have HO1 := Lib.hid ho1
  obtain ⟨A1, c1, rfl⟩ := ho1.form
  obtain ⟨na, hna⟩ : ∃ n, n = acc.length := ⟨_, rfl⟩
  rw [← hna] at HO1 ⊢
  have HNA := Lib.hid hna
  clear ho1 hna HA HB
  go_wp2_with fail
  refine HB1.out.mono ?_
  rintro e w2 ⟨hb2, ⟨-, -, ⟨v2, rfl, ho2⟩⟩ | ⟨h1, -⟩⟩
  rotate_left
  · exact absurd HCS.out h1
  have HO2 := Lib.hid ho2
  obtain ⟨A2, c2, rfl⟩ := ho2.form
  rw [← HNA.out] at HO2 ⊢
  have hq2 := below_chain hb1 hb1.size hb2
  have HX2 := Lib.hid (HO1.out.below hb2)
  have HX1 : Hid (∀ Z, Below w2.heap.size w2 Z → Calls Tryz.prog 12 #[.slice A1 na c1] Z fun e w' => ∃ v', e = .returned v' ∧ Own w' Z.heap.size v' b ∧ Below Z.heap.size Z w') := Lib.hid fun Z hz => by
    have h := icb_any Z (.slice A1 na c1) acc (HX2.out.below hz).ords HFI.out (by have := HLE.out; omega)
    rw [← HBK.out HCS.out] at h
    exact h
  have HRB : Hid (∀ Z, Below w2.heap.size w2 Z → Rd Z Z.heap.size (.slice Ab nb cb) b) := Lib.hid fun Z hz => HRB0.out Z (below_chain hq2 hq2.size hz)
  replace HP1 : Hid (∀ Z, Below w2.heap.size w2 Z → Calls Tryz.prog 12 #[.slice Al nl cl] Z fun e w' => ∃ v', e = .returned v' ∧ Own w' Z.heap.size v' LB ∧ Below Z.heap.size Z w') := Lib.hid fun Z hz => HP1.out Z (below_chain hq2 hq2.size hz)
  replace HP2 : Hid (∀ Z, Below w2.heap.size w2 Z → Calls Tryz.prog 13 #[.slice Al nl cl] Z fun e w' => ∃ v', e = .returned v' ∧ Own w' Z.heap.size v' LB ∧ Below Z.heap.size Z w') := Lib.hid fun Z hz => HP2.out Z (below_chain hq2 hq2.size hz)
  have hbd : Below w2.heap.size w2 w2.drew := (Below.refl _ _).drew
  clear HB1 hb1 hb2
  go_wp2_with fail
  refine wp_region_held_drew (S := BelS w2.drew) (by kernel_rfl) (BelS.refl _) (fun hS0 => ?_)
  refine wpAnyH_ready (rs := [0]) (by kernel_rfl) (by simp) (AllReadyH.cons rfl (fun K hK => ?_) AllReadyH.nil)
  have DA := Lib.hid (icafixed_any w2.drew)
  go_simp
  go_wp2_with ((go_at_call 11; (with_reducible refine DA.out.mono ?_); rintro e wA ⟨rfl, hbA⟩))
  have hqA := below_chain hbd hbd.size hbA
  refine hK.out _ _ hbA (fun _ => ?_)
  clear hK K DA
  refine wpAnyH_stronger (S' := BelS wA) (fun W h => below_chain hbA hbA.size h) _ _ _ _ ?_
  have hSA : BelS wA wA := BelS.refl wA
  refine wpAnyH_take (i := 1) (oi := _) (v := ?_) rfl (by kernel_rfl) (by kernel_rfl) (by kernel_rfl) (fun _ _ _ h => h) (Or.inl ⟨by rfl, ?_⟩) hSA ?_
  rotate_left
  · intro W hSW
    try go_simp
    all_goals with_reducible rfl
  simp only [Act.put, List.setIfInBounds_toArray, List.set_cons_zero, List.set_cons_succ, List.getElem_toArray, List.getElem_cons_zero, List.getElem_cons_succ]
  refine wpAnyH_take (i := 2) (oi := _) (v := ?_) rfl (by kernel_rfl) (by kernel_rfl) (by kernel_rfl) (fun _ _ _ h => h) (Or.inl ⟨by rfl, ?_⟩) hSA ?_
  rotate_left
  · intro W hSW
    try go_simp
    all_goals with_reducible rfl
  simp only [Act.put, List.setIfInBounds_toArray, List.set_cons_zero, List.set_cons_succ, List.getElem_toArray, List.getElem_cons_zero, List.getElem_cons_succ]
  refine wpAnyH_take (i := 3) (oi := _) (v := ?_) rfl (by kernel_rfl) (by kernel_rfl) (by kernel_rfl) (fun _ _ _ h => h) (Or.inl ⟨by rfl, ?_⟩) hSA ?_
  rotate_left
  · intro W hSW
    try go_simp
    all_goals with_reducible rfl
  simp only [Act.put, List.setIfInBounds_toArray, List.set_cons_zero, List.set_cons_succ, List.getElem_toArray, List.getElem_cons_zero, List.getElem_cons_succ]
  refine wpAnyH_take (i := 4) (oi := _) (v := ?_) rfl (by kernel_rfl) (by kernel_rfl) (by kernel_rfl) (fun _ _ _ h => h) (Or.inl ⟨by rfl, ?_⟩) hSA ?_
  rotate_left
  · intro W hSW
    try go_simp
    all_goals with_reducible rfl
  simp only [Act.put, List.setIfInBounds_toArray, List.set_cons_zero, List.set_cons_succ, List.getElem_toArray, List.getElem_cons_zero, List.getElem_cons_succ]
  refine wpAnyH_take (i := 5) (oi := _) (v := ?_) rfl (by kernel_rfl) (by kernel_rfl) (by kernel_rfl) (fun _ _ _ h => h) (Or.inl ⟨by rfl, ?_⟩) hSA ?_
  rotate_left
  · intro W hSW
    try go_simp
    all_goals with_reducible rfl
  simp only [Act.put, List.setIfInBounds_toArray, List.set_cons_zero, List.set_cons_succ, List.getElem_toArray, List.getElem_cons_zero, List.getElem_cons_succ]
  refine wpAnyH_take (i := 6) (oi := _) (v := ?_) rfl (by kernel_rfl) (by kernel_rfl) (by kernel_rfl) (fun _ _ _ h => h) (Or.inl ⟨by rfl, ?_⟩) hSA ?_
  rotate_left
  · intro W hSW
    try go_simp
    all_goals with_reducible rfl
  simp only [Act.put, List.setIfInBounds_toArray, List.set_cons_zero, List.set_cons_succ, List.getElem_toArray, List.getElem_cons_zero, List.getElem_cons_succ]
  refine wpAnyH_take (i := 7) (oi := _) (v := ?_) rfl (by kernel_rfl) (by kernel_rfl) (by kernel_rfl) (fun _ _ _ h => h) (Or.inl ⟨by rfl, ?_⟩) hSA ?_
  rotate_left
  · intro W hSW
    try go_simp
    all_goals with_reducible rfl
  simp only [Act.put, List.setIfInBounds_toArray, List.set_cons_zero, List.set_cons_succ, List.getElem_toArray, List.getElem_cons_zero, List.getElem_cons_succ]
  refine wpAnyH_take (i := 8) (oi := _) (v := ?_) rfl (by kernel_rfl) (by kernel_rfl) (by kernel_rfl) (fun _ _ _ h => h) (Or.inl ⟨by rfl, ?_⟩) hSA ?_
  rotate_left
  · intro W hSW
    try go_simp
    all_goals with_reducible rfl
  simp only [Act.put, List.setIfInBounds_toArray, List.set_cons_zero, List.set_cons_succ, List.getElem_toArray, List.getElem_cons_zero, List.getElem_cons_succ]
  refine wpAnyH_take (i := 9) (oi := _) (v := ?_) rfl (by kernel_rfl) (by kernel_rfl) (by kernel_rfl) (fun _ _ _ h => h) (Or.inl ⟨by rfl, ?_⟩) hSA ?_
  rotate_left
  · intro W hSW
    try go_simp
    all_goals with_reducible rfl
  simp only [Act.put, List.setIfInBounds_toArray, List.set_cons_zero, List.set_cons_succ, List.getElem_toArray, List.getElem_cons_zero, List.getElem_cons_succ]
  refine wpAnyH_take (i := 10) (oi := _) (v := ?_) rfl (by kernel_rfl) (by kernel_rfl) (by kernel_rfl) (fun _ _ _ h => h) (Or.inl ⟨by rfl, ?_⟩) hSA ?_
  rotate_left
  · intro W hSW
    try go_simp
    all_goals with_reducible rfl
  simp only [Act.put, List.setIfInBounds_toArray, List.set_cons_zero, List.set_cons_succ, List.getElem_toArray, List.getElem_cons_zero, List.getElem_cons_succ]
  refine wpAnyH_take (i := 11) (oi := _) (v := ?_) rfl (by kernel_rfl) (by kernel_rfl) (by kernel_rfl) (fun _ _ _ h => h) (Or.inl ⟨by rfl, ?_⟩) hSA ?_
  rotate_left
  · intro W hSW
    try go_simp
    all_goals with_reducible rfl
  simp only [Act.put, List.setIfInBounds_toArray, List.set_cons_zero, List.set_cons_succ, List.getElem_toArray, List.getElem_cons_zero, List.getElem_cons_succ]
  refine wpAnyH_take (i := 12) (oi := _) (v := ?_) rfl (by kernel_rfl) (by kernel_rfl) (by kernel_rfl) (fun _ _ _ h => h) (Or.inl ⟨by rfl, ?_⟩) hSA ?_
  rotate_left
  · intro W hSW
    try go_simp
    all_goals with_reducible rfl
  simp only [Act.put, List.setIfInBounds_toArray, List.set_cons_zero, List.set_cons_succ, List.getElem_toArray, List.getElem_cons_zero, List.getElem_cons_succ]
  refine wpAnyH_take (i := 13) (oi := _) (v := ?_) rfl (by kernel_rfl) (by kernel_rfl) (by kernel_rfl) (fun _ _ _ h => h) (Or.inl ⟨by rfl, ?_⟩) hSA ?_
  rotate_left
  · intro W hSW
    try go_simp
    all_goals with_reducible rfl
  simp only [Act.put, List.setIfInBounds_toArray, List.set_cons_zero, List.set_cons_succ, List.getElem_toArray, List.getElem_cons_zero, List.getElem_cons_succ]
  refine wpAnyH_take (i := 14) (oi := _) (v := ?_) rfl (by kernel_rfl) (by kernel_rfl) (by kernel_rfl) (fun _ _ _ h => h) (Or.inl ⟨by rfl, ?_⟩) hSA ?_
  rotate_left
  · intro W hSW
    try go_simp
    all_goals with_reducible rfl
  simp only [Act.put, List.setIfInBounds_toArray, List.set_cons_zero, List.set_cons_succ, List.getElem_toArray, List.getElem_cons_zero, List.getElem_cons_succ]
  refine wpAnyH_take (i := 15) (oi := _) (v := ?_) rfl (by kernel_rfl) (by kernel_rfl) (by kernel_rfl) (fun _ _ _ h => h) (Or.inl ⟨by rfl, ?_⟩) hSA ?_
  rotate_left
  · intro W hSW
    try go_simp
    all_goals with_reducible rfl
  simp only [Act.put, List.setIfInBounds_toArray, List.set_cons_zero, List.set_cons_succ, List.getElem_toArray, List.getElem_cons_zero, List.getElem_cons_succ]
  refine wpAnyH_take (i := 18) (oi := _) (v := ?_) rfl (by kernel_rfl) (by kernel_rfl) (by kernel_rfl) (fun _ _ _ h => h) (Or.inl ⟨by rfl, ?_⟩) hSA ?_
  rotate_left
  · intro W hSW
    try go_simp
    all_goals with_reducible rfl
  simp only [Act.put, List.setIfInBounds_toArray, List.set_cons_zero, List.set_cons_succ, List.getElem_toArray, List.getElem_cons_zero, List.getElem_cons_succ]
  refine wpAnyH_ready (rs := [16]) (by kernel_rfl) (by simp) (AllReadyH.cons rfl (fun K hK => ?_) AllReadyH.nil)
  have DB := Lib.hid (HP1.out wA hqA)
  go_simp
  go_wp2_with ((go_at_call 12; (with_reducible refine DB.out.mono ?_); rintro e wB ⟨vB, rfl, hoB, hbB⟩))
  have hqB := below_chain hqA hqA.size hbB
  refine hK.out _ _ hbB (fun _ => ?_)
  clear hK K DB
  refine wpAnyH_stronger (S' := BelS wB) (fun W h => below_chain hbB hbB.size h) _ _ _ _ ?_
  have hSB : BelS wB wB := BelS.refl wB
  refine wpAnyH_take (i := 17) (oi := _) (v := ?_) rfl (by kernel_rfl) (by kernel_rfl) (by kernel_rfl) (fun _ _ _ h => h) (Or.inl ⟨by rfl, ?_⟩) hSB ?_
  rotate_left
  · intro W hSW
    have cv := HCL.out W _ (hoB.rd.up (Nat.le_refl _) hSW)
    try go_simp
    all_goals with_reducible rfl
  simp only [Act.put, List.setIfInBounds_toArray, List.set_cons_zero, List.set_cons_succ, List.getElem_toArray, List.getElem_cons_zero, List.getElem_cons_succ]
  refine wpAnyH_ready (rs := [19]) (by kernel_rfl) (by simp) (AllReadyH.cons rfl (fun K hK => ?_) AllReadyH.nil)
  have DC := Lib.hid (HP2.out wB hqB)
  go_simp
  go_wp2_with ((go_at_call 13; (with_reducible refine DC.out.mono ?_); rintro e wC ⟨vC, rfl, hoC, hbC⟩))
  have hqC := below_chain hqB hqB.size hbC
  refine hK.out _ _ hbC (fun _ => ?_)
  clear hK K DC
  refine wpAnyH_stronger (S' := BelS wC) (fun W h => below_chain hbC hbC.size h) _ _ _ _ ?_
  have hSC : BelS wC wC := BelS.refl wC
  refine wpAnyH_take (i := 20) (oi := _) (v := ?_) rfl (by kernel_rfl) (by kernel_rfl) (by kernel_rfl) (fun _ _ _ h => h) (Or.inl ⟨by rfl, ?_⟩) hSC ?_
  rotate_left
  · intro W hSW
    have cv := HCL.out W _ (hoC.rd.up (Nat.le_refl _) hSW)
    try go_simp
    all_goals with_reducible rfl
  simp only [Act.put, List.setIfInBounds_toArray, List.set_cons_zero, List.set_cons_succ, List.getElem_toArray, List.getElem_cons_zero, List.getElem_cons_succ]
  refine wpAnyH_take (i := 21) (oi := _) (v := ?_) rfl (by kernel_rfl) (by kernel_rfl) (by kernel_rfl) (fun _ _ _ h => h) (Or.inl ⟨by rfl, ?_⟩) hSC ?_
  rotate_left
  · intro W hSW
    try go_simp
    all_goals with_reducible rfl
  simp only [Act.put, List.setIfInBounds_toArray, List.set_cons_zero, List.set_cons_succ, List.getElem_toArray, List.getElem_cons_zero, List.getElem_cons_succ]
  refine wpAnyH_take (i := 22) (oi := _) (v := ?_) rfl (by kernel_rfl) (by kernel_rfl) (by kernel_rfl) (fun _ _ _ h => h) (Or.inl ⟨by rfl, ?_⟩) hSC ?_
  rotate_left
  · intro W hSW
    try go_simp
    all_goals with_reducible rfl
  simp only [Act.put, List.setIfInBounds_toArray, List.set_cons_zero, List.set_cons_succ, List.getElem_toArray, List.getElem_cons_zero, List.getElem_cons_succ]
  refine wpAnyH_take (i := 23) (oi := _) (v := ?_) rfl (by kernel_rfl) (by kernel_rfl) (by kernel_rfl) (fun _ _ _ h => h) (Or.inl ⟨by rfl, ?_⟩) hSC ?_
  rotate_left
  · intro W hSW
    try go_simp
    all_goals with_reducible rfl
  simp only [Act.put, List.setIfInBounds_toArray, List.set_cons_zero, List.set_cons_succ, List.getElem_toArray, List.getElem_cons_zero, List.getElem_cons_succ]
  refine wpAnyH_take (i := 24) (oi := _) (v := ?_) rfl (by kernel_rfl) (by kernel_rfl) (by kernel_rfl) (fun _ _ _ h => h) (Or.inl ⟨by rfl, ?_⟩) hSC ?_
  rotate_left
  · intro W hSW
    try go_simp
    all_goals with_reducible rfl
  simp only [Act.put, List.setIfInBounds_toArray, List.set_cons_zero, List.set_cons_succ, List.getElem_toArray, List.getElem_cons_zero, List.getElem_cons_succ]
  refine wpAnyH_take (i := 25) (oi := _) (v := ?_) rfl (by kernel_rfl) (by kernel_rfl) (by kernel_rfl) (fun _ _ _ h => h) (Or.inl ⟨by rfl, ?_⟩) hSC ?_
  rotate_left
  · intro W hSW
    try go_simp
    all_goals with_reducible rfl
  simp only [Act.put, List.setIfInBounds_toArray, List.set_cons_zero, List.set_cons_succ, List.getElem_toArray, List.getElem_cons_zero, List.getElem_cons_succ]
  refine wpAnyH_take (i := 26) (oi := _) (v := ?_) rfl (by kernel_rfl) (by kernel_rfl) (by kernel_rfl) (fun _ _ _ h => h) (Or.inl ⟨by rfl, ?_⟩) hSC ?_
  rotate_left
  · intro W hSW
    try go_simp
    all_goals with_reducible rfl
  simp only [Act.put, List.setIfInBounds_toArray, List.set_cons_zero, List.set_cons_succ, List.getElem_toArray, List.getElem_cons_zero, List.getElem_cons_succ]
  refine wpAnyH_take (i := 27) (oi := _) (v := ?_) rfl (by kernel_rfl) (by kernel_rfl) (by kernel_rfl) (fun _ _ _ h => h) (Or.inl ⟨by rfl, ?_⟩) hSC ?_
  rotate_left
  · intro W hSW
    try go_simp
    all_goals with_reducible rfl
  simp only [Act.put, List.setIfInBounds_toArray, List.set_cons_zero, List.set_cons_succ, List.getElem_toArray, List.getElem_cons_zero, List.getElem_cons_succ]
  refine wpAnyH_take (i := 30) (oi := _) (v := ?_) rfl (by kernel_rfl) (by kernel_rfl) (by kernel_rfl) (fun _ _ _ h => h) (Or.inl ⟨by rfl, ?_⟩) hSC ?_
  rotate_left
  · intro W hSW
    try go_simp
    all_goals with_reducible rfl
  simp only [Act.put, List.setIfInBounds_toArray, List.set_cons_zero, List.set_cons_succ, List.getElem_toArray, List.getElem_cons_zero, List.getElem_cons_succ]
  refine wpAnyH_take (i := 31) (oi := _) (v := ?_) rfl (by kernel_rfl) (by kernel_rfl) (by kernel_rfl) (fun _ _ _ h => h) (Or.inl ⟨by rfl, ?_⟩) hSC ?_
  rotate_left
  · intro W hSW
    have cv := HCB.out W _ (HRB.out W (below_chain hqC hqC.size hSW))
    try go_simp
    all_goals with_reducible rfl
  simp only [Act.put, List.setIfInBounds_toArray, List.set_cons_zero, List.set_cons_succ, List.getElem_toArray, List.getElem_cons_zero, List.getElem_cons_succ]
  refine wpAnyH_ready (rs := [28]) (by kernel_rfl) (by simp) (AllReadyH.cons rfl (fun K hK => ?_) AllReadyH.nil)
  have DD := Lib.hid (HX1.out wC hqC)
  go_simp
  go_wp2_with ((go_at_call 12; (with_reducible refine DD.out.mono ?_); rintro e wD ⟨vD, rfl, hoD, hbD⟩))
  have hqD := below_chain hqC hqC.size hbD
  refine hK.out _ _ hbD (fun _ => ?_)
  clear hK K DD
  refine wpAnyH_stronger (S' := BelS wD) (fun W h => below_chain hbD hbD.size h) _ _ _ _ ?_
  have hSD : BelS wD wD := BelS.refl wD
  refine wpAnyH_take (i := 29) (oi := _) (v := ?_) rfl (by kernel_rfl) (by kernel_rfl) (by kernel_rfl) (fun _ _ _ h => h) (Or.inl ⟨by rfl, ?_⟩) hSD ?_
  rotate_left
  · intro W hSW
    have cv := HCB.out W _ (hoD.rd.up (Nat.le_refl _) hSW)
    try go_simp
    all_goals with_reducible rfl
  simp only [Act.put, List.setIfInBounds_toArray, List.set_cons_zero, List.set_cons_succ, List.getElem_toArray, List.getElem_cons_zero, List.getElem_cons_succ]
  refine wpAnyH_take (i := 32) (oi := _) (v := ?_) rfl (by kernel_rfl) (by kernel_rfl) (by kernel_rfl) (fun _ _ _ h => h) (Or.inl ⟨by rfl, ?_⟩) hSD ?_
  rotate_left
  · intro W hSW
    try go_simp
    all_goals with_reducible rfl
  simp only [Act.put, List.setIfInBounds_toArray, List.set_cons_zero, List.set_cons_succ, List.getElem_toArray, List.getElem_cons_zero, List.getElem_cons_succ]
  refine wpAnyH_take (i := 33) (oi := _) (v := ?_) rfl (by kernel_rfl) (by kernel_rfl) (by kernel_rfl) (fun _ _ _ h => h) (Or.inl ⟨by rfl, ?_⟩) hSD ?_
  rotate_left
  · intro W hSW
    try go_simp
    all_goals with_reducible rfl
  simp only [Act.put, List.setIfInBounds_toArray, List.set_cons_zero, List.set_cons_succ, List.getElem_toArray, List.getElem_cons_zero, List.getElem_cons_succ]
  refine wpAnyH_take (i := 34) (oi := _) (v := ?_) rfl (by kernel_rfl) (by kernel_rfl) (by kernel_rfl) (fun _ _ _ h => h) (Or.inl ⟨by rfl, ?_⟩) hSD ?_
  rotate_left
  · intro W hSW
    try go_simp
    all_goals with_reducible rfl
  simp only [Act.put, List.setIfInBounds_toArray, List.set_cons_zero, List.set_cons_succ, List.getElem_toArray, List.getElem_cons_zero, List.getElem_cons_succ]
  refine wpAnyH_done (by kernel_rfl) ?_ _
  have hqf := below_chain hq2 hq2.size hqD
  have HX3 := Lib.hid (HX2.out.below hqD)
  have HY3 := Lib.hid (HO2.out.below hqD)
  clear HP1 HP2 HX1 HX2 HO1 HO2
  go_wp2_with fail
  go_loopw [57] (fun i W => ∃ j : Nat, j ≤ na ∧ i = .int .i64 (j : Int) ∧ Below wD.heap.size wD W) (fun i _ => na - (intOf i).toNat)
  case atStart => exact ⟨0, by omega, rfl, Below.refl _ _⟩
  case round => as_aux_lemma =>
    rename World => W
    obtain ⟨j, hj, rfl, hbW⟩ := hrel
    have HBW := Lib.hid (below_chain hqf hqf.size hbW)
    by_cases hlt : j < na
    · have i1 : (0 : Int) ≤ (j : Int) := by omega
      have i2 : (j : Int) < (na : Int) := by omega
      have hjl : j < acc.length := by have := HNA.out; omega
      obtain ⟨g1, rfl, -, hc1⟩ := (HX3.out.below hbW).at_ j hjl
      obtain ⟨g2, rfl, -, hc2⟩ := (HY3.out.below hbW).at_ j hjl
      generalize acc[j] = op at *
      obtain ⟨ot, od, ox⟩ := op
      have e0 : W.cell? ⟨g1, j * 6, none⟩ = some (.string ot) := hc1 0 _ rfl
      have e1 : W.cell? ⟨g1, j * 6 + 1, none⟩ = some (.string od) := hc1 1 _ rfl
      have e2 : W.cell? ⟨g1, j * 6 + 2, none⟩ = some (.int .u64 (ox.a : Int)) := hc1 2 _ rfl
      have e3 : W.cell? ⟨g1, j * 6 + 3, none⟩ = some (.int .u64 (ox.b : Int)) := hc1 3 _ rfl
      have e4 : W.cell? ⟨g1, j * 6 + 4, none⟩ = some (.int .u64 (ox.c : Int)) := hc1 4 _ rfl
      have e5 : W.cell? ⟨g1, j * 6 + 5, none⟩ = some (.int .u64 (ox.d : Int)) := hc1 5 _ rfl
      have k0 : W.cell? ⟨g2, j * 6, none⟩ = some (.string ot) := hc2 0 _ rfl
      have k1 : W.cell? ⟨g2, j * 6 + 1, none⟩ = some (.string od) := hc2 1 _ rfl
      have k2 : W.cell? ⟨g2, j * 6 + 2, none⟩ = some (.int .u64 (ox.a : Int)) := hc2 2 _ rfl
      have k3 : W.cell? ⟨g2, j * 6 + 3, none⟩ = some (.int .u64 (ox.b : Int)) := hc2 3 _ rfl
      have k4 : W.cell? ⟨g2, j * 6 + 4, none⟩ = some (.int .u64 (ox.c : Int)) := hc2 4 _ rfl
      have k5 : W.cell? ⟨g2, j * 6 + 5, none⟩ = some (.int .u64 (ox.d : Int)) := hc2 5 _ rfl
      have hne := fun Z => ord_eqIn ⟨ot, od, ox⟩ Z
      unfold OrdV.cells at hne
      dsimp only at hne
      have hn8 : na ≤ 8 := by have := HLE.out; have := HNA.out; omega
      clear hc1 hc2
      go_wp2_with fail
      go_quiet (fail)
      go_wp2_with fail
      exact ⟨⟨j + 1, by omega, by go_num, below_drewN' hbW _⟩, by simp [intOf]; omega⟩
    · have hjn : j = na := by omega
      have i2 : ¬ (j : Int) < (na : Int) := by omega
      subst hjn
      go_wp2_with fail
      go_ret
      exact ⟨rfl, HBW.out⟩
theorem icabytes_law (w : World) (v : Value) (l : List OrdV) (hv : OrdsAt w v l) (hx : ∀ o ∈ l, o.x.ok ∧ o.t.size ≤ maxLen ∧ o.d.size ≤ maxLen) (hn : l.length ≤ 1048576) (vb : Value) (b : List UInt8) (hr : Rd w w.heap.size vb b) (hl : b.length ≤ 10000000) :
    Calls Tryz.prog 3 #[v, vb] w fun e w' => e = .returned (.bool true) ∧ Below w.heap.size w w' := by
  by_cases h : (ordsR b).bad = 0 ∧ rEnd (ordsR b).rest (ordsR b).fault = 0
  · exact icab_yes w v l hv hx hn vb b hr hl h
  · exact icab_no w v l hv hx hn vb b hr hl h
end Go.Proofs.YtlkbjhhbpmmamaaGreatDoor
