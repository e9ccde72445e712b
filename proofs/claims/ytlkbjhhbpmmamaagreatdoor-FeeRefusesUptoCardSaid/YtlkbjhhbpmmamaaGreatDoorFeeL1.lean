
/- The law: a call that is refused changes nothing; no call makes any money; a packet is settled once. -/
import Derived.Test.YtlkbjhhbpmmamaaGreatDoorFeeX0
import Derived.Test.YtlkbjhhbpmmamaaGreatDoorBankH0
import Derived.Test.YtlkbjhhbpmmamaaGreatDoorHeldBy
import Derived.Deep.MidRow
namespace Go.Proofs.YtlkbjhhbpmmamaaGreatDoor
set_option maxRecDepth 100000
open Go Go.RowKit
set_option linter.unusedVariables false

theorem below_setCells {B : Nat} {w w' : World} {b : Nat} (h : Below B w w') (hb : B ≤ b) : ∀ (vs : List Value) (o : Nat), Below B w (w'.setCells b o vs)
  | [], o => h
  | v :: vs, o => below_setCells (h.setCell (p := ⟨b, o, none⟩) hb v) hb vs (o + 1)
theorem range_cell {w : World} {b : Nat} {L : List Value} (h : w.rangeAt b 0 L) (i : Nat) (u : Value) (e : L[i]? = some u) : w.cell? ⟨b, i, none⟩ = some u := by
  have := h i u e
  simpa using this
theorem pdO_eq2 (o : Option PdV) : pdO o = .tuple #[(o.getD PdV.none).val, .bool o.isSome] := by cases o <;> rfl
structure FRI (w1 : World) (y : Lyr) (j : Nat) (Z : World) : Prop where
  ex : ∃ R, At w1 y [] R (7 * j) Z
set_option maxHeartbeats 64000000 in
theorem frefuses_law (w : World) (v0 : Value) (ps : List Pr) (hps : RdP w w.heap.size v0 ps) (hnl : ∀ p ∈ ps, p.1.size ≤ maxLen) (hlen : ps.length ≤ 2000000)
    (v1 : Value) (fs : List FOp) (hfs : RdFO w v1 fs) (hfl : fs.length ≤ 2000000) (hfo : ∀ f ∈ fs, f.fine)
    (fr0 : TypeId × Nat × Nat) (hk : w.heap[2]? = some (.cells kVals fr0.1 fr0.2)) :
    Calls Tryz.prog 5 #[v0, v1] w fun e w' => e = .returned (.bool true) ∧ Below w.heap.size w w' := by
  have HN := Lib.hid (new_any w v0 ps hps hnl)
  have HNL := Lib.hid hnl
  have HLE := Lib.hid (And.intro hlen hfl)
  have HFO := Lib.hid hfo
  have HF0 := Lib.hid (fun (Z : World) (hz : Kept w Z) => hfs.kept hz)
  have HT0 := Lib.hid (fun (Z : World) (hz : Kept w Z) => hz.blockX hk)
  obtain ⟨A0, c0, rfl⟩ : ∃ A c, v0 = .slice A ps.length c := by obtain ⟨A, c, h, _⟩ := hps; exact ⟨A, c, h⟩
  obtain ⟨A1, c1, rfl⟩ : ∃ A c, v1 = .slice A fs.length c := by obtain ⟨A, c, h, _⟩ := hfs; exact ⟨A, c, h⟩
  obtain ⟨nf, hnf⟩ : ∃ n, n = fs.length := ⟨_, rfl⟩
  rw [← hnf] at HF0 ⊢
  have HNF := Lib.hid hnf
  clear hps hnl hlen hfs hfl hfo hk hnf
  go_enter Tryz.func5, Tryz.ntmps5
  go_wp2_with fail
  refine HN.out.mono ?_
  rintro e w1 ⟨⟨-, rfl⟩ | ⟨-, y, rfl, hyb, hym, hyn, hly, hri, hp1⟩, hb1⟩
  · clear HN
    go_wp2_with fail
    refine (ffixed_any _).mono ?_
    rintro e w2 ⟨rfl, hb2⟩
    have hq2 := below_chain hb1 hb1.size hb2
    go_wp2_with fail
    refine (ffixed_any _).mono ?_
    rintro e w3 ⟨rfl, hb3⟩
    have hq3 := below_chain hq2 hq2.size hb3
    go_wp2_with fail
    go_ret
    exact ⟨rfl, hq3⟩
  · have A1' := At.made hp1 hly hri HNL.out
    have HYN := Lib.hid (show y.n = ps.length from hyn)
    have HYM := Lib.hid hym
    have HB1 := Lib.hid hb1
    obtain ⟨yb, ym, yn, yf⟩ := y
    clear hyb hym hyn hly hri hp1 HN hb1
    dsimp only at HYN HYM ⊢
    go_wp2_with fail
    refine (ffixed_any _).mono ?_
    rintro e w2 ⟨rfl, hb2⟩
    have A2 := A1'.up hb2
    clear A1' hb2
    have HA2 : Hid (FRI w1 ⟨yb, ym, yn, yf⟩ 0 w2) := Lib.hid ⟨_, A2⟩
    clear A2
    go_wp2_with fail
    go_loopw [37] (fun i Z => ∃ j : Nat, j ≤ nf ∧ i = .int .i64 (j : Int) ∧ FRI w1 ⟨yb, ym, yn, yf⟩ j Z)
      (fun i _ => nf - (intOf i).toNat)
    case atStart => exact ⟨0, by omega, rfl, HA2.out⟩
    case round => as_aux_lemma =>
      clear HA2
      obtain ⟨j, hj, rfl, HX0⟩ := hrel
      obtain ⟨R, AR⟩ := HX0.ex
      clear HX0
      have hkr := (Kept.of_belowX HB1.out).transX AR.kept
      by_cases hlt : j < nf
      · have hjl : j < fs.length := by have := HNF.out; omega
        have hj9 : nf ≤ 2000000 := by have := HNF.out; have := HLE.out.2; omega
        have HJ : Hid (yn + 7 * (j + 1) ≤ 1000000000 ∧ 7 * j + 7 = 7 * (j + 1)) := Lib.hid (by have := HYN.out; have := HLE.out.1; omega)
        have HTB := Lib.hid (fun (Z : World) (hz : Kept wr Z) => HT0.out _ (hkr.transX hz))
        obtain ⟨A', c', e', hcell⟩ := HF0.out _ hkr
        obtain ⟨g, o, hA', -, hcl⟩ := hcell (by omega)
        injection e' with e1 e2 e3
        subst e1 e3
        subst hA'
        have hck := hcl j hjl
        have hfine := HFO.out _ (List.getElem_mem hjl)
        generalize fs[j] = op at *
        obtain ⟨kd, fr, by_, id, seq, dn, x, y2, z, late⟩ := op
        obtain ⟨f1, f2, f3, f4, f5, f6, f7, f8⟩ := hfine
        dsimp only at f1 f2 f3 f4 f5 f6 f7 f8
        have HFF := Lib.hid (And.intro f1 (And.intro f2 (And.intro f3 (And.intro f4 (And.intro f5 (And.intro f6 (And.intro f7 f8)))))))
        obtain ⟨OPL, hOPL⟩ : ∃ L : List Value, L = [.int .i64 kd, .string fr, .string by_, .string id, .int .u64 (seq : Int), .string dn, .int .u64 (x.a : Int), .int .u64 (x.b : Int), .int .u64 (x.c : Int), .int .u64 (x.d : Int), .int .u64 (y2.a : Int), .int .u64 (y2.b : Int), .int .u64 (y2.c : Int), .int .u64 (y2.d : Int), .int .u64 (z.a : Int), .int .u64 (z.b : Int), .int .u64 (z.c : Int), .int .u64 (z.d : Int), .bool late] := ⟨_, rfl⟩
        have hrng : wr.rangeAt g (o + j * 19) OPL := fun i u hu => by
          rw [hOPL] at hu
          have hi : i < 19 := by
            have := (List.getElem?_eq_some_iff.1 hu).1
            simpa using this
          exact hck i u hi (by simpa [FOp.cells] using hu)
        have hinf : (Tryz.prog.info? 44).map (·.size) = some OPL.length := by rw [hOPL]; kernel_rfl
        have hone : OPL.toArray.all (·.oneCell') = true := by rw [hOPL]; simp [Value.oneCell']
        have hsz19 : OPL.length = 19 := by rw [hOPL]; rfl
        have hbz := heap_alloc_new wr (.cells #[.int .i64 0, .string ⟨#[]⟩, .string ⟨#[]⟩, .string ⟨#[]⟩, .int .u64 0, .string ⟨#[]⟩, .int .u64 0, .int .u64 0, .int .u64 0, .int .u64 0, .int .u64 0, .int .u64 0, .int .u64 0, .int .u64 0, .int .u64 0, .int .u64 0, .int .u64 0, .int .u64 0, .bool false] 44)
        have hth : (wr.alloc (.cells #[.int .i64 0, .string ⟨#[]⟩, .string ⟨#[]⟩, .string ⟨#[]⟩, .int .u64 0, .string ⟨#[]⟩, .int .u64 0, .int .u64 0, .int .u64 0, .int .u64 0, .int .u64 0, .int .u64 0, .int .u64 0, .int .u64 0, .int .u64 0, .int .u64 0, .int .u64 0, .int .u64 0, .bool false] 44)).there wr.heap.size 0 OPL.toArray.size := fun q hq => by
          have h19 : q < 19 := by simpa [hsz19] using hq
          rw [Nat.zero_add]
          refine ⟨?_, blk_free hbz q⟩
          rw [blk_cell hbz q]
          simpa using h19
        have hbx := World.rangeAt_setCells_same (wr.alloc (.cells #[.int .i64 0, .string ⟨#[]⟩, .string ⟨#[]⟩, .string ⟨#[]⟩, .int .u64 0, .string ⟨#[]⟩, .int .u64 0, .int .u64 0, .int .u64 0, .int .u64 0, .int .u64 0, .int .u64 0, .int .u64 0, .int .u64 0, .int .u64 0, .int .u64 0, .int .u64 0, .int .u64 0, .bool false] 44)) wr.heap.size 0 OPL (by simpa using hth)
        have ha0 : Below wr.heap.size wr ((wr.alloc (.cells #[.int .i64 0, .string ⟨#[]⟩, .string ⟨#[]⟩, .string ⟨#[]⟩, .int .u64 0, .string ⟨#[]⟩, .int .u64 0, .int .u64 0, .int .u64 0, .int .u64 0, .int .u64 0, .int .u64 0, .int .u64 0, .int .u64 0, .int .u64 0, .int .u64 0, .int .u64 0, .int .u64 0, .bool false] 44)).setCells wr.heap.size 0 OPL) := below_setCells ((Below.refl _ _).alloc (Nat.le_refl _) _) (Nat.le_refl _) OPL 0
        have HOPL := Lib.hid hOPL
        have HINF := Lib.hid hinf
        have HONE := Lib.hid hone
        have HTH := Lib.hid hth
        have HRNG := Lib.hid hrng
        have i1 : (0 : Int) ≤ (j : Int) := by omega
        have i2 : (j : Int) < (nf : Int) := by omega
        have AR0 := AR.up ha0
        have hk0 := Kept.of_belowX ha0
        have HTB0 := Lib.hid (fun (Z : World) (hz : Kept ((wr.alloc (.cells #[.int .i64 0, .string ⟨#[]⟩, .string ⟨#[]⟩, .string ⟨#[]⟩, .int .u64 0, .string ⟨#[]⟩, .int .u64 0, .int .u64 0, .int .u64 0, .int .u64 0, .int .u64 0, .int .u64 0, .int .u64 0, .int .u64 0, .int .u64 0, .int .u64 0, .int .u64 0, .int .u64 0, .bool false] 44)).setCells wr.heap.size 0 OPL) Z) => HTB.out _ (hk0.transX hz))
        have HBX0 := Lib.hid hbx
        have HAR0 := Lib.hid AR0
        have HA00 := Lib.hid ha0
        clear hcell hcl hck e2 AR hkr f1 f2 f3 f4 f5 f6 f7 f8 HTB hk0 hOPL hinf hone hsz19 hth hrng hbz hbx AR0 ha0
        go_wp2_with (first
          | (with_reducible refine at_load 44 ?_; refine wpList_load_mid rfl 44 (.tmp 39) rfl g (o + j * 19) rfl OPL _ HRNG.out Tryz.underlying44 rfl HINF.out ?_)
          | (with_reducible refine at_store 44 ?_; refine wpList_store_mid rfl 44 (.tmp 8) (.tmp 40) rfl wr.heap.size 0 OPL.toArray rfl rfl HTH.out (by have := HINF.out; simpa using this) HONE.out ?_))
        have hbx := HBX0.out
        have AR0 := HAR0.out
        have ha0 := HA00.out
        clear HBX0 HAR0 HA00 HTH
        try simp only [List.toList_toArray]
        generalize (wr.alloc (.cells #[.int .i64 0, .string ⟨#[]⟩, .string ⟨#[]⟩, .string ⟨#[]⟩, .int .u64 0, .string ⟨#[]⟩, .int .u64 0, .int .u64 0, .int .u64 0, .int .u64 0, .int .u64 0, .int .u64 0, .int .u64 0, .int .u64 0, .int .u64 0, .int .u64 0, .int .u64 0, .int .u64 0, .bool false] 44)).setCells wr.heap.size 0 OPL = w0 at *
        have HTB := HTB0
        clear HTB0
        have HRT := Lib.hid (fun (Z : World) (hz : Below w0.heap.size w0 Z) => (Acc.mk (AR0.up hz).b (AR0.up hz).p).root (show yn + 7 * j ≤ 1000000000 by have := HJ.out; omega) fr0 (HTB.out _ (Kept.of_belowX hz)))
        have HPR := Lib.hid (fun (Z : World) (hz : Below w0.heap.size w0 Z) => (Acc.mk (AR0.up hz).b (AR0.up hz).p).pairs (show yn + 7 * j ≤ 1000000000 by have := HJ.out; omega) supP (by decide +kernel))
        obtain ⟨SP, hSP⟩ : ∃ SP, SP = R.filter (fun p => begB supP p.1) := ⟨_, rfl⟩
        rw [← hSP] at HPR
        have HSP := Lib.hid hSP
        clear hSP
        unfold supP at HPR
        obtain ⟨SR, hcr⟩ : ∃ S : ByteArray, ∀ (Z : World) (v : Value), Rd Z Z.heap.size v (rootM R).1 → (convert 23 9 v).run Tryz.prog Z = .ok (.string S) Z := ⟨⟨(rootM R).1.toArray⟩, fun Z v h => run_str Tryz.underlying23 Tryz.underlying5 Tryz.isString h⟩
        have HCR := Lib.hid hcr
        have hss : (SR.toList == SR.toList) = true := beq_self_eq_true _
        clear hcr
        have hbd : Below w0.heap.size w0 w0.drew := (Below.refl _ _).drew
        have HBX := Lib.hid hbx
        have HA0 := Lib.hid AR0
        have HHA := Lib.hid ha0
        clear hbx AR0 ha0
        go_wp2_with fail
        refine wp_region_held_drew (S := BelS w0.drew) (by kernel_rfl) (BelS.refl _) (fun hS0 => ?_)
        refine wpAnyH_take (i := 0) (oi := _) (v := ?_) rfl (by kernel_rfl) (by kernel_rfl) (by kernel_rfl) (fun _ _ _ h => h) (Or.inl ⟨by rfl, ?_⟩) hS0 ?_
        rotate_left
        · intro W hSW
          try go_simp
          all_goals with_reducible rfl
        simp only [Act.put, List.setIfInBounds_toArray, List.set_cons_zero, List.set_cons_succ, List.getElem_toArray, List.getElem_cons_zero, List.getElem_cons_succ]
        refine wpAnyH_take (i := 3) (oi := _) (v := ?_) rfl (by kernel_rfl) (by kernel_rfl) (by kernel_rfl) (fun _ _ _ h => h) (Or.inl ⟨by rfl, ?_⟩) hS0 ?_
        rotate_left
        · intro W hSW
          try go_simp
          all_goals with_reducible rfl
        simp only [Act.put, List.setIfInBounds_toArray, List.set_cons_zero, List.set_cons_succ, List.getElem_toArray, List.getElem_cons_zero, List.getElem_cons_succ]
        refine wpAnyH_ready (rs := [1]) (by kernel_rfl) (by simp) (AllReadyH.cons rfl (fun K hK => ?_) AllReadyH.nil)
        have DA := Lib.hid (HRT.out w0.drew hbd)
        go_simp
        go_wp2_with ((go_at_call 17; (with_reducible refine DA.out.mono ?_); rintro e wA ⟨vA, rfl, hoA, hbA⟩))
        have hqA := below_chain hbd hbd.size hbA
        refine hK.out _ _ hbA (fun _ => ?_)
        clear hK K DA
        refine wpAnyH_stronger (S' := BelS wA) (fun W h => below_chain hbA hbA.size h) _ _ _ _ ?_
        have hSA : BelS wA wA := BelS.refl wA
        refine wpAnyH_take (i := 2) (oi := _) (v := ?_) rfl (by kernel_rfl) (by kernel_rfl) (by kernel_rfl) (fun _ _ _ h => h) (Or.inl ⟨by rfl, ?_⟩) hSA ?_
        rotate_left
        · intro W hSW
          have cv := HCR.out W _ (hoA.rd.up (Nat.le_refl _) hSW)
          try go_simp
          all_goals with_reducible rfl
        simp only [Act.put, List.setIfInBounds_toArray, List.set_cons_zero, List.set_cons_succ, List.getElem_toArray, List.getElem_cons_zero, List.getElem_cons_succ]
        refine wpAnyH_ready (rs := [4]) (by kernel_rfl) (by simp) (AllReadyH.cons rfl (fun K hK => ?_) AllReadyH.nil)
        have DB := Lib.hid (HPR.out wA hqA)
        go_simp
        go_wp2_with ((go_at_call 16; (with_reducible refine DB.out.mono ?_); rintro e wB ⟨vB, rfl, hoB, hbB⟩))
        have hqB := below_chain hqA hqA.size hbB
        refine hK.out _ _ hbB (fun _ => ?_)
        clear hK K DB
        refine wpAnyH_stronger (S' := BelS wB) (fun W h => below_chain hbB hbB.size h) _ _ _ _ ?_
        have hSB : BelS wB wB := BelS.refl wB
        refine wpAnyH_take (i := 5) (oi := _) (v := ?_) rfl (by kernel_rfl) (by kernel_rfl) (by kernel_rfl) (fun _ _ _ h => h) (Or.inl ⟨by rfl, ?_⟩) hSB ?_
        rotate_left
        · intro W hSW
          try go_simp
          all_goals with_reducible rfl
        simp only [Act.put, List.setIfInBounds_toArray, List.set_cons_zero, List.set_cons_succ, List.getElem_toArray, List.getElem_cons_zero, List.getElem_cons_succ]
        refine wpAnyH_take (i := 6) (oi := _) (v := ?_) rfl (by kernel_rfl) (by kernel_rfl) (by kernel_rfl) (fun _ _ _ h => h) (Or.inl ⟨by rfl, ?_⟩) hSB ?_
        rotate_left
        · intro W hSW
          try go_simp
          all_goals with_reducible rfl
        simp only [Act.put, List.setIfInBounds_toArray, List.set_cons_zero, List.set_cons_succ, List.getElem_toArray, List.getElem_cons_zero, List.getElem_cons_succ]
        refine wpAnyH_done (by kernel_rfl) ?_ _
        have hqB2 := hqB
        obtain ⟨AB, cB, rfl⟩ := hoB.form
        obtain ⟨nB, hnB⟩ : ∃ n, n = SP.length := ⟨_, rfl⟩
        have HOB0 := Lib.hid hoB.rdP
        rw [← hnB] at HOB0 ⊢
        have A5 := HA0.out.up hqB2
        have hkB := Kept.of_belowX hqB2
        have HKB0 := Lib.hid hkB
        have HTB5 := Lib.hid (fun (Z : World) (hz : Kept wB Z) => HTB.out _ (hkB.transX hz))
        have hpk := heap_alloc_new wB (.cells #[.string id, .string ⟨#[]⟩, .int .u64 (seq : Int), .slice none 0 0, .int .u64 0, .int .u64 0] 49)
        have hap : Below wB.heap.size wB (wB.alloc (.cells #[.string id, .string ⟨#[]⟩, .int .u64 (seq : Int), .slice none 0 0, .int .u64 0, .int .u64 0] 49)) := (Below.refl _ _).alloc (Nat.le_refl _) _
        have A6 := A5.up hap
        have hb6 : ∀ i u, OPL[i]? = some u → (wB.alloc (.cells #[.string id, .string ⟨#[]⟩, .int .u64 (seq : Int), .slice none 0 0, .int .u64 0, .int .u64 0] 49)).cell? ⟨wr.heap.size, i, none⟩ = some u := fun i u e => (Kept.of_belowX hap).cell (hkB.cell (range_cell HBX.out i u e))
        have HOB : Hid (RdP (wB.alloc (.cells #[.string id, .string ⟨#[]⟩, .int .u64 (seq : Int), .slice none 0 0, .int .u64 0, .int .u64 0] 49)) (wB.alloc (.cells #[.string id, .string ⟨#[]⟩, .int .u64 (seq : Int), .slice none 0 0, .int .u64 0, .int .u64 0] 49)).heap.size (.slice AB nB cB) SP) := Lib.hid (HOB0.out.kept (Kept.of_belowX hap))
        have HTB6 := Lib.hid (fun (Z : World) (hz : Kept (wB.alloc (.cells #[.string id, .string ⟨#[]⟩, .int .u64 (seq : Int), .slice none 0 0, .int .u64 0, .int .u64 0] 49)) Z) => HTB5.out _ ((Kept.of_belowX hap).transX hz))
        have b0 := hb6 0 (.int .i64 kd) (by rw [HOPL.out]; rfl)
        have b1 := hb6 1 (.string fr) (by rw [HOPL.out]; rfl)
        have b2 := hb6 2 (.string by_) (by rw [HOPL.out]; rfl)
        have b3 := hb6 3 (.string id) (by rw [HOPL.out]; rfl)
        have b4 := hb6 4 (.int .u64 (seq : Int)) (by rw [HOPL.out]; rfl)
        have b5 := hb6 5 (.string dn) (by rw [HOPL.out]; rfl)
        have b6 := hb6 6 (.int .u64 (x.a : Int)) (by rw [HOPL.out]; rfl)
        have b7 := hb6 7 (.int .u64 (x.b : Int)) (by rw [HOPL.out]; rfl)
        have b8 := hb6 8 (.int .u64 (x.c : Int)) (by rw [HOPL.out]; rfl)
        have b9 := hb6 9 (.int .u64 (x.d : Int)) (by rw [HOPL.out]; rfl)
        have b10 := hb6 10 (.int .u64 (y2.a : Int)) (by rw [HOPL.out]; rfl)
        have b11 := hb6 11 (.int .u64 (y2.b : Int)) (by rw [HOPL.out]; rfl)
        have b12 := hb6 12 (.int .u64 (y2.c : Int)) (by rw [HOPL.out]; rfl)
        have b13 := hb6 13 (.int .u64 (y2.d : Int)) (by rw [HOPL.out]; rfl)
        have b14 := hb6 14 (.int .u64 (z.a : Int)) (by rw [HOPL.out]; rfl)
        have b15 := hb6 15 (.int .u64 (z.b : Int)) (by rw [HOPL.out]; rfl)
        have b16 := hb6 16 (.int .u64 (z.c : Int)) (by rw [HOPL.out]; rfl)
        have b17 := hb6 17 (.int .u64 (z.d : Int)) (by rw [HOPL.out]; rfl)
        have b18 := hb6 18 (.bool late) (by rw [HOPL.out]; rfl)
        have HB6 := Lib.hid hb6
        have HB3 : Hid (wB.cell? ⟨wr.heap.size, 3, none⟩ = some (.string id)) := Lib.hid (hkB.cell (range_cell HBX.out 3 _ (by rw [HOPL.out]; rfl)))
        have HB4 : Hid (wB.cell? ⟨wr.heap.size, 4, none⟩ = some (.int .u64 (seq : Int))) := Lib.hid (hkB.cell (range_cell HBX.out 4 _ (by rw [HOPL.out]; rfl)))
        have HP6 := Lib.hid hpk
        have HA6 := Lib.hid A6
        clear HTB HTB5 HKB0 HRT HPR HA0 HBX HHA hoA hbA hoB hbB hqA hqB hqB2 hSA hSB hS0 hbd A5 hkB hpk hap A6 hb6 HOB0 hnB
        have HRI : Hid (Rise R) := Lib.hid (by obtain ⟨n, f, h1, h2, h3, h4⟩ := HA6.out.b; exact h2.rise)
        obtain ⟨f1, f2, f3, f4, f5, f6, f7, f8⟩ := HFF.out
        have HAH := Lib.hid (fahead_any HA6.out (show yn + 7 * j + 3 ≤ maxLen by have := HJ.out; unfold maxLen; omega) fr id seq f4 dn x y2 z f1 f2 f3 f5 f7 f8)
        have HST := Lib.hid (fsettle_any HA6.out (show yn + 7 * j + 8 ≤ maxLen by have := HJ.out; unfold maxLen; omega) id ⟨#[]⟩ seq f4 none 0 0 0 0 fr by_ late f7 f5 f6)
        have HKC := Lib.hid (fun Z : World => pCommit_any id seq Z f4 f7)
        have hkp : (kPl wCommit id seq).size ≤ maxLen := by
          unfold kPl
          simp only [ByteArray.size_append]
          rw [show ibcS.size = 4 from rfl, show wCommit.size = 6 from rfl, show slB.size = 1 from rfl, hexN_size]
          unfold maxLen; omega
        have HKP := Lib.hid hkp
        have HS4 := Lib.hid f4
        have HS7 := Lib.hid f7
        have c3 := HB3.out
        have c4 := HB4.out
        clear f1 f2 f3 f4 f5 f6 f7 f8 HFF hkp HB3 HB4
        by_cases k1 : kd = 1
        · subst k1
          have HSF : Hid ((aheadM R id seq ⟨fr, dn, x, y2, z⟩).2.filter (fun p => begB supP p.1) = SP) := Lib.hid ((ahead_filter HRI.out _ _ _).trans HSP.out.symm)
          have HRE : Hid ((aheadM R id seq ⟨fr, dn, x, y2, z⟩).1 ≠ 0 → (aheadM R id seq ⟨fr, dn, x, y2, z⟩).2 = R) := Lib.hid ahead_no
          generalize aheadM R id seq ⟨fr, dn, x, y2, z⟩ = AM at *
          obtain ⟨se, R2⟩ := AM
          dsimp only at HAH HSF HRE
          clear HST HKC HKP HRI
          go_wp2_with fail
          generalize wB.alloc (.cells #[.string id, .string ⟨#[]⟩, .int .u64 (seq : Int), .slice none 0 0, .int .u64 0, .int .u64 0] 49) = w6 at *
          refine HAH.out.mono ?_
          rintro e w7 ⟨rfl, A7, hk7⟩
          clear b0 b1 b2 b3 b4 b5 b6 b7 b8 b9 b10 b11 b12 b13 b14 b15 b16 b17 b18 HAH HA6
          by_cases hse : se = 0
          · subst hse
            have HPN : Hid (∀ Z, Below w7.heap.size w7 Z → Calls Tryz.prog 16 #[.pointer (some ⟨yb, 0, none⟩), .string supP] Z fun e w' => ∃ v, e = .returned v ∧ OutP w' Z.heap.size v SP ∧ Below Z.heap.size Z w') := Lib.hid fun Z hz => by
              have h := (Acc.mk (A7.up hz).b (A7.up hz).p).pairs (show yn + (7 * j + 3) ≤ 1000000000 by have := HJ.out; omega) supP (by decide +kernel)
              rwa [HSF.out] at h
            have HQP : Hid (∀ Z, Below w7.heap.size w7 Z → RdP Z Z.heap.size (.slice AB nB cB) SP) := Lib.hid fun Z hz => HOB.out.kept ((hk7).transX (Kept.of_belowX hz))
            have HNX := Lib.hid (A7.more (show 7 * j + 3 ≤ 7 * (j + 1) by omega))
            unfold supP at HPN
            have HP1 := Lib.hid (HPN.out _ (Below.refl _ _))
            clear HPN
            go_wp2_with fail
            refine HP1.out.mono ?_
            rintro e wp ⟨vp, rfl, hop, hbp⟩
            have HSM := Lib.hid (samePs_any wp vp _ _ _ hop.rdP (HQP.out wp hbp))
            rw [decide_eq_true rfl] at HSM
            obtain ⟨Ap, cp, rfl⟩ := hop.form
            generalize SP.length = np at *
            have HNY := Lib.hid (HNX.out.up hbp)
            clear HP1 hop hbp HNX HQP
            go_wp2_with fail
            refine HSM.out.mono ?_
            rintro e wq ⟨rfl, hbq⟩
            have hfin := HNY.out.up hbq
            clear HSM HNY hbq
            go_wp2_with fail
            exact ⟨⟨j + 1, by omega, by simp, ⟨_, hfin⟩⟩, by simp [intOf]; omega⟩
          · have hne : (se != 0) = true := by simpa using hse
            have HPN : Hid (∀ Z, Below w7.heap.size w7 Z → Calls Tryz.prog 16 #[.pointer (some ⟨yb, 0, none⟩), .string supP] Z fun e w' => ∃ v, e = .returned v ∧ OutP w' Z.heap.size v SP ∧ Below Z.heap.size Z w') := Lib.hid fun Z hz => by
              have h := (Acc.mk (A7.up hz).b (A7.up hz).p).pairs (show yn + (7 * j + 3) ≤ 1000000000 by have := HJ.out; omega) supP (by decide +kernel)
              rwa [HSF.out] at h
            have HQP : Hid (∀ Z, Below w7.heap.size w7 Z → RdP Z Z.heap.size (.slice AB nB cB) SP) := Lib.hid fun Z hz => HOB.out.kept ((hk7).transX (Kept.of_belowX hz))
            have HNX := Lib.hid (A7.more (show 7 * j + 3 ≤ 7 * (j + 1) by omega))
            unfold supP at HPN
            have HR1 := Lib.hid ((Acc.mk A7.b A7.p).root (show yn + (7 * j + 3) ≤ 1000000000 by have := HJ.out; omega) fr0 (HTB6.out _ (hk7)))
            rw [HRE.out hse] at HR1
            clear HRE
            go_wp2_with fail
            refine HR1.out.mono ?_
            rintro e wr2 ⟨vr2, rfl, hor2, hbr2⟩
            have cv2 := HCR.out wr2 vr2 hor2.rd
            have HP1 := Lib.hid (HPN.out _ hbr2)
            have HNZ := Lib.hid (HNX.out.up hbr2)
            have HBR2 := Lib.hid hbr2
            obtain ⟨Ar, cr, rfl⟩ := hor2.form
            generalize (rootM R).1.length = nr at *
            clear HPN HR1 hor2 hbr2 HNX
            go_wp2_with fail
            refine HP1.out.mono ?_
            rintro e wp ⟨vp, rfl, hop, hbp⟩
            have HSM := Lib.hid (samePs_any wp vp _ _ _ hop.rdP (HQP.out wp (below_chain HBR2.out HBR2.out.size hbp)))
            replace HNX := HNZ
            rw [decide_eq_true rfl] at HSM
            obtain ⟨Ap, cp, rfl⟩ := hop.form
            generalize SP.length = np at *
            have HNY := Lib.hid (HNX.out.up hbp)
            clear HP1 hop hbp HNX HQP
            go_wp2_with fail
            refine HSM.out.mono ?_
            rintro e wq ⟨rfl, hbq⟩
            have hfin := HNY.out.up hbq
            clear HSM HNY hbq
            go_wp2_with fail
            exact ⟨⟨j + 1, by omega, by simp, ⟨_, hfin⟩⟩, by simp [intOf]; omega⟩
        · by_cases k2 : kd = 2
          · subst k2
            have p0 := blk_cell HP6.out 0
            have p1 := blk_cell HP6.out 1
            have p2 := blk_cell HP6.out 2
            have p3 := blk_cell HP6.out 3
            have p4 := blk_cell HP6.out 4
            have p5 := blk_cell HP6.out 5
            have HSF : Hid ((settleM R id seq fr by_ late).2.filter (fun p => begB supP p.1) = SP) := Lib.hid ((settle_filter HRI.out _ _ _ _ _).trans HSP.out.symm)
            have HRE : Hid ((settleM R id seq fr by_ late).1 ≠ 0 → (settleM R id seq fr by_ late).2 = R) := Lib.hid settle_no
            have HGN : Hid ((settleM R id seq fr by_ late).1 = 0 → getPd (settleM R id seq fr by_ late).2 id seq = none) := Lib.hid settle_gone
            generalize settleM R id seq fr by_ late = AM at *
            obtain ⟨se, R2⟩ := AM
            dsimp only at HST HSF HRE HGN
            have q3 := b3
            have q4 := b4
            have HB6' := HB6
            clear HAH HKC HKP HRI
            go_wp2_with fail
            generalize wB.alloc (.cells #[.string id, .string ⟨#[]⟩, .int .u64 (seq : Int), .slice none 0 0, .int .u64 0, .int .u64 0] 49) = w6 at *
            refine HST.out.mono ?_
            rintro e w7 ⟨rfl, A7, hk7⟩
            have g3 := hk7.cell b3
            have g4 := hk7.cell b4
            have HG7 := Lib.hid (fget_any A7 id seq HS4.out HS7.out)
            have HA7 := Lib.hid A7
            have HK7 := Lib.hid hk7
            clear b0 b1 b2 b3 b4 b5 b6 b7 b8 b9 b10 b11 b12 b13 b14 b15 b16 b17 b18 p0 p1 p2 p3 p4 p5 q3 q4 HST HA6 A7 hk7
            go_wp2_with fail
            refine HG7.out.mono ?_
            rintro e w8 ⟨rfl, hb8⟩
            clear g3 g4 HG7
            by_cases hse : se = 0
            · subst hse
              rw [HGN.out (by simp)]
              have hau : Below w8.heap.size w8 (w8.alloc (.cells #[.string ⟨#[]⟩, .string ⟨#[]⟩, .int .u64 0, .int .u64 0, .int .u64 0, .int .u64 0, .int .u64 0, .int .u64 0, .int .u64 0, .int .u64 0, .int .u64 0, .int .u64 0, .int .u64 0, .int .u64 0] 55)) := (Below.refl _ _).alloc (Nat.le_refl _) _
              have hb9 := below_chain hb8 hb8.size hau
              have A9 := HA7.out.up hb9
              have hk9 := HK7.out.transX (Kept.of_belowX hb9)
              have HA9 := Lib.hid A9
              have HK9 := Lib.hid hk9
              clear hau hb9 hb8 A9 hk9 HA7 HK7 HGN
              unfold pdO PdV.none PdV.val PdV.cells U4.zero
              dsimp only
              have HPN : Hid (∀ Z, Below (w8.alloc (.cells #[.string ⟨#[]⟩, .string ⟨#[]⟩, .int .u64 0, .int .u64 0, .int .u64 0, .int .u64 0, .int .u64 0, .int .u64 0, .int .u64 0, .int .u64 0, .int .u64 0, .int .u64 0, .int .u64 0, .int .u64 0] 55)).heap.size (w8.alloc (.cells #[.string ⟨#[]⟩, .string ⟨#[]⟩, .int .u64 0, .int .u64 0, .int .u64 0, .int .u64 0, .int .u64 0, .int .u64 0, .int .u64 0, .int .u64 0, .int .u64 0, .int .u64 0, .int .u64 0, .int .u64 0] 55)) Z → Calls Tryz.prog 16 #[.pointer (some ⟨yb, 0, none⟩), .string supP] Z fun e w' => ∃ v, e = .returned v ∧ OutP w' Z.heap.size v SP ∧ Below Z.heap.size Z w') := Lib.hid fun Z hz => by
                have h := (Acc.mk (HA9.out.up hz).b (HA9.out.up hz).p).pairs (show yn + (7 * j + 7) ≤ 1000000000 by have := HJ.out; omega) supP (by decide +kernel)
                rwa [HSF.out] at h
              have HQP : Hid (∀ Z, Below (w8.alloc (.cells #[.string ⟨#[]⟩, .string ⟨#[]⟩, .int .u64 0, .int .u64 0, .int .u64 0, .int .u64 0, .int .u64 0, .int .u64 0, .int .u64 0, .int .u64 0, .int .u64 0, .int .u64 0, .int .u64 0, .int .u64 0] 55)).heap.size (w8.alloc (.cells #[.string ⟨#[]⟩, .string ⟨#[]⟩, .int .u64 0, .int .u64 0, .int .u64 0, .int .u64 0, .int .u64 0, .int .u64 0, .int .u64 0, .int .u64 0, .int .u64 0, .int .u64 0, .int .u64 0, .int .u64 0] 55)) Z → RdP Z Z.heap.size (.slice AB nB cB) SP) := Lib.hid fun Z hz => HOB.out.kept ((HK9.out).transX (Kept.of_belowX hz))
              have HNX := Lib.hid (HA9.out.more (show 7 * j + 7 ≤ 7 * (j + 1) by omega))
              unfold supP at HPN
              have HP1 := Lib.hid (HPN.out _ (Below.refl _ _))
              clear HPN
              go_wp2_with fail
              refine HP1.out.mono ?_
              rintro e wp ⟨vp, rfl, hop, hbp⟩
              have HSM := Lib.hid (samePs_any wp vp _ _ _ hop.rdP (HQP.out wp hbp))
              rw [decide_eq_true rfl] at HSM
              obtain ⟨Ap, cp, rfl⟩ := hop.form
              generalize SP.length = np at *
              have HNY := Lib.hid (HNX.out.up hbp)
              clear HP1 hop hbp HNX HQP
              go_wp2_with fail
              refine HSM.out.mono ?_
              rintro e wq ⟨rfl, hbq⟩
              have hfin := HNY.out.up hbq
              clear HSM HNY hbq
              go_wp2_with fail
              exact ⟨⟨j + 1, by omega, by simp, ⟨_, hfin⟩⟩, by simp [intOf]; omega⟩
            · have hne : (se != 0) = true := by simpa using hse
              have hne2 : (se == 0) = false := by simpa using hse
              rw [pdO_eq2]
              generalize (getPd R2 id seq).isSome = ok at *
              generalize (getPd R2 id seq).getD PdV.none = q at *
              obtain ⟨qf, qd, qx, qy, qz⟩ := q
              have hau : Below w8.heap.size w8 (w8.alloc (.cells #[.string qf, .string qd, .int .u64 (qx.a : Int), .int .u64 (qx.b : Int), .int .u64 (qx.c : Int), .int .u64 (qx.d : Int), .int .u64 (qy.a : Int), .int .u64 (qy.b : Int), .int .u64 (qy.c : Int), .int .u64 (qy.d : Int), .int .u64 (qz.a : Int), .int .u64 (qz.b : Int), .int .u64 (qz.c : Int), .int .u64 (qz.d : Int)] 55)) := (Below.refl _ _).alloc (Nat.le_refl _) _
              have hb9 := below_chain hb8 hb8.size hau
              have A9 := HA7.out.up hb9
              have hk9 := HK7.out.transX (Kept.of_belowX hb9)
              have HA9 := Lib.hid A9
              have HK9 := Lib.hid hk9
              clear hau hb9 hb8 A9 hk9 HA7 HK7 HGN
              unfold PdV.val PdV.cells
              dsimp only
              have HPN : Hid (∀ Z, Below (w8.alloc (.cells #[.string qf, .string qd, .int .u64 (qx.a : Int), .int .u64 (qx.b : Int), .int .u64 (qx.c : Int), .int .u64 (qx.d : Int), .int .u64 (qy.a : Int), .int .u64 (qy.b : Int), .int .u64 (qy.c : Int), .int .u64 (qy.d : Int), .int .u64 (qz.a : Int), .int .u64 (qz.b : Int), .int .u64 (qz.c : Int), .int .u64 (qz.d : Int)] 55)).heap.size (w8.alloc (.cells #[.string qf, .string qd, .int .u64 (qx.a : Int), .int .u64 (qx.b : Int), .int .u64 (qx.c : Int), .int .u64 (qx.d : Int), .int .u64 (qy.a : Int), .int .u64 (qy.b : Int), .int .u64 (qy.c : Int), .int .u64 (qy.d : Int), .int .u64 (qz.a : Int), .int .u64 (qz.b : Int), .int .u64 (qz.c : Int), .int .u64 (qz.d : Int)] 55)) Z → Calls Tryz.prog 16 #[.pointer (some ⟨yb, 0, none⟩), .string supP] Z fun e w' => ∃ v, e = .returned v ∧ OutP w' Z.heap.size v SP ∧ Below Z.heap.size Z w') := Lib.hid fun Z hz => by
                have h := (Acc.mk (HA9.out.up hz).b (HA9.out.up hz).p).pairs (show yn + (7 * j + 7) ≤ 1000000000 by have := HJ.out; omega) supP (by decide +kernel)
                rwa [HSF.out] at h
              have HQP : Hid (∀ Z, Below (w8.alloc (.cells #[.string qf, .string qd, .int .u64 (qx.a : Int), .int .u64 (qx.b : Int), .int .u64 (qx.c : Int), .int .u64 (qx.d : Int), .int .u64 (qy.a : Int), .int .u64 (qy.b : Int), .int .u64 (qy.c : Int), .int .u64 (qy.d : Int), .int .u64 (qz.a : Int), .int .u64 (qz.b : Int), .int .u64 (qz.c : Int), .int .u64 (qz.d : Int)] 55)).heap.size (w8.alloc (.cells #[.string qf, .string qd, .int .u64 (qx.a : Int), .int .u64 (qx.b : Int), .int .u64 (qx.c : Int), .int .u64 (qx.d : Int), .int .u64 (qy.a : Int), .int .u64 (qy.b : Int), .int .u64 (qy.c : Int), .int .u64 (qy.d : Int), .int .u64 (qz.a : Int), .int .u64 (qz.b : Int), .int .u64 (qz.c : Int), .int .u64 (qz.d : Int)] 55)) Z → RdP Z Z.heap.size (.slice AB nB cB) SP) := Lib.hid fun Z hz => HOB.out.kept ((HK9.out).transX (Kept.of_belowX hz))
              have HNX := Lib.hid (HA9.out.more (show 7 * j + 7 ≤ 7 * (j + 1) by omega))
              unfold supP at HPN
              have HR1 := Lib.hid ((Acc.mk HA9.out.b HA9.out.p).root (show yn + (7 * j + 7) ≤ 1000000000 by have := HJ.out; omega) fr0 (HTB6.out _ (HK9.out)))
              rw [HRE.out hse] at HR1
              clear HRE
              go_wp2_with fail
              refine HR1.out.mono ?_
              rintro e wr2 ⟨vr2, rfl, hor2, hbr2⟩
              have cv2 := HCR.out wr2 vr2 hor2.rd
              have HP1 := Lib.hid (HPN.out _ hbr2)
              have HNZ := Lib.hid (HNX.out.up hbr2)
              have HBR2 := Lib.hid hbr2
              obtain ⟨Ar, cr, rfl⟩ := hor2.form
              generalize (rootM R).1.length = nr at *
              clear HPN HR1 hor2 hbr2 HNX
              go_wp2_with fail
              refine HP1.out.mono ?_
              rintro e wp ⟨vp, rfl, hop, hbp⟩
              have HSM := Lib.hid (samePs_any wp vp _ _ _ hop.rdP (HQP.out wp (below_chain HBR2.out HBR2.out.size hbp)))
              replace HNX := HNZ
              rw [decide_eq_true rfl] at HSM
              obtain ⟨Ap, cp, rfl⟩ := hop.form
              generalize SP.length = np at *
              have HNY := Lib.hid (HNX.out.up hbp)
              clear HP1 hop hbp HNX HQP
              go_wp2_with fail
              refine HSM.out.mono ?_
              rintro e wq ⟨rfl, hbq⟩
              have hfin := HNY.out.up hbq
              clear HSM HNY hbq
              go_wp2_with fail
              exact ⟨⟨j + 1, by omega, by simp, ⟨_, hfin⟩⟩, by simp [intOf]; omega⟩
          · by_cases k3 : kd = 3
            · subst k3
              have HNX := Lib.hid (fun (Z : World) (R' : List Pr) (hz : At w1 ⟨yb, ym, yn, yf⟩ [] R' (7 * j + 1) Z) => hz.more (show 7 * j + 1 ≤ 7 * (j + 1) by omega))
              generalize hKC : kPl wCommit id seq = KC at *
              clear hKC HAH HST HRI
              go_wp2_with fail
              generalize wB.alloc (.cells #[.string id, .string ⟨#[]⟩, .int .u64 (seq : Int), .slice none 0 0, .int .u64 0, .int .u64 0] 49) = w6 at *
              refine (HKC.out _).mono ?_
              rintro e w7 ⟨rfl, hb7⟩
              have hal : Below w7.heap.size w7 (w7.alloc (.cells #[.int .u8 1] 5)) := (Below.refl _ _).alloc (Nat.le_refl _) _
              have A8 := HA6.out.up (below_chain hb7 hb7.size hal)
              have hrd := rd_one w7 1
              rw [show bval 1 = .int .u8 1 from rfl] at hrd
              have HS8 := Lib.hid (A8.set (show yn + 7 * j < maxLen by have := HJ.out; unfold maxLen; omega) KC HKP.out _ [1] hrd)
              generalize (if pairB (KC, [1]) = true then (0 : Int) else 60) = sv at *
              clear b0 b1 b2 b3 b4 b5 b6 b7 b8 b9 b10 b11 b12 b13 b14 b15 b16 b17 b18 HKC HA6 hb7 hal A8 hrd
              go_wp2_with fail
              refine HS8.out.mono ?_
              rintro e w9 ⟨rfl, A9, hk9⟩
              have hfin := HNX.out _ _ A9
              clear HS8 A9 hk9 HNX
              go_wp2_with fail
              exact ⟨⟨j + 1, by omega, by simp, ⟨_, hfin⟩⟩, by simp [intOf]; omega⟩
            · have HSF : Hid (R.filter (fun p => begB supP p.1) = SP) := Lib.hid HSP.out.symm
              have A7 := HA6.out
              have hk7 := Kept.refl (wB.alloc (.cells #[.string id, .string ⟨#[]⟩, .int .u64 (seq : Int), .slice none 0 0, .int .u64 0, .int .u64 0] 49))
              clear HAH HST HKC HKP HRI
              have HPN : Hid (∀ Z, Below (wB.alloc (.cells #[.string id, .string ⟨#[]⟩, .int .u64 (seq : Int), .slice none 0 0, .int .u64 0, .int .u64 0] 49)).heap.size (wB.alloc (.cells #[.string id, .string ⟨#[]⟩, .int .u64 (seq : Int), .slice none 0 0, .int .u64 0, .int .u64 0] 49)) Z → Calls Tryz.prog 16 #[.pointer (some ⟨yb, 0, none⟩), .string supP] Z fun e w' => ∃ v, e = .returned v ∧ OutP w' Z.heap.size v SP ∧ Below Z.heap.size Z w') := Lib.hid fun Z hz => by
                have h := (Acc.mk (A7.up hz).b (A7.up hz).p).pairs (show yn + (7 * j) ≤ 1000000000 by have := HJ.out; omega) supP (by decide +kernel)
                rwa [HSF.out] at h
              have HQP : Hid (∀ Z, Below (wB.alloc (.cells #[.string id, .string ⟨#[]⟩, .int .u64 (seq : Int), .slice none 0 0, .int .u64 0, .int .u64 0] 49)).heap.size (wB.alloc (.cells #[.string id, .string ⟨#[]⟩, .int .u64 (seq : Int), .slice none 0 0, .int .u64 0, .int .u64 0] 49)) Z → RdP Z Z.heap.size (.slice AB nB cB) SP) := Lib.hid fun Z hz => HOB.out.kept ((hk7).transX (Kept.of_belowX hz))
              have HNX := Lib.hid (A7.more (show 7 * j ≤ 7 * (j + 1) by omega))
              unfold supP at HPN
              have HP1 := Lib.hid (HPN.out _ (Below.refl _ _))
              clear HPN
              go_wp2_with fail
              refine HP1.out.mono ?_
              rintro e wp ⟨vp, rfl, hop, hbp⟩
              have HSM := Lib.hid (samePs_any wp vp _ _ _ hop.rdP (HQP.out wp hbp))
              rw [decide_eq_true rfl] at HSM
              obtain ⟨Ap, cp, rfl⟩ := hop.form
              generalize SP.length = np at *
              have HNY := Lib.hid (HNX.out.up hbp)
              clear HP1 hop hbp HNX HQP
              go_wp2_with fail
              refine HSM.out.mono ?_
              rintro e wq ⟨rfl, hbq⟩
              have hfin := HNY.out.up hbq
              clear HSM HNY hbq
              go_wp2_with fail
              exact ⟨⟨j + 1, by omega, by simp, ⟨_, hfin⟩⟩, by simp [intOf]; omega⟩
      · have hjn : j = nf := by omega
        have i2 : ¬ (j : Int) < (nf : Int) := by omega
        subst hjn
        have hqf := HB1.out.trans ((AR.below (B := w.heap.size) HYM.out HB1.out.size))
        clear AR hkr
        go_wp2_with fail
        go_ret
        exact ⟨rfl, hqf⟩
end Go.Proofs.YtlkbjhhbpmmamaaGreatDoor
