
/- The law StoreBranches, walked. -/
import Derived.Test.YtohnhdandkkonaaDoorStoU
namespace Go.Proofs.YtohnhdandkkonaaDoor
set_option maxRecDepth 100000
open Go Go.RowKit
set_option linter.unusedVariables false

section
variable {B : Nat} {W : World} {x y z : Lyr} {R ps : List Pr}
theorem TwoS.write (h : TwoS B W x y z) (hn : y.n + x.n ≤ 900000000) (hI : BrI x y z R) (hy : LyrIs ps y) :
    Calls Tryd.prog 15 #[.pointer (some ⟨x.b, 0, none⟩)] W fun e w' => e = .returned (.tuple #[]) ∧ ∃ n f, PileS w' [⟨y.b, y.m, n, f⟩] ∧ PileS w' [z] ∧ n ≤ y.n + x.n ∧ LyrM R ⟨y.b, y.m, n, f⟩ ∧ Below B W w' := by
  refine (write_any h.hp (by unfold maxLen; omega)).mono ?_
  rintro e w' ⟨h1, n, f, h2, h3, h4, h5⟩
  have hm : AllMaps W (fun k => k = y.m ∨ k = x.m) := by
    rintro k (rfl | rfl)
    · exact h.hp.2.2.1.maps _ rfl
    · exact h.hp.1.maps _ rfl
  refine ⟨h1, n, f, h2.tail, h.hq.chg h5 hm (fun q hq => ?_), h3, hI.write hy h4, h5.below (fun k e => ?_) h.hW⟩
  · rw [List.mem_singleton.1 hq]
    rintro (e | e)
    · exact h.ne2 e.symm
    · exact h.ne e.symm
  · rcases e with rfl | rfl
    · exact h.by_
    · exact h.bx
theorem putIf_form (x : Lyr) (key : ByteArray) (val : List UInt8) : ∃ n f, x.putIf key val = ⟨x.b, x.m, n, f⟩ ∧ n ≤ x.n + 1 := by
  unfold Lyr.putIf
  split
  · exact ⟨_, _, rfl, Nat.le_refl _⟩
  · exact ⟨_, _, rfl, Nat.le_succ _⟩
end
/-- the two stores in the midst of the script -/
def MidS (B : Nat) (W : World) (xb xm zb zm k n : Nat) (y : Lyr) : Prop :=
  ∃ xn xf zn zf R, TwoS B W ⟨xb, xm, xn, xf⟩ y ⟨zb, zm, zn, zf⟩ ∧ BrI ⟨xb, xm, xn, xf⟩ y ⟨zb, zm, zn, zf⟩ R ∧ xn ≤ k ∧ zn ≤ n + k

set_option maxHeartbeats 16000000 in
theorem branches_law (w : World) (v vo : Value) (ps : List Pr) (ops : List SOp) (hr : RdP w w.heap.size v ps) (hnl : ∀ p ∈ ps, p.1.size ≤ maxLen) (hn1 : ps.length ≤ 2000000) (hro : RdOps w w.heap.size vo ops) (hno : ops.length ≤ 2000000) (hok : ∀ f ∈ ops, f.key.size ≤ maxLen) (fr : TypeId × Nat × Nat) (hk : w.heap[2]? = some (.cells kVals fr.1 fr.2)) :
    Calls Tryd.prog 5 #[v, vo] w fun e w' => e = .returned (.bool true) ∧ Below w.heap.size w w' := by
  have hn0 := blk_lt hk
  have HK := Lib.hid hk
  have HNEW := Lib.hid (fun (W : World) (hb : Below w.heap.size w W) => new_any W v ps ((hr.below hb).more hb.size) hnl)
  have HRP := Lib.hid hr
  obtain ⟨n, hn⟩ : ∃ n, n = ps.length := ⟨_, rfl⟩
  obtain ⟨q, hq⟩ : ∃ q, q = ops.length := ⟨_, rfl⟩
  obtain ⟨A, c, rfl, -, -, -⟩ := hr
  obtain ⟨Ao, co, rfl, hco, hmo, hpo⟩ := hro
  unfold maxLen at hmo
  rw [← hn] at hn1 HNEW HRP ⊢
  rw [← hq] at hno hco ⊢
  have HN := Lib.hid hn
  have HQ := Lib.hid hq
  have HPO := Lib.hid hpo
  have HNL := Lib.hid hnl
  have HOK := Lib.hid hok
  clear hn hq hpo hnl hok hk
  go_enter Tryd.func5, Tryd.ntmps5
  go_wp2_with fail
  refine (HNEW.out w (Below.refl _ _)).mono ?_
  rintro e w1 ⟨⟨h1, rfl⟩ | ⟨h1, y, rfl, hyb, hym, hyn, hly, hri, hp1⟩, hb1⟩
  · have HO := Lib.hid h1
    clear h1
    go_wp2_with fail
    refine (HNEW.out w1 hb1).mono ?_
    rintro e w2 ⟨⟨-, rfl⟩ | ⟨h2, -⟩, hb2⟩
    rotate_left
    · rw [HO.out] at h2; cases h2
    have hq2 := below_chain hb1 hb1.size hb2
    clear hb2
    go_wp2_with fail
    refine (sfixed_any w2).mono ?_
    rintro e w3 ⟨rfl, hb3⟩
    have hq3 := below_chain hq2 hq2.size hb3
    go_wp2_with fail
    refine (sfixed_any w3).mono ?_
    rintro e w4 ⟨rfl, hb4⟩
    have hq4 := below_chain hq3 hq3.size hb4
    go_wp2_with fail
    go_ret
    exact ⟨rfl, hq4⟩
  · have HO := Lib.hid h1
    obtain ⟨yb, ym, yn, yf⟩ := y
    dsimp only at hyb hym hyn ⊢
    have HP1 := Lib.hid hp1
    have HLY := Lib.hid (And.intro hyn (And.intro hly hri))
    have HYM : Hid (ym < w1.heap.size) := Lib.hid hp1.1.lt.2
    clear hyn hly hri hp1 h1
    go_wp2_with fail
    refine (HNEW.out w1 hb1).mono ?_
    rintro e w2 ⟨⟨h2, -⟩ | ⟨-, z, rfl, hzb, hzm, hzn, hlz, -, hp2⟩, hb2⟩
    · rw [HO.out] at h2; cases h2
    obtain ⟨zb, zm, zn, zf⟩ := z
    dsimp only at hzb hzm hzn ⊢
    have HP2 := Lib.hid hp2
    have HLZ := Lib.hid (And.intro hzn hlz)
    have hq2 := below_chain hb1 hb1.size hb2
    clear hp2 hzn hlz
    go_wp2_with fail
    refine (sfixed_any w2).mono ?_
    rintro e w3 ⟨rfl, hb3⟩
    have hq3 := below_chain hq2 hq2.size hb3
    have HBR := Lib.hid (branch_any ((HP1.out.up hb2).up hb3))
    go_wp2_with fail
    refine HBR.out.mono ?_
    rintro e w4 ⟨xb, xm, rfl, hxb, hxm, hp4, hb4⟩
    have hq4 := below_chain hq3 hq3.size hb4
    have HMS : Hid (MidS w.heap.size w4 xb xm zb zm 0 n ⟨yb, ym, yn, yf⟩) := Lib.hid (by
      have hz := (HP2.out.up hb3).up hb4
      have hzlt : zm < w2.heap.size := HP2.out.1.lt.2
      have h1 := hb1.size
      have h2 := hb2.size
      have h3 := hb3.size
      have h5 := HYM.out
      refine ⟨0, fun _ => none, zn, zf, ps, ⟨hp4, hz, ?_, ?_, ?_, ?_, hym, hq4.size⟩, BrI.start HLY.out.2.2 HNL.out HLY.out.2.1 HLZ.out.2, Nat.le_refl _, ?_⟩
      · show xm ≠ zm; omega
      · show ym ≠ zm; omega
      · show w.heap.size ≤ xm; omega
      · show w.heap.size ≤ zm; omega
      · have := HLZ.out.1; show zn ≤ _; omega)
    clear hp4 hxb hxm hzb hzm hyb hym hb1 hb2 hb3 hb4 hq2 hq3 HBR HP1 HP2 HNEW HYM HO
    go_wp2_with fail
    go_loopw [50] (fun iv W => ∃ k : Nat, k ≤ q ∧ iv = .int .i64 (k : Int) ∧ Below w.heap.size w W ∧ Hid (MidS w.heap.size W xb xm zb zm k n ⟨yb, ym, yn, yf⟩))
      (fun iv _ => q - (intOf iv).toNat)
    case atStart => exact ⟨0, Nat.zero_le _, rfl, hq4, HMS⟩
    case round =>
      rename World => W
      clear hq4 HMS
      obtain ⟨k, hkq, rfl, hbW, HM⟩ := hrel
      by_cases hlt : k < q
      · have hkl : k < ops.length := by have := HQ.out; omega
        obtain ⟨b, o, rfl, hbl, hcell⟩ := HPO.out (by omega)
        obtain ⟨q0, q1, xv, q2, q3⟩ := hcell k hkl
        have a0 := (hbW.cell (p := ⟨b, o + k * 3, none⟩) hbl).trans q0
        have a1 := (hbW.cell (p := ⟨b, o + k * 3 + 1, none⟩) hbl).trans q1
        have a2 := (hbW.cell (p := ⟨b, o + k * 3 + 2, none⟩) hbl).trans q2
        have hks := HOK.out _ (List.getElem_mem hkl)
        have i1 : (0 : Int) ≤ (k : Int) := by omega
        have i2 : (k : Int) < (q : Int) := by omega
        have hxr := (q3.below hbW).more hbW.size
        obtain ⟨Ax, cx, rfl⟩ := q3.form
        clear hcell q0 q1 q2 q3
        generalize ops[k] = op at *
        obtain ⟨kind, key, val⟩ := op
        dsimp only at a0 a1 a2 hks hxr ⊢
        have hbz : Below W.heap.size W (W.alloc (.cells #[.int .i64 kind, .string key, .slice Ax val.length cx] 47)) := (Below.refl _ _).alloc (Nat.le_refl _) _
        have hgz := heap_alloc_new W (.cells #[.int .i64 kind, .string key, .slice Ax val.length cx] 47)
        have hrz := hxr.up (Nat.le_refl _) hbz
        have hbZ := below_chain hbW hbW.size hbz
        obtain ⟨xn, xf, zn', zf', R, hT, hI, hxn, hzn⟩ := HM.out
        have hTZ := hT.up hbz
        have z0 : (W.alloc (.cells #[.int .i64 kind, .string key, .slice Ax val.length cx] 47)).cell? ⟨W.heap.size, 0, none⟩ = some (.int .i64 kind) := blk_cell hgz 0
        have z1 : (W.alloc (.cells #[.int .i64 kind, .string key, .slice Ax val.length cx] 47)).cell? ⟨W.heap.size, 1, none⟩ = some (.string key) := blk_cell hgz 1
        have z2 : (W.alloc (.cells #[.int .i64 kind, .string key, .slice Ax val.length cx] 47)).cell? ⟨W.heap.size, 2, none⟩ = some (.slice Ax val.length cx) := blk_cell hgz 2
        have HI := Lib.hid hI
        clear hI hgz hxr hT HM hbz
        by_cases hkd : kind = 3
        · subst hkd
          have hXn : xn < maxLen := by unfold maxLen; omega
          have hZn : zn' < maxLen := by unfold maxLen; omega
          have HDX := Lib.hid (hTZ.delX hXn key hks)
          clear hrz
          go_wp2_with fail
          generalize W.alloc (.cells #[.int .i64 3, .string key, .slice Ax val.length cx] 47) = Z at *
          refine HDX.out.mono ?_
          rintro e w5 ⟨rfl, ht5, hk5, hb5⟩
          have k1 := hk5.cell z1
          have HDZ := Lib.hid (ht5.delZ hZn key hks)
          have hq5 := hbZ.trans hb5
          clear ht5 hk5 hb5 z0 z1 z2 hTZ HDX
          go_wp2_with fail
          refine HDZ.out.mono ?_
          rintro e w6 ⟨rfl, ht6, hk6, hb6⟩
          have hq6 := hq5.trans hb6
          have HM6 : Hid (MidS w.heap.size w6 xb xm zb zm (k + 1) n ⟨yb, ym, yn, yf⟩) := Lib.hid ⟨_, _, _, _, _, ht6, HI.out.del hks, Nat.succ_le_succ hxn, Nat.le_succ_of_le hzn⟩
          clear ht6 hk6 hb6
          go_wp2_with fail
          exact ⟨⟨k + 1, by omega, by go_num, hq6, HM6⟩, by simp [intOf]; omega⟩
        · have hk0 : (kind == 3) = false := by simpa using hkd
          have hXn : xn < maxLen := by unfold maxLen; omega
          have hZn : zn' < maxLen := by unfold maxLen; omega
          obtain ⟨E, hE⟩ : ∃ E : Int, E = if pairB (key, val) = true then 0 else 60 := ⟨_, rfl⟩
          have HE := Lib.hid hE
          have hEE : (E != E) = false := by simp
          clear hE
          go_wp2_with fail
          generalize W.alloc (.cells #[.int .i64 kind, .string key, .slice Ax val.length cx] 47) = Z at *
          have hZd : Below Z.heap.size Z Z.drew := (Below.refl _ _).drew
          have hqd := hbZ.drew
          have e1 : Z.drew.cell? ⟨W.heap.size, 1, none⟩ = some (.string key) := z1
          have e2 : Z.drew.cell? ⟨W.heap.size, 2, none⟩ = some (.slice Ax val.length cx) := z2
          have hTd := hTZ.up hZd
          have hrd : Rd Z.drew Z.drew.heap.size (.slice Ax val.length cx) val := hrz.up (Nat.le_refl _) hZd
          have HX0 := Lib.hid (hTd.setX hXn key hks _ val hrd)
          have HZ0 := Lib.hid (hTd.setZ hZn key hks _ val hrd)
          obtain ⟨xn2, xf2, hx2, hxn2⟩ := putIf_form ⟨xb, xm, xn, xf⟩ key val
          obtain ⟨zn2, zf2, hz2, hzn2⟩ := putIf_form ⟨zb, zm, zn', zf'⟩ key val
          have HI2 : Hid (∃ R2, BrI ⟨xb, xm, xn2, xf2⟩ ⟨yb, ym, yn, yf⟩ ⟨zb, zm, zn2, zf2⟩ R2) := Lib.hid ⟨_, by have := HI.out.putIf hks val; rw [hx2, hz2] at this; exact this⟩
          rw [← HE.out] at HX0 HZ0
          rw [hx2] at HX0
          rw [hz2] at HZ0
          have HX2 := Lib.hid hx2
          have HZ2 := Lib.hid hz2
          have HRD := Lib.hid hrd
          have hfx : xn2 ≤ k + 1 := Nat.le_trans hxn2 (Nat.succ_le_succ hxn)
          have hfz : zn2 ≤ n + (k + 1) := Nat.le_trans hzn2 (Nat.succ_le_succ hzn)
          clear z0 z1 z2 hTd hrd hrz hTZ hZd hx2 hz2 hxn2 hzn2 hbZ
          go_region_held_law (fun W' => W'.cell? ⟨W.heap.size, 1, none⟩ = some (.string key) ∧ W'.cell? ⟨W.heap.size, 2, none⟩ = some (.slice Ax val.length cx))
            (with_reducible first | exact ⟨e1, e2⟩ | exact ⟨f1, f2⟩ | exact ⟨g1, g2⟩ | exact ⟨m1, m2⟩ | exact ⟨o1, o2⟩)
            (first
              | (go_at_call 8; ((with_reducible refine HX0.out.mono ?_); rintro e w5 ⟨rfl, ht5, hk5, hb5⟩; have f1 := hk5.cell e1; have f2 := hk5.cell e2; have hq5 := hqd.trans hb5; have D5 := ht5.setZ hZn key hks _ val (hk5.rd HRD.out); rw [← HE.out, HZ2.out] at D5; have HD5 := Lib.hid D5; clear D5 ht5 hb5))
              | (go_at_call 8; ((with_reducible refine HD5.out.mono ?_); rintro e w7 ⟨rfl, ht7, hk7, hb7⟩; have m1 := hk7.cell f1; have m2 := hk7.cell f2; have hq7 := hq5.trans hb7; have HM7 : Hid (MidS w.heap.size w7 xb xm zb zm (k + 1) n ⟨yb, ym, yn, yf⟩) := (Lib.hid (by obtain ⟨R2, h⟩ := HI2.out; exact ⟨_, _, _, _, R2, ht7, h, hfx, hfz⟩)); clear ht7 hb7))
              | (go_at_call 8; ((with_reducible refine HZ0.out.mono ?_); rintro e w6 ⟨rfl, ht6, hk6, hb6⟩; have g1 := hk6.cell e1; have g2 := hk6.cell e2; have hq6 := hqd.trans hb6; have D6 := ht6.setX hXn key hks _ val (hk6.rd HRD.out); rw [← HE.out, HX2.out] at D6; have HD6 := Lib.hid D6; clear D6 ht6 hb6))
              | (go_at_call 8; ((with_reducible refine HD6.out.mono ?_); rintro e w8 ⟨rfl, ht8, hk8, hb8⟩; have o1 := hk8.cell g1; have o2 := hk8.cell g2; have hq7 := hq6.trans hb8; have HM7 : Hid (MidS w.heap.size w8 xb xm zb zm (k + 1) n ⟨yb, ym, yn, yf⟩) := (Lib.hid (by obtain ⟨R2, h⟩ := HI2.out; exact ⟨_, _, _, _, R2, ht8, h, hfx, hfz⟩)); clear ht8 hb8)))
          all_goals (
            go_wp2_with fail
            exact ⟨⟨k + 1, by omega, by go_num, hq7, HM7⟩, by simp [intOf]; omega⟩)
      · have i2 : ¬ (k : Int) < (q : Int) := by omega
        obtain ⟨xn, xf, zn', zf', R, hT, hI, hxn, hzn⟩ := HM.out
        have hyn : yn = n := by have := HLY.out.1; rw [this]
        have hs0 : (⟨#[]⟩ : ByteArray).size ≤ maxLen := by decide +kernel
        have HPS : Hid (∀ Z, Below W.heap.size W Z → Calls Tryd.prog 14 #[.pointer (some ⟨yb, 0, none⟩), .string ⟨#[]⟩] Z fun e w' => ∃ v, e = .returned v ∧ OutP w' Z.heap.size v ps ∧ Below Z.heap.size Z w') :=
          Lib.hid fun Z hZ => pairs_any (hT.hp.tail.up hZ) (by simp [sumN]; omega) ⟨#[]⟩ hs0 (seen_bot0 HLY.out.2.1 HLY.out.2.2 HNL.out)
        have HPX : Hid (∀ Z, Below W.heap.size W Z → Calls Tryd.prog 14 #[.pointer (some ⟨xb, 0, none⟩), .string ⟨#[]⟩] Z fun e w' => ∃ v, e = .returned v ∧ OutP w' Z.heap.size v R ∧ Below Z.heap.size Z w') :=
          Lib.hid fun Z hZ => pairs_any (hT.hp.up hZ) (by simp [sumN]; omega) ⟨#[]⟩ hs0 hI.seenX
        have HPZ : Hid (∀ Z, Below W.heap.size W Z → Calls Tryd.prog 14 #[.pointer (some ⟨zb, 0, none⟩), .string ⟨#[]⟩] Z fun e w' => ∃ v, e = .returned v ∧ OutP w' Z.heap.size v R ∧ Below Z.heap.size Z w') :=
          Lib.hid fun Z hZ => pairs_any (hT.hq.up hZ) (by simp [sumN]; omega) ⟨#[]⟩ hs0 hI.seenZ
        have HT := Lib.hid hT
        have HI := Lib.hid hI
        clear hT hI HM
        go_wp2_with fail
        refine (HPS.out W (Below.refl _ _)).mono ?_
        rintro e w5 ⟨v5, rfl, ho5, hb5⟩
        have hq5 := below_chain hbW hbW.size hb5
        have HSA := Lib.hid (samePs_any w5 v5 (.slice A n c) ps ps ho5.rdP ((HRP.out.below hq5).more hq5.size))
        obtain ⟨A5, c5, rfl⟩ := ho5.form
        clear ho5
        go_wp2_with fail
        refine HSA.out.mono ?_
        rintro e w6 ⟨rfl, hb6⟩
        simp only [decide_true]
        have hbW6 := below_chain hb5 hb5.size hb6
        clear HSA
        go_wp2_with fail
        refine (HPX.out w6 hbW6).mono ?_
        rintro e w7 ⟨v7, rfl, ho7, hb7⟩
        have hbW7 := below_chain hbW6 hbW6.size hb7
        have HO7 := Lib.hid ho7
        obtain ⟨A7, c7, rfl⟩ := ho7.form
        clear ho7
        obtain ⟨nr, hnr⟩ : ∃ nr, nr = R.length := ⟨_, rfl⟩
        rw [← hnr] at HO7 ⊢
        have HNR := Lib.hid hnr
        clear hnr
        go_wp2_with fail
        refine (HPZ.out w7 hbW7).mono ?_
        rintro e w8 ⟨v8, rfl, ho8, hb8⟩
        have hbW8 := below_chain hbW7 hbW7.size hb8
        have HSB := Lib.hid (samePs_any w8 _ v8 R R (HO7.out.up hb8).rdP ho8.rdP)
        obtain ⟨A8, c8, rfl⟩ := ho8.form
        rw [← HNR.out] at HSB ⊢
        clear ho8
        go_wp2_with fail
        refine HSB.out.mono ?_
        rintro e w9 ⟨rfl, hb9⟩
        simp only [decide_true]
        have hbW9 := below_chain hbW8 hbW8.size hb9
        have hq9 := below_chain hbW hbW.size hbW9
        have HWR := Lib.hid ((HT.out.up hbW9).write (by show yn + xn ≤ _; omega) HI.out HLY.out.2.1)
        clear HSB HO7 hb5 hb6 hb7 hb8 hb9 hbW6 hbW7 hbW8 HPS HPX HPZ hq5
        go_wp2_with fail
        refine HWR.out.mono ?_
        rintro e w10 ⟨rfl, nw, fw, hpa, hpb, hnw, hlm, hb10⟩
        have hq10 := hq9.trans hb10
        have hse : SeenL ⟨#[]⟩ [⟨yb, ym, nw, fw⟩] R := seen_botM hlm HI.out.rise HI.out.small
        have hn15 : nw ≤ 1000000000 := by omega
        have hn16 : zn' ≤ 1000000000 := by omega
        have HKZ : Hid (∀ Z, Below w10.heap.size w10 Z → Z.heap[2]? = some (.cells kVals fr.1 fr.2)) := Lib.hid fun Z hZ => ((below_chain hq10 hq10.size hZ).block _ hn0).trans HK.out
        have HPA : Hid (∀ Z, Below w10.heap.size w10 Z → Calls Tryd.prog 14 #[.pointer (some ⟨yb, 0, none⟩), .string ⟨#[]⟩] Z fun e w' => ∃ v, e = .returned v ∧ OutP w' Z.heap.size v R ∧ Below Z.heap.size Z w') :=
          Lib.hid fun Z hZ => pairs_any (hpa.up hZ) (by simpa [sumN] using hn15) ⟨#[]⟩ hs0 hse
        have HPB : Hid (∀ Z, Below w10.heap.size w10 Z → Calls Tryd.prog 14 #[.pointer (some ⟨zb, 0, none⟩), .string ⟨#[]⟩] Z fun e w' => ∃ v, e = .returned v ∧ OutP w' Z.heap.size v R ∧ Below Z.heap.size Z w') :=
          Lib.hid fun Z hZ => pairs_any (hpb.up hZ) (by simpa [sumN] using hn16) ⟨#[]⟩ hs0 HI.out.seenZ
        have HRA : Hid (∀ Z, Below w10.heap.size w10 Z → Calls Tryd.prog 12 #[.pointer (some ⟨yb, 0, none⟩)] Z fun e w' => ∃ v, e = .returned v ∧ Own w' Z.heap.size v (rootM R).1 ∧ Below Z.heap.size Z w') :=
          Lib.hid fun Z hZ => sroot_any (hpa.up hZ) (by simpa [sumN] using hn15) hse fr (HKZ.out Z hZ)
        have HRB : Hid (∀ Z, Below w10.heap.size w10 Z → Calls Tryd.prog 12 #[.pointer (some ⟨zb, 0, none⟩)] Z fun e w' => ∃ v, e = .returned v ∧ Own w' Z.heap.size v (rootM R).1 ∧ Below Z.heap.size Z w') :=
          Lib.hid fun Z hZ => sroot_any (hpb.up hZ) (by simpa [sumN] using hn16) HI.out.seenZ fr (HKZ.out Z hZ)
        have HSM : Hid (∀ (Z : World) (a b : Value), RdP Z Z.heap.size a R → RdP Z Z.heap.size b R → Calls Tryd.prog 13 #[a, b] Z fun e w' => e = .returned (.bool true) ∧ Below Z.heap.size Z w') := Lib.hid fun Z a b ha hb => by have := samePs_any Z a b R R ha hb; rw [decide_eq_true rfl] at this; exact this
        obtain ⟨SR, hSR⟩ : ∃ SR : ByteArray, SR = ⟨(rootM R).1.toArray⟩ := ⟨_, rfl⟩
        have HCS : Hid (∀ (Z : World) (v : Value), Rd Z Z.heap.size v (rootM R).1 → (convert 29 9 v).run Tryd.prog Z = .ok (.string SR) Z) := Lib.hid fun Z v h => by rw [hSR]; exact run_str Tryd.underlying29 Tryd.underlying5 Tryd.isString h
        have hbd : Below w10.heap.size w10 w10.drew := (Below.refl _ _).drew
        have D1 := Lib.hid (HPA.out _ hbd)
        clear hpa hpb hnw hlm hb10 hse hn15 hn16 hSR HWR HT HI HLY HLZ hs0 hq9 hbW9
        generalize (rootM R).1 = RT at *
        go_wp2_with fail
        go_region_held_law (fun _ => True) (trivial)
          (first
            | (go_at_call 12; have D := HRB.out _ hq14; ((with_reducible refine D.mono ?_); rintro e w15 ⟨v15, rfl, ho15, hb15⟩; have hq15 := below_chain hq14 hq14.size hb15; have cv15 := HCS.out w15 v15 ho15.rd; have cv16 := HCS.out w15 v14 (HO14.out.rd.up (Nat.le_refl _) hb15)))
            | (go_at_call 12; have D := HRA.out _ hq13; ((with_reducible refine D.mono ?_); rintro e w14 ⟨v14, rfl, ho14, hb14⟩; have hq14 := below_chain hq13 hq13.size hb14; have HO14 := Lib.hid ho14; have cv14 := HCS.out w14 v14 ho14.rd))
            | (go_at_call 13; have D := HSM.out w12 _ _ (HO11.out.up hb12).rdP HO12.out.rdP; ((with_reducible refine D.mono ?_); rintro e w13 ⟨rfl, hb13⟩; have hq13 := below_chain hq12 hq12.size hb13))
            | (go_at_call 14; have D := HPB.out _ hq11; ((with_reducible refine D.mono ?_); rintro e w12 ⟨v12, rfl, ho12, hb12⟩; have hq12 := below_chain hq11 hq11.size hb12; have HO12 := Lib.hid ho12))
            | (go_at_call 14; ((with_reducible refine D1.out.mono ?_); rintro e w11 ⟨v11, rfl, ho11, hb11⟩; have hq11 := below_chain hbd (Nat.le_refl _) hb11; have HO11 := Lib.hid ho11)))
        all_goals (
          have hbo := below_chain hq10 hq10.size hq15
          go_wp2_with fail
          go_ret
          exact ⟨rfl, hbo⟩)
end Go.Proofs.YtohnhdandkkonaaDoor
