/- The law DiskOff, walked: off_any. -/
import Derived.Test.YtcnooafnifpbaaaDiskV
import Derived.Test.YtcnooafnifpbaaaDiskL6
import Derived.Deep.RegionWith
namespace Go.Proofs.Ytcnooafnifpbaaa
open Go Go.RowKit
set_option linter.unusedVariables false

theorem Two.fresh5 {w w5 : World} {B d : Nat} {F : Nat → Prop} {m : DM} (h : DiskAt w F d m) (hF : ∀ k, F k → B ≤ k) (hs : B ≤ w.heap.size) (hr : RefAt w5 (fun k => k = w.heap.size) w.heap.size ⟨[], false, 0⟩) (hb : Below w.heap.size w w5) : Two w5 B F (fun k => k = w.heap.size) d w.heap.size m ⟨[], false, 0⟩ :=
  ⟨h.below hb, hr, fun k hk e => by have := h.lt k hk; omega, hF, fun k e => by omega, Nat.le_trans hs hb.size⟩
set_option maxHeartbeats 4000000 in
theorem off_any (w : World) (v vo : Value) (fs : List (ByteArray × List UInt8)) (ops : List OpV) (hr : RdFs w w.heap.size v fs) (ho : RdOps w w.heap.size vo ops) (hlen : (fs.map fun f => f.2.length).sum ≤ 1048576) (hn : fs.length ≤ 1048576) (hnl : ∀ f ∈ fs, f.1.size ≤ maxLen)
    (hb : bytesOf ops ≤ 1048576) (hk : ∀ o ∈ ops, o.ks.length ≤ 1048576) :
    Calls Try.prog 7 #[v, vo] w fun e w' => e = .returned (.bool true) ∧ Below w.heap.size w w' := by
  obtain ⟨B, hB⟩ : ∃ B, B = w.heap.size := ⟨_, rfl⟩
  have hBw : B ≤ w.heap.size := by omega
  have hr0 : RdFs w B v fs := by rw [hB]; exact hr
  rw [← hB] at ho
  obtain ⟨A, c, rfl, hoc, hom, hop⟩ := ho
  unfold maxLen at hom
  obtain ⟨n, hn⟩ : ∃ n, n = ops.length := ⟨_, rfl⟩
  rw [← hn] at hoc ⊢
  have HN := Lib.hid hn
  have HP := Lib.hid hop
  have HB := Lib.hid hB
  have HKS := Lib.hid hk
  have HBY := Lib.hid hb
  clear hB hn hop hk hb
  by_cases hgood : fs.length ≤ 16 ∧ ∃ l, loadL fs [] = some l
  · obtain ⟨h16, l, hl⟩ := hgood
    obtain ⟨hgl, hle⟩ := GoodL.load hl h16
    have htt : totM l ≤ 1048576 := by rw [hle, new_tot]; exact hlen
    have HL := Lib.hid hl
    have HG := Lib.hid hgl
    have HT := Lib.hid htt
    clear hle hl hgl htt
    go_enter Try.func7, Try.ntmps7
    go_wp2_with fail
    refine (load_some w v fs hr (by omega) hnl l HL.out h16).mono ?_
    rintro e w1 ⟨d, rfl, ⟨F1, h1, hF1⟩, hb1⟩
    rw [← HB.out] at hF1
    have hB1 : Below B w w1 := hb1.mono hBw
    have hs1 : B ≤ w1.heap.size := Nat.le_trans hBw hb1.size
    clear hb1
    go_wp2_with fail
    refine (fixed_any _).mono ?_
    rintro e w3 ⟨rfl, hb3⟩
    have hB3 := hB1.trans (hb3.mono hs1)
    have hs3 := Nat.le_trans hs1 hb3.size
    have hT3 := h1.below hb3
    clear hB1 hb3 h1 hr0 hr
    go_wp2_with fail
    go_loopw [34] (fun i wr => ∃ (k : Nat) (F : Nat → Prop) (m : DM), k ≤ n ∧ i = .int .i64 (k : Int) ∧ DiskAt wr F d m ∧ (∀ k, F k → B ≤ k) ∧ GoodL m.files ∧ totM m.files + bytesOf (ops.drop k) ≤ 2097152 ∧ Below B w wr ∧ B ≤ wr.heap.size)
      (fun i _ => n - (intOf i).toNat)
    case atStart => exact ⟨0, F1, ⟨l, false, 0⟩, Nat.zero_le _, rfl, hT3, hF1, HG.out, by have h1 := HT.out; have h2 := HBY.out; simp only [List.drop_zero]; show totM l + _ ≤ _; omega, hB3, hs3⟩
    case round =>
      obtain ⟨k, F, m, hk, rfl, hT, hF, hG, htot, hBr, hsr⟩ := hrel
      by_cases hlt : k < n
      · have hkl : k < ops.length := by have := HN.out; omega
        obtain ⟨g, o, rfl, hgl, hcell⟩ := HP.out (by omega)
        obtain ⟨x0, x1, x2, x3, x4, hat⟩ := hcell k hkl
        have hks := HKS.out _ (List.getElem_mem hkl)
        have hbd := bytes_drop ops k hkl
        obtain ⟨op, hop⟩ : ∃ op, op = ops[k] := ⟨_, rfl⟩
        rw [← hop] at x0 x1 x2 x3 x4 hat hks hbd
        obtain ⟨kk, nn, sn, b, ks, A1, c1, A2, c2⟩ := op
        dsimp only at x0 x1 x2 x3 x4 hks hbd
        have hatr := hat.below hBr
        have y0 := (hBr.cell (p := ⟨g, o + k * 5, none⟩) hgl).trans x0
        have y1 := (hBr.cell (p := ⟨g, o + k * 5 + 1, none⟩) hgl).trans x1
        have y2 := (hBr.cell (p := ⟨g, o + k * 5 + 2, none⟩) hgl).trans x2
        have y3 := (hBr.cell (p := ⟨g, o + k * 5 + 3, none⟩) hgl).trans x3
        have y4 := (hBr.cell (p := ⟨g, o + k * 5 + 4, none⟩) hgl).trans x4
        have i1 : (0 : Int) ≤ (k : Int) := by omega
        have i2 : (k : Int) < (n : Int) := by omega
        have HG := Lib.hid hG
        have htm : totM m.files ≤ 2097152 := by omega
        have hbl : b.length ≤ 2097152 := by omega
        have HTM := Lib.hid htm
        have HBL := Lib.hid hbl
        have HTOT := Lib.hid htot
        have HBD := Lib.hid hbd
        clear hcell x0 x1 x2 x3 x4 hop hat hG htot hbd htm hbl
        have hbk := (Below.refl wr.heap.size wr).alloc (Nat.le_refl _) (.cells #[.int .i64 kk, .int .i64 nn, .string sn, .slice A1 b.length c1, .slice A2 ks.length c2] 35)
        have hTb := hT.below hbk
        have hBb := hBr.alloc hsr (.cells #[.int .i64 kk, .int .i64 nn, .string sn, .slice A1 b.length c1, .slice A2 ks.length c2] 35)
        have hsb : B ≤ (wr.alloc (.cells #[.int .i64 kk, .int .i64 nn, .string sn, .slice A1 b.length c1, .slice A2 ks.length c2] 35)).heap.size := by simp; omega
        have hab := hatr.below (hbk.mono hsr)
        have hxb := heap_alloc_new wr (.cells #[.int .i64 kk, .int .i64 nn, .string sn, .slice A1 b.length c1, .slice A2 ks.length c2] 35)
        go_wp2_with fail
        refine (down_any hTb).mono ?_
        rintro e1 w4 ⟨rfl, rfl⟩
        obtain ⟨wb, hwb⟩ : ∃ wb, wb = wr.alloc (.cells #[.int .i64 kk, .int .i64 nn, .string sn, .slice A1 b.length c1, .slice A2 ks.length c2] 35) := ⟨_, rfl⟩
        rw [← hwb] at hTb hBb hsb hab hxb ⊢
        obtain ⟨gb, hgb⟩ : ∃ gb, gb = wr.heap.size := ⟨_, rfl⟩
        rw [← hgb] at hxb
        simp only [← hgb]
        clear hbk hT hBr hsr hatr hwb hgb y0 y1 y2 y3 y4
        by_cases hoff : m.off = true
        · rw [hoff]
          have HO := Lib.hid hoff
          clear hoff
          have hcells : ∀ W : World, Below wb.heap.size wb W → W.cell? ⟨gb, 0, none⟩ = some (.int .i64 kk) ∧ W.cell? ⟨gb, 1, none⟩ = some (.int .i64 nn) ∧ W.cell? ⟨gb, 2, none⟩ = some (.string sn) ∧ W.cell? ⟨gb, 3, none⟩ = some (.slice A1 b.length c1) ∧ W.cell? ⟨gb, 4, none⟩ = some (.slice A2 ks.length c2) := fun W hW => by
            have h := (hW.block _ (blk_lt hxb)).trans hxb
            exact ⟨blk_cell h 0, blk_cell h 1, blk_cell h 2, blk_cell h 3, blk_cell h 4⟩
          have CE := Lib.hid hcells
          have HX := Lib.hid (And.intro hTb (And.intro hBb (And.intro hsb (And.intro hab hF))))
          have ercr : readM m sn = ([], 51) := by simp [readM, HO.out]
          have ER := Lib.hid ercr
          clear hTb hBb hsb hxb hcells hab hF ercr
          obtain ⟨q0, q1, q2, q3, q4⟩ := CE.out _ (Below.refl _ _)
          go_wp2_with fail
          refine (crash_any HX.out.1 _ ks (HX.out.2.2.2.1.ks.more HX.out.2.2.1) (by have := HTM.out; omega) (by have := HG.out.len; omega)).mono ?_
          rintro e5 w5 ⟨v5, rfl, ho5, hb5⟩
          obtain ⟨A5, c5, rfl⟩ := ho5.form
          have hT5 := HX.out.1.below hb5
          obtain ⟨p0, p1, p2, p3, p4⟩ := CE.out _ hb5
          have O5 := Lib.hid (And.intro ho5 hb5)
          clear q0 q1 q2 q3 q4 ho5 hb5
          go_wp2_with fail
          refine (read_any hT5 sn (fun f hf => by have h1 := totM_mem hf; have h2 := HTM.out; omega)).mono ?_
          rintro e6 w6 ⟨v6, rfl, ho6, hb6⟩
          rw [ER.out] at ho6 ⊢
          have hT6 := hT5.below hb6
          have hy6 := O5.out.2.trans (hb6.mono O5.out.2.size)
          have ho56 := O5.out.1.below hb6
          have O6 := Lib.hid (And.intro ho56 hy6)
          clear p0 p1 p2 p3 p4 hT5 ho6 hb6 hy6 ho56 O5
          obtain ⟨q0, q1, q2, q3, q4⟩ := CE.out _ O6.out.2
          go_wp2_with fail
          refine (arm_off hT6 HO.out nn).mono ?_
          rintro e7 w7 ⟨rfl, rfl⟩
          go_wp2_with fail
          refine (append_off hT6 HO.out sn _).mono ?_
          rintro e7 w7 ⟨rfl, rfl⟩
          go_wp2_with fail
          refine (sync_off hT6 HO.out sn).mono ?_
          rintro e7 w7 ⟨rfl, rfl⟩
          go_wp2_with fail
          refine (trunc_off hT6 HO.out sn nn).mono ?_
          rintro e7 w7 ⟨rfl, rfl⟩
          go_wp2_with fail
          refine (crash_any hT6 _ ks ((HX.out.2.2.2.1.ks.below (O6.out.2.mono HX.out.2.2.1)).more (Nat.le_trans HX.out.2.2.1 O6.out.2.size)) (by have := HTM.out; omega) (by have := HG.out.len; omega)).mono ?_
          rintro e8 w8 ⟨v8, rfl, ho8, hb8⟩
          obtain ⟨A8, c8, rfl⟩ := ho8.form
          have hT8 := hT6.below hb8
          have hy8 := O6.out.2.trans (hb8.mono O6.out.2.size)
          have ho68 := O6.out.1.below hb8
          clear q0 q1 q2 q3 q4 hT6 hb8
          have O8 := Lib.hid (And.intro ho68 (And.intro ho8 hy8))
          clear ho8 hy8 ho68 O6
          go_wp2_with fail
          refine (same_any _ _ _ _ O8.out.2.1.rdFs O8.out.1.rdFs).mono ?_
          rintro e9 w9 ⟨rfl, hb9⟩
          have hT9 := hT8.below hb9
          have hy9 := O8.out.2.2.trans (hb9.mono O8.out.2.2.size)
          have hfin : DiskAt w9 F d m ∧ totM m.files + bytesOf (ops.drop (k + 1)) ≤ 2097152 ∧ Below B w w9 ∧ B ≤ w9.heap.size := by
            have h1 := HTOT.out
            have h2 := HBD.out
            exact ⟨hT9, by omega, HX.out.2.1.trans (hy9.mono HX.out.2.2.1), Nat.le_trans HX.out.2.2.1 hy9.size⟩
          have HF := Lib.hid hfin
          clear hfin hT9 hy9 hb9 hT8
          go_wp2_with fail
          exact ⟨⟨k + 1, F, m, by omega, by go_num, HF.out.1, HX.out.2.2.2.2, HG.out, HF.out.2.1, HF.out.2.2.1, HF.out.2.2.2⟩, by simp [intOf]; omega⟩
        · have hoff' : m.off = false := by simpa using hoff
          rw [hoff']
          have HO := Lib.hid hoff'
          clear hoff hoff'
          have HD0 := Lib.hid (hTb.below (Below.refl _ _).drew)
          have HBX := Lib.hid (And.intro hBb.drew (And.intro hsb (And.intro (hab.below (Below.refl _ _).drew) hF)))
          have hcells : ∀ W : World, Below wb.heap.size wb W → W.cell? ⟨gb, 0, none⟩ = some (.int .i64 kk) ∧ W.cell? ⟨gb, 1, none⟩ = some (.int .i64 nn) ∧ W.cell? ⟨gb, 2, none⟩ = some (.string sn) ∧ W.cell? ⟨gb, 3, none⟩ = some (.slice A1 b.length c1) ∧ W.cell? ⟨gb, 4, none⟩ = some (.slice A2 ks.length c2) := fun W hW => by
            have h := (hW.block _ (blk_lt hxb)).trans hxb
            exact ⟨blk_cell h 0, blk_cell h 1, blk_cell h 2, blk_cell h 3, blk_cell h 4⟩
          have CE := Lib.hid hcells
          have hd1 : Below wb.heap.size wb wb.drew := (Below.refl _ _).drew
          clear hTb hBb hsb hab hxb hcells
          go_wp2_with fail
          obtain ⟨q0, q1, q2, q3, q4⟩ := CE.out _ hd1
          go_region_with
            (first
              | (go_at_call 25; refine (rnew_any _).mono ?_; rintro e2 w5 ⟨rfl, hr5, hb5⟩; (have es : wb.drew.heap.size = wb.heap.size := rfl); rw [es] at hr5 hb5; have hy5 := below_chain hd1 hd1.size hb5; (have hT5 := Two.fresh5 HD0.out HBX.out.2.2.2 HBX.out.2.1 hr5 hb5); (have hcz := CE.out _ hy5); obtain ⟨z0, z1, z2, z3, z4⟩ := hcz)
              | (go_at_call 16; (have hP := play2_any hT5 ⟨kk, nn, sn, b, ks, A1, c1, A2, c2⟩ (HBX.out.2.2.1.below (hb5.mono HBX.out.2.1)) (by have := HTM.out; omega) HG.out.len (by simp [totM]) (by simp) (by have := HBL.out; dsimp only; omega) (by dsimp only; omega)); unfold OpV.val at hP; dsimp only at hP; refine hP.mono ?_; rintro e3 w6 ⟨⟨bb, rfl⟩, hT6, hb6⟩))
          all_goals
            obtain ⟨F', G', hW'⟩ := hT6
            obtain ⟨s1, s2⟩ := step_files m ⟨kk, nn, sn, b, ks, A1, c1, A2, c2⟩ HG.out
            have hfin : GoodL (stepM m ⟨kk, nn, sn, b, ks, A1, c1, A2, c2⟩).files ∧ totM (stepM m ⟨kk, nn, sn, b, ks, A1, c1, A2, c2⟩).files + bytesOf (ops.drop (k + 1)) ≤ 2097152 ∧ DiskAt w6 F' d (stepM m ⟨kk, nn, sn, b, ks, A1, c1, A2, c2⟩) ∧ (∀ k, F' k → B ≤ k) ∧ Below B w w6 ∧ B ≤ w6.heap.size := by
              have h1 := HTOT.out
              have h2 := HBD.out
              dsimp only at s2
              exact ⟨s1, by omega, hW'.one, hW'.f, (HBX.out.1.trans (hb5.mono HBX.out.2.1)).trans hb6, hW'.size⟩
            have HF := Lib.hid hfin
            clear hfin hW' hb6 hP hT5 hr5 hb5 hy5 s1 s2
            go_wp2_with fail
            exact ⟨⟨k + 1, F', _, by omega, by go_num, HF.out.2.2.1, HF.out.2.2.2.1, HF.out.1, HF.out.2.1, HF.out.2.2.2.2.1, HF.out.2.2.2.2.2⟩, by simp [intOf]; omega⟩
      · have i2 : ¬ (k : Int) < (n : Int) := by omega
        have HX := Lib.hid hBr
        clear hBr
        go_wp2_with fail
        go_ret
        exact ⟨rfl, by rw [← HB.out]; exact HX.out⟩
  · have hbad : loadL fs [] = none ∨ 16 < fs.length := by
      by_cases h16 : fs.length ≤ 16
      · left
        cases hl : loadL fs [] with
        | none => rfl
        | some l => exact absurd ⟨h16, l, hl⟩ hgood
      · right; omega
    have HBAD := Lib.hid hbad
    clear hbad hgood
    go_enter Try.func7, Try.ntmps7
    go_wp2_with fail
    refine (load_none w v fs hr (by omega) hnl HBAD.out).mono ?_
    rintro e w1 ⟨rfl, hb1⟩
    have hB1 : Below B w w1 := hb1.mono hBw
    have hs1 : B ≤ w1.heap.size := Nat.le_trans hBw hb1.size
    clear hb1
    go_wp2_with fail
    refine (fixed_any _).mono ?_
    rintro e w2 ⟨rfl, hb2⟩
    have hB2 := hB1.trans (hb2.mono hs1)
    have hs2 := Nat.le_trans hs1 hb2.size
    clear hB1 hb2
    go_wp2_with fail
    refine (fixed_any _).mono ?_
    rintro e w3 ⟨rfl, hb3⟩
    have HX := Lib.hid (hB2.trans (hb3.mono hs2))
    clear hB2 hb3
    go_wp2_with fail
    go_ret
    exact ⟨rfl, by rw [← HB.out]; exact HX.out⟩
end Go.Proofs.Ytcnooafnifpbaaa
