/- The law DiskScripts, walked. -/
import Derived.Test.YtcnooafnifpbaaaPlayE
import Derived.Test.YtcnooafnifpbaaaDiskL5
namespace Go.Proofs.Ytcnooafnifpbaaa
open Go Go.RowKit
set_option linter.unusedVariables false

/-- a row of calls handed in -/
def RdOps (w : World) (B : Nat) (v : Value) (ops : List OpV) : Prop :=
  ∃ A c, v = .slice A ops.length c ∧ ops.length ≤ c ∧ c ≤ maxLen ∧ (0 < ops.length → ∃ b o, A = some ⟨b, o, none⟩ ∧ b < B ∧ ∀ j (h : j < ops.length),
    w.cell? ⟨b, o + j * 5, none⟩ = some (.int .i64 ops[j].k) ∧ w.cell? ⟨b, o + j * 5 + 1, none⟩ = some (.int .i64 ops[j].n) ∧ w.cell? ⟨b, o + j * 5 + 2, none⟩ = some (.string ops[j].s) ∧
    w.cell? ⟨b, o + j * 5 + 3, none⟩ = some (.slice ops[j].A1 ops[j].b.length ops[j].c1) ∧ w.cell? ⟨b, o + j * 5 + 4, none⟩ = some (.slice ops[j].A2 ops[j].ks.length ops[j].c2) ∧ ops[j].At w B)
def bytesOf (ops : List OpV) : Nat := (ops.map fun o => o.b.length).sum
theorem bytes_drop (ops : List OpV) (k : Nat) (h : k < ops.length) : bytesOf (ops.drop k) = ops[k].b.length + bytesOf (ops.drop (k + 1)) := by
  unfold bytesOf
  rw [List.drop_eq_getElem_cons h]
  simp only [List.map_cons, List.sum_cons]
theorem TwoX.below {w w' : World} {B d e : Nat} {m n : DM} (h : TwoX w B d e m n) (hb : Below w.heap.size w w') : TwoX w' B d e m n := by
  obtain ⟨F, G, h⟩ := h
  exact ⟨F, G, h.below hb⟩
theorem TwoX.made {w1 w2 : World} {B d e : Nat} {m : DM} {C D : Nat} (h1 : DiskFrom w1 C d m) (hC : B ≤ C) (h2 : RefFrom w2 D e m) (hD : w1.heap.size ≤ D) (hb : Below w1.heap.size w1 w2) (hs : B ≤ w1.heap.size) : TwoX w2 B d e m m := by
  obtain ⟨F, h1, hF⟩ := h1
  obtain ⟨G, h2, hG⟩ := h2
  exact ⟨F, G, h1.below hb, h2, fun k hf hg => by have := h1.lt k hf; have := hG k hg; omega, fun k hk => Nat.le_trans hC (hF k hk), fun k hk => by have := hG k hk; omega, Nat.le_trans hs hb.size⟩

set_option maxHeartbeats 4000000 in
theorem scripts_any (w : World) (v vo : Value) (fs : List (ByteArray × List UInt8)) (ops : List OpV) (hr : RdFs w w.heap.size v fs) (ho : RdOps w w.heap.size vo ops) (hlen : (fs.map fun f => f.2.length).sum ≤ 1048576) (hn : fs.length ≤ 1048576) (hnl : ∀ f ∈ fs, f.1.size ≤ maxLen)
    (hb : bytesOf ops ≤ 1048576) (hk : ∀ o ∈ ops, o.ks.length ≤ 1048576) :
    Calls Try.prog 3 #[v, vo] w fun e w' => e = .returned (.bool true) ∧ Below w.heap.size w w' := by
  obtain ⟨B, hB⟩ : ∃ B, B = w.heap.size := ⟨_, rfl⟩
  have hBw : B ≤ w.heap.size := by omega
  have hr0 : RdFs w B v fs := by rw [hB]; exact hr
  rw [← hB] at ho
  obtain ⟨A, c, rfl, hoc, hom, hop⟩ := ho
  unfold maxLen at hom
  obtain ⟨n, hn⟩ : ∃ n, n = ops.length := ⟨_, rfl⟩
  rw [← hn] at hoc ⊢
  have HN := Lib.hid hn
  have HP := Lib.hid hop
  have HB := Lib.hid hB
  have HKS := Lib.hid hk
  have HBY := Lib.hid hb
  clear hB hn hop hk hb
  by_cases hgood : fs.length ≤ 16 ∧ ∃ l, loadL fs [] = some l
  · obtain ⟨h16, l, hl⟩ := hgood
    obtain ⟨hgl, hle⟩ := GoodL.load hl h16
    have htt : totM l ≤ 1048576 := by rw [hle, new_tot]; exact hlen
    have HL := Lib.hid hl
    have HG := Lib.hid hgl
    have HT := Lib.hid htt
    clear hle hl hgl htt
    go_enter Try.func3, Try.ntmps3
    go_wp2_with fail
    refine (load_some w v fs hr (by omega) hnl l HL.out h16).mono ?_
    rintro e w1 ⟨d, rfl, h1, hb1⟩
    rw [← HB.out] at h1
    have hB1 : Below B w w1 := hb1.mono hBw
    have hs1 : B ≤ w1.heap.size := Nat.le_trans hBw hb1.size
    clear hb1
    go_wp2_with fail
    refine (rload_some w1 v fs ((hr0.below hB1).more hs1) (by omega) hnl l HL.out h16).mono ?_
    rintro e w2 ⟨d2, rfl, h2, hb2⟩
    have hB2 := hB1.trans (hb2.mono hs1)
    have hs2 := Nat.le_trans hs1 hb2.size
    have hT2 : TwoX w2 B d d2 ⟨l, false, 0⟩ ⟨l, false, 0⟩ := TwoX.made h1 (Nat.le_refl _) h2 (Nat.le_refl _) hb2 hs1
    clear h1 h2 hB1 hb2
    go_wp2_with fail
    refine (fixed_any _).mono ?_
    rintro e w3 ⟨rfl, hb3⟩
    have hB3 := hB2.trans (hb3.mono hs2)
    have hs3 := Nat.le_trans hs2 hb3.size
    have hT3 := hT2.below hb3
    clear hB2 hb3 hT2 hr0 hr
    go_wp2_with fail
    go_loopw [5, 6, 7, 8, 41] (fun v5 v6 v7 v8 i wr => ∃ (k d e : Nat) (m : DM), k ≤ n ∧ v5 = .pointer (some ⟨d, 0, none⟩) ∧ v6 = .int .i64 0 ∧ v7 = .pointer (some ⟨e, 0, none⟩) ∧ v8 = .int .i64 0 ∧ i = .int .i64 (k : Int) ∧ TwoX wr B d e m m ∧ GoodL m.files ∧ totM m.files + bytesOf (ops.drop k) ≤ 2097152 ∧ Below B w wr ∧ B ≤ wr.heap.size)
      (fun _ _ _ _ i _ => n - (intOf i).toNat)
    case atStart => exact ⟨0, d, d2, ⟨l, false, 0⟩, Nat.zero_le _, rfl, rfl, rfl, rfl, rfl, hT3, HG.out, by have h1 := HT.out; have h2 := HBY.out; simp only [List.drop_zero]; show totM l + _ ≤ _; omega, hB3, hs3⟩
    case round =>
      obtain ⟨k, d, e, m, hk, rfl, rfl, rfl, rfl, rfl, hT, hG, htot, hBr, hsr⟩ := hrel
      by_cases hlt : k < n
      · have hkl : k < ops.length := by have := HN.out; omega
        obtain ⟨g, o, rfl, hgl, hcell⟩ := HP.out (by omega)
        obtain ⟨x0, x1, x2, x3, x4, hat⟩ := hcell k hkl
        have hks := HKS.out _ (List.getElem_mem hkl)
        have hbd := bytes_drop ops k hkl
        obtain ⟨op, hop⟩ : ∃ op, op = ops[k] := ⟨_, rfl⟩
        rw [← hop] at x0 x1 x2 x3 x4 hat hks hbd
        obtain ⟨kk, nn, sn, b, ks, A1, c1, A2, c2⟩ := op
        dsimp only at x0 x1 x2 x3 x4 hks hbd
        have hatr := hat.below hBr
        have y0 := (hBr.cell (p := ⟨g, o + k * 5, none⟩) hgl).trans x0
        have y1 := (hBr.cell (p := ⟨g, o + k * 5 + 1, none⟩) hgl).trans x1
        have y2 := (hBr.cell (p := ⟨g, o + k * 5 + 2, none⟩) hgl).trans x2
        have y3 := (hBr.cell (p := ⟨g, o + k * 5 + 3, none⟩) hgl).trans x3
        have y4 := (hBr.cell (p := ⟨g, o + k * 5 + 4, none⟩) hgl).trans x4
        have i1 : (0 : Int) ≤ (k : Int) := by omega
        have i2 : (k : Int) < (n : Int) := by omega
        have HG := Lib.hid hG
        have htm : totM m.files ≤ 2097152 := by omega
        have hbl : b.length ≤ 2097152 := by omega
        have HTM := Lib.hid htm
        have HBL := Lib.hid hbl
        have HTOT := Lib.hid htot
        have HBD := Lib.hid hbd
        clear hcell x0 x1 x2 x3 x4 hop hat hG htot hbd htm hbl
        have hnine : kk = 9 ∨ ¬ kk = 9 := by omega
        rcases hnine with rfl | h9
        · have hbk := (Below.refl wr.heap.size wr).alloc (Nat.le_refl _) (.cells #[.int .i64 9, .int .i64 nn, .string sn, .slice A1 b.length c1, .slice A2 ks.length c2] 35)
          have hTb := hT.below hbk
          have hBb := hBr.alloc hsr (.cells #[.int .i64 9, .int .i64 nn, .string sn, .slice A1 b.length c1, .slice A2 ks.length c2] 35)
          have hsb : B ≤ (wr.alloc (.cells #[.int .i64 9, .int .i64 nn, .string sn, .slice A1 b.length c1, .slice A2 ks.length c2] 35)).heap.size := by simp; omega
          have hab := hatr.below (hbk.mono hsr)
          have hxb := heap_alloc_new wr (.cells #[.int .i64 9, .int .i64 nn, .string sn, .slice A1 b.length c1, .slice A2 ks.length c2] 35)
          go_wp2_with fail
          obtain ⟨wb, hwb⟩ : ∃ wb, wb = wr.alloc (.cells #[.int .i64 9, .int .i64 nn, .string sn, .slice A1 b.length c1, .slice A2 ks.length c2] 35) := ⟨_, rfl⟩
          rw [← hwb] at hTb hBb hsb hab hxb ⊢
          obtain ⟨gb, hgb⟩ : ∃ gb, gb = wr.heap.size := ⟨_, rfl⟩
          rw [← hgb] at hxb
          simp only [← hgb]
          obtain ⟨F, G, hTw⟩ := hTb
          have hbig : totM m.files ≤ 1000000000 := by have := HTM.out; omega
          have hml : m.files.length ≤ 1000 := by have := HG.out.len; omega
          have hkl9 : ks.length ≤ 1000000000 := by omega
          obtain ⟨g1, g2, g3, g4, g5⟩ := HG.out.new ks
          have hsum : ((crashM m.files ks).map fun f => f.2.length).sum ≤ 1000000000 := Nat.le_trans g4 hbig
          have HNEW := Lib.hid (And.intro g1 (And.intro g2 (And.intro g3 (And.intro hsum (And.intro g5 g4)))))
          have HBM := Lib.hid (And.intro hbig (And.intro hml hkl9))
          clear hbk hT hBr hsr hatr hwb hgb y0 y1 y2 y3 y4 g1 g2 g3 g4 g5 hsum hbig hml hkl9 hks
          refine (crash_any hTw.one _ ks (hab.ks.more hsb) HBM.out.1 HBM.out.2.1).mono ?_
          rintro e1 w4 ⟨v4, rfl, ho4, hb4⟩
          have z4 := (hb4.cell (p := ⟨gb, 4, none⟩) (blk_lt hxb)).trans (blk_cell hxb 4)
          simp at z4
          have hT4 := hTw.below hb4
          have hB4 := hBb.trans (hb4.mono hsb)
          have hs4 := Nat.le_trans hsb hb4.size
          have hk4 := hab.below (hb4.mono hsb)
          clear hTw hBb hsb hab hxb hb4
          go_wp2_with fail
          refine (rcrash_any hT4.two _ ks (hk4.ks.more hs4) HBM.out.1 HBM.out.2.2 HBM.out.2.1).mono ?_
          rintro e2 w5 ⟨v5, rfl, ho5, hb5⟩
          have hB5 := hB4.trans (hb5.mono hs4)
          have hs5 := Nat.le_trans hs4 hb5.size
          have ho45 := ho4.below hb5
          clear hT4 hB4 hs4 hk4 hb5 ho4 z4
          go_wp2_with fail
          refine (same_any _ _ _ _ ho45.rdFs ho5.rdFs).mono ?_
          rintro e3 w6 ⟨rfl, hb6⟩
          have hB6 := hB5.trans (hb6.mono hs5)
          have hs6 := Nat.le_trans hs5 hb6.size
          have ho46 := ho45.below hb6
          have ho56 := ho5.below hb6
          clear hB5 hs5 hb6 ho45 ho5
          go_wp2_with fail
          refine (load_some w6 v4 (crashM m.files ks) ho46.rdFs HNEW.out.2.2.2.1 HNEW.out.2.2.2.2.1 _ HNEW.out.1 HNEW.out.2.2.1).mono ?_
          rintro e4 w7 ⟨d', rfl, h7, hb7⟩
          have hB7 := hB6.trans (hb7.mono hs6)
          have hs7 := Nat.le_trans hs6 hb7.size
          have ho57 := ho56.below hb7
          clear hB6 hb7 ho46 ho56
          go_wp2_with fail
          refine (rload_some w7 v5 (crashM m.files ks) ho57.rdFs HNEW.out.2.2.2.1 HNEW.out.2.2.2.2.1 _ HNEW.out.1 HNEW.out.2.2.1).mono ?_
          rintro e5 w8 ⟨e', rfl, h8, hb8⟩
          have hfin : GoodL (asNew (crashM m.files ks)) ∧ totM (asNew (crashM m.files ks)) + bytesOf (ops.drop (k + 1)) ≤ 2097152 ∧ TwoX w8 B d' e' ⟨asNew (crashM m.files ks), false, 0⟩ ⟨asNew (crashM m.files ks), false, 0⟩ ∧ Below B w w8 ∧ B ≤ w8.heap.size := by
            have h1 := HTOT.out
            have h2 := HBD.out
            have h3 := HNEW.out.2.2.2.2.2
            refine ⟨HNEW.out.2.1, by rw [new_tot]; omega, TwoX.made h7 hs6 h8 (Nat.le_refl _) hb8 hs7, hB7.trans (hb8.mono hs7), Nat.le_trans hs7 hb8.size⟩
          have HF := Lib.hid hfin
          clear hfin h7 h8 hB7 hb8 ho57 hs6 hs7
          go_wp2_with fail
          exact ⟨⟨k + 1, d', e', ⟨asNew (crashM m.files ks), false, 0⟩, by omega, rfl, rfl, rfl, rfl, by go_num, HF.out.2.2.1, HF.out.1, HF.out.2.1, HF.out.2.2.2.1, HF.out.2.2.2.2⟩, by simp [intOf]; omega⟩
        · have f1 : (kk == 9) = false := by simp [h9]
          have hbk := (Below.refl wr.heap.size wr).alloc (Nat.le_refl _) (.cells #[.int .i64 kk, .int .i64 nn, .string sn, .slice A1 b.length c1, .slice A2 ks.length c2] 35)
          have hTb := hT.below hbk
          have hBb := hBr.alloc hsr (.cells #[.int .i64 kk, .int .i64 nn, .string sn, .slice A1 b.length c1, .slice A2 ks.length c2] 35)
          have hab := hatr.below (hbk.mono hsr)
          have hsb : B ≤ (wr.alloc (.cells #[.int .i64 kk, .int .i64 nn, .string sn, .slice A1 b.length c1, .slice A2 ks.length c2] 35)).heap.size := by simp; omega
          obtain ⟨F, G, hTw⟩ := hTb
          have PL := Lib.hid (play_any hTw ⟨kk, nn, sn, b, ks, A1, c1, A2, c2⟩ hab (by have := HTM.out; omega) HG.out.len (by have := HBL.out; dsimp only; omega) (by dsimp only; omega))
          have HX := Lib.hid (And.intro hBb hsb)
          clear hbk hT hBb hsb hab hatr hBr hsr hTw hks
          go_wp2_with fail
          refine PL.out.mono ?_
          rintro e1 w4 ⟨rfl, hT4, hb4⟩
          obtain ⟨s1, s2⟩ := step_files m ⟨kk, nn, sn, b, ks, A1, c1, A2, c2⟩ HG.out
          have hfin : GoodL (stepM m ⟨kk, nn, sn, b, ks, A1, c1, A2, c2⟩).files ∧ totM (stepM m ⟨kk, nn, sn, b, ks, A1, c1, A2, c2⟩).files + bytesOf (ops.drop (k + 1)) ≤ 2097152 ∧ TwoX w4 B d e (stepM m ⟨kk, nn, sn, b, ks, A1, c1, A2, c2⟩) (stepM m ⟨kk, nn, sn, b, ks, A1, c1, A2, c2⟩) ∧ Below B w w4 ∧ B ≤ w4.heap.size := by
            have h1 := HTOT.out
            have h2 := HBD.out
            dsimp only at s2
            exact ⟨s1, by omega, hT4, HX.out.1.trans hb4, Nat.le_trans HX.out.2 hb4.size⟩
          have HF := Lib.hid hfin
          clear hfin hT4 hb4 s1 s2
          go_wp2_with fail
          exact ⟨⟨k + 1, d, e, _, by omega, rfl, rfl, rfl, rfl, by go_num, HF.out.2.2.1, HF.out.1, HF.out.2.1, HF.out.2.2.2.1, HF.out.2.2.2.2⟩, by simp [intOf]; omega⟩
      · have i2 : ¬ (k : Int) < (n : Int) := by omega
        obtain ⟨F, G, hTw⟩ := hT
        have hbig : totM m.files ≤ 1000000000 := by omega
        have hml : m.files.length ≤ 1000 := by have := hG.len; omega
        have HBM := Lib.hid (And.intro hbig hml)
        have H0 := Lib.hid (hTw.below (Below.refl _ _).drew)
        have HB0 := Lib.hid (And.intro hBr.drew hsr)
        clear hbig hml hTw hG htot hBr hsr
        go_wp2_with fail
        go_region_held_law (fun W => W.cell? ⟨e, 1, none⟩ = some (.bool m.off))
          (first | exact h9.two.offc' | exact h8.two.offc' | exact h7.two.offc' | exact h6.two.offc' | exact h5.two.offc' | exact H0.out.two.offc')
          (first
            | (go_at_call 17; refine (down_any H0.out.one).mono ?_; rintro e1 w4 ⟨rfl, rfl⟩)
            | (go_at_call 18; refine (waiting_any H0.out.one HBM.out.1).mono ?_; rintro e2 w5 ⟨rfl, hb5⟩; have h5 := H0.out.below hb5; have hq5 := HB0.out.1.trans (hb5.mono HB0.out.2))
            | (go_at_call 19; refine (rwaiting_any h5.two HBM.out.1).mono ?_; rintro e3 w6 ⟨rfl, hb6⟩; have h6 := h5.below hb6; have hq6 := hq5.trans (hb6.mono h5.size))
            | (go_at_call 13; refine (crash_any h6.one _ [] (rdL_nil _ _) HBM.out.1 HBM.out.2).mono ?_; rintro e4 w7 ⟨v7, rfl, ho7, hb7⟩; have h7 := h6.below hb7; have hq7 := hq6.trans (hb7.mono h6.size))
            | (go_at_call 14; refine (rcrash_any h7.two _ [] (rdL_nil _ _) HBM.out.1 (by simp) HBM.out.2).mono ?_; rintro e5 w8 ⟨v8, rfl, ho8, hb8⟩; have h8 := h7.below hb8; have ho78 := ho7.below hb8; have hq8 := hq7.trans (hb8.mono h7.size))
            | (go_at_call 15; refine (same_any _ _ _ _ ho78.rdFs ho8.rdFs).mono ?_; rintro e6 w9 ⟨rfl, hb9⟩; have h9 := h8.below hb9; have hq9 := hq8.trans (hb9.mono h8.size)))
        go_wp2_with fail
        go_ret
        exact ⟨rfl, by rw [← HB.out]; exact hq9⟩
  · have hbad : loadL fs [] = none ∨ 16 < fs.length := by
      by_cases h16 : fs.length ≤ 16
      · left
        cases hl : loadL fs [] with
        | none => rfl
        | some l => exact absurd ⟨h16, l, hl⟩ hgood
      · right; omega
    have HBAD := Lib.hid hbad
    clear hbad hgood
    go_enter Try.func3, Try.ntmps3
    go_wp2_with fail
    refine (load_none w v fs hr (by omega) hnl HBAD.out).mono ?_
    rintro e w1 ⟨rfl, hb1⟩
    have hB1 : Below B w w1 := hb1.mono hBw
    have hs1 : B ≤ w1.heap.size := Nat.le_trans hBw hb1.size
    clear hb1
    go_wp2_with fail
    refine (rload_none w1 v fs ((hr0.below hB1).more hs1) (by omega) hnl HBAD.out).mono ?_
    rintro e w2 ⟨⟨p, rfl⟩, hb2⟩
    have hB2 := hB1.trans (hb2.mono hs1)
    have hs2 := Nat.le_trans hs1 hb2.size
    clear hB1 hb2
    go_wp2_with fail
    refine (fixed_any _).mono ?_
    rintro e w3 ⟨rfl, hb3⟩
    have HX := Lib.hid (hB2.trans (hb3.mono hs2))
    clear hB2 hb3
    go_wp2_with fail
    go_ret
    exact ⟨rfl, by rw [← HB.out]; exact HX.out⟩
end Go.Proofs.Ytcnooafnifpbaaa
