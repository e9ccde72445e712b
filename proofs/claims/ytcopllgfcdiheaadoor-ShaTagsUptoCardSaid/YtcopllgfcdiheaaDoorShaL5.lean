/- The walk of the law: the sum of a word and parts is the sum of their forms. -/
import Derived.Test.YtcopllgfcdiheaaDoorShaL4
import Derived.Test.YtcopllgfcdiheaaDoorShaG
import Derived.Test.YtcopllgfcdiheaaDoorRShaG
import Derived.BigQuiet
import Derived.Deep.QuietTactic
namespace Go.Proofs.YtcopllgfcdiheaaDoor
open Go.RowKit

theorem parts3 (w : World) (va vb vc : Value) (a b c : List UInt8) (t : TypeId) (ha : Rd w w.heap.size va a) (hb : Rd w w.heap.size vb b) (hc : Rd w w.heap.size vc c) :
    Parts (w.alloc (.cells #[va, vb, vc] t)) (w.alloc (.cells #[va, vb, vc] t)).heap.size (.slice (some ⟨w.heap.size, 0, none⟩) 3 3) [a, b, c] := by
  have hbw : Below w.heap.size w (w.alloc (.cells #[va, vb, vc] t)) := (Below.refl _ _).alloc (Nat.le_refl _) _
  have hg := heap_alloc_new w (.cells #[va, vb, vc] t)
  refine ⟨_, 3, rfl, fun _ => ⟨w.heap.size, 0, rfl, by simp, fun j hj => ?_⟩⟩
  rw [show (0 + j) = j by omega, blk_cell hg]
  rcases j with _ | _ | _ | j
  · exact ⟨va, rfl, ha.up (Nat.le_refl _) hbw⟩
  · exact ⟨vb, rfl, hb.up (Nat.le_refl _) hbw⟩
  · exact ⟨vc, rfl, hc.up (Nat.le_refl _) hbw⟩
  · exact absurd hj (by simp)
theorem parts1' (w : World) (va : Value) (a : List UInt8) (t : TypeId) (ha : Rd w w.heap.size va a) :
    Parts (w.alloc (.cells #[va] t)) (w.alloc (.cells #[va] t)).heap.size (.slice (some ⟨w.heap.size, 0, none⟩) 1 1) [a] := by
  have hbw : Below w.heap.size w (w.alloc (.cells #[va] t)) := (Below.refl _ _).alloc (Nat.le_refl _) _
  have hg := heap_alloc_new w (.cells #[va] t)
  refine ⟨_, 1, rfl, fun _ => ⟨w.heap.size, 0, rfl, by simp, fun j hj => ?_⟩⟩
  rw [show (0 + j) = j by omega, blk_cell hg]
  rcases j with _ | j
  · exact ⟨va, rfl, ha.up (Nat.le_refl _) hbw⟩
  · exact absurd hj (by simp)
theorem parts0' (w : World) (B : Nat) : Parts w B (.slice none 0 0) [] := ⟨none, 0, rfl, fun h => absurd h (by simp)⟩

set_option maxHeartbeats 4000000 in
set_option maxRecDepth 100000 in
theorem tags_walk (word : ByteArray) (va vb vc : Value) (a b c : List UInt8) (w : World) (ha : Rd w w.heap.size va a) (hb : Rd w w.heap.size vb b) (hc : Rd w w.heap.size vc c) (hsm : word.size ≤ maxLen)
    (fr : TypeId × Nat × Nat) (hk : w.heap[0]? = some (.cells kVals fr.1 fr.2)) (fr2 : TypeId × Nat × Nat) (hk2 : w.heap[1]? = some (.cells kVals fr2.1 fr2.2)) :
    Calls Tryd.prog 4 #[.agg #[.string word, va, vb, vc]] w fun e w' => e = .returned (.bool true) ∧ Below w.heap.size w w' := by
  have hn0 := blk_lt hk
  have hn1 := blk_lt hk2
  obtain ⟨Aa, ca, rfl⟩ := ha.form
  obtain ⟨Ab, cb, rfl⟩ := hb.form
  obtain ⟨Ac, cc, rfl⟩ := hc.form
  obtain ⟨Fw, hFw⟩ : ∃ F, F = formB (strBytes word) := ⟨_, rfl⟩
  obtain ⟨Fa, hFa⟩ : ∃ F, F = formB a := ⟨_, rfl⟩
  obtain ⟨Fb, hFb⟩ : ∃ F, F = formB b := ⟨_, rfl⟩
  obtain ⟨Fc, hFc⟩ : ∃ F, F = formB c := ⟨_, rfl⟩
  have lw : Fw.length ≤ 65539 := by rw [hFw]; exact formB_length _
  have la : Fa.length ≤ 65539 := by rw [hFa]; exact formB_length _
  have lb : Fb.length ≤ 65539 := by rw [hFb]; exact formB_length _
  have lc : Fc.length ≤ 65539 := by rw [hFc]; exact formB_length _
  have hT : ∀ W, Calls Tryd.prog 15 #[.slice none 0 0, .string word] W fun e w' => ∃ v', e = .returned v' ∧ Own w' W.heap.size v' Fw ∧ Below W.heap.size W w' := by
    intro W; rw [hFw]; exact refT_any (.slice none 0 0) word [] W (Rd.nil _ _) hsm (by simp)
  have hT2 : ∀ W, Calls Tryd.prog 17 #[.slice none 0 0, .string word] W fun e w' => ∃ v', e = .returned v' ∧ Own w' W.heap.size v' Fw ∧ Below W.heap.size W w' := by
    intro W; rw [hFw]; exact T_any (.slice none 0 0) word [] W (Rd.nil _ _) hsm (by simp)
  have hB : ∀ (x X : Value) (m F L : List UInt8), F = formB m → L.length ≤ 1000000 → ∀ W, Rd W W.heap.size X L → Rd W W.heap.size x m → Calls Tryd.prog 14 #[X, x] W fun e w' => ∃ v', e = .returned v' ∧ Own w' W.heap.size v' (L ++ F) ∧ Below W.heap.size W w' := by
    intro x X m F L hF hL W h1 h2
    have := refB_any X x L m W h1 h2 (by omega)
    rw [List.append_assoc] at this
    rw [hF]
    exact this
  have e3 : shaSum (((Fw ++ Fa) ++ Fb) ++ Fc) = shaSum (formB (strBytes word) ++ formBs [a, b, c]) := by rw [hFw, hFa, hFb, hFc]; simp [formBs]
  have e0 : shaSum Fw = shaSum (formB (strBytes word) ++ formBs []) := by rw [hFw]; simp [formBs]
  obtain ⟨S3, hS3⟩ : ∃ S, S = shaSum (((Fw ++ Fa) ++ Fb) ++ Fc) := ⟨_, rfl⟩
  obtain ⟨S0, hS0⟩ : ∃ S, S = shaSum Fw := ⟨_, rfl⟩
  obtain ⟨S1, hS1⟩ : ∃ S, S = shaSum (formB (strBytes word) ++ formBs [a]) := ⟨_, rfl⟩
  have E3 := Lib.hid (hS3.trans e3)
  have E0 := Lib.hid (hS0.trans e0)
  have E3' := Lib.hid hS3
  have E0' := Lib.hid hS0
  have E1 := Lib.hid hS1
  have HT := Lib.hid hT
  have HT2 := Lib.hid hT2
  have HB := Lib.hid hB
  have HFa := Lib.hid hFa
  have HFb := Lib.hid hFb
  have HFc := Lib.hid hFc
  have HL := Lib.hid (And.intro lw (And.intro la (And.intro lb lc)))
  clear hT hT2 hB e3 e0 hS3 hS0 hS1 hFw hFa hFb hFc lw la lb lc
  go_enter Tryd.func4, Tryd.ntmps4
  go_wp2
  go_quiet (fail)
  have hq0 : Below w.heap.size w ((w.alloc (.cells #[.string word, .slice Aa a.length ca, .slice Ab b.length cb, .slice Ac c.length cc] 28)).drewN nq) := below_drewN' ((Below.refl _ _).alloc (Nat.le_refl _) _) nq
  have hsa := ha.up (Nat.le_refl _) hq0
  have hsb := hb.up (Nat.le_refl _) hq0
  have hsc := hc.up (Nat.le_refl _) hq0
  generalize (w.alloc (.cells #[.string word, .slice Aa a.length ca, .slice Ab b.length cb, .slice Ac c.length cc] 28)).drewN nq = w0 at *
  clear ha hb hc
  go_wp2_with fail
  refine (HT.out w0).mono ?_
  rintro e wc1 ⟨v1, rfl, ho1, hc1⟩
  have hq1 := below_chain hq0 hq0.size hc1
  have hs1a := hsa.up (Nat.le_refl _) hc1
  have hs1b := hsb.up (Nat.le_refl _) hc1
  have hs1c := hsc.up (Nat.le_refl _) hc1
  clear hc1 hq0 hsa hsb hsc
  have hr1 := ho1.rd
  clear ho1
  go_wp2_with fail
  refine (HB.out _ _ a Fa _ HFa.out (by have := HL.out; (try simp only [List.length_append]); omega) _ hr1 hs1a).mono ?_
  rintro e wc2 ⟨v2, rfl, ho2, hc2⟩
  have hq2 := below_chain hq1 hq1.size hc2
  have hs2a := hs1a.up (Nat.le_refl _) hc2
  have hs2b := hs1b.up (Nat.le_refl _) hc2
  have hs2c := hs1c.up (Nat.le_refl _) hc2
  have hs21 := hr1.up (Nat.le_refl _) hc2
  clear hc2 hq1 hs1a hs1b hs1c hr1
  have hr2 := ho2.rd
  clear ho2
  go_wp2_with fail
  refine (HB.out _ _ b Fb _ HFb.out (by have := HL.out; (try simp only [List.length_append]); omega) _ hr2 hs2b).mono ?_
  rintro e wc3 ⟨v3, rfl, ho3, hc3⟩
  have hq3 := below_chain hq2 hq2.size hc3
  have hs3a := hs2a.up (Nat.le_refl _) hc3
  have hs3b := hs2b.up (Nat.le_refl _) hc3
  have hs3c := hs2c.up (Nat.le_refl _) hc3
  have hs32 := hr2.up (Nat.le_refl _) hc3
  clear hc3 hq2 hs2a hs2b hs2c hr2
  have hr3 := ho3.rd
  clear ho3
  go_wp2_with fail
  refine (HB.out _ _ c Fc _ HFc.out (by have := HL.out; (try simp only [List.length_append]); omega) _ hr3 hs3c).mono ?_
  rintro e wc4 ⟨v4, rfl, ho4, hc4⟩
  have hq4 := below_chain hq3 hq3.size hc4
  have hs4a := hs3a.up (Nat.le_refl _) hc4
  have hs4b := hs3b.up (Nat.le_refl _) hc4
  have hs4c := hs3c.up (Nat.le_refl _) hc4
  have hs43 := hr3.up (Nat.le_refl _) hc4
  clear hc4 hq3 hs3a hs3b hs3c hr3
  have hr4 := ho4.rd
  clear ho4
  go_wp2_with fail
  refine (rsum_any _ _ _ hr4 (by have := HL.out; simp only [List.length_append]; omega) fr2 ((hq4.block _ hn1).trans hk2)).mono ?_
  rintro e wc5 ⟨v5, rfl, ho5, hc5⟩
  have hq5 := below_chain hq4 hq4.size hc5
  have hs5a := hs4a.up (Nat.le_refl _) hc5
  have hs5b := hs4b.up (Nat.le_refl _) hc5
  have hs5c := hs4c.up (Nat.le_refl _) hc5
  have hs54 := hr4.up (Nat.le_refl _) hc5
  clear hc5 hq4 hs4a hs4b hs4c hr4
  rw [← E3'.out] at ho5
  have hr5 := ho5.rd
  clear ho5
  go_wp2_with fail
  refine (fixed_any _ fr ((hq5.block 0 hn0).trans hk)).mono ?_
  rintro e wc6 ⟨rfl, hc6⟩
  have hq6 := below_chain hq5 hq5.size hc6
  have hs6a := hs5a.up (Nat.le_refl _) hc6
  have hs6b := hs5b.up (Nat.le_refl _) hc6
  have hs6c := hs5c.up (Nat.le_refl _) hc6
  have hs65 := hr5.up (Nat.le_refl _) hc6
  clear hc6 hq5 hs5a hs5b hs5c hr5
  go_wp2_with fail
  have hbx7 : Below wc6.heap.size wc6 (wc6.alloc (.cells #[.slice Aa a.length ca, .slice Ab b.length cb, .slice Ac c.length cc] 22)) := (Below.refl _ _).alloc (Nat.le_refl _) _
  have hp7 := parts3 _ _ _ _ a b c 22 hs6a hs6b hs6c
  have hq7 := below_chain hq6 hq6.size hbx7
  have hs7a := hs6a.up (Nat.le_refl _) hbx7
  have hs7b := hs6b.up (Nat.le_refl _) hbx7
  have hs7c := hs6c.up (Nat.le_refl _) hbx7
  have hs75 := hs65.up (Nat.le_refl _) hbx7
  clear hbx7 hq6 hs6a hs6b hs6c hs65
  generalize wc6.alloc (.cells #[.slice Aa a.length ca, .slice Ab b.length cb, .slice Ac c.length cc] 22) = wc7 at *
  refine (tagged_any word _ [a, b, c] _ hp7 hsm (by simp) fr ((hq7.block 0 hn0).trans hk)).mono ?_
  rintro e wc8 ⟨v6, rfl, ho6, hc8⟩
  have hq8 := below_chain hq7 hq7.size hc8
  have hs8a := hs7a.up (Nat.le_refl _) hc8
  have hs8b := hs7b.up (Nat.le_refl _) hc8
  have hs8c := hs7c.up (Nat.le_refl _) hc8
  have hs85 := hs75.up (Nat.le_refl _) hc8
  clear hc8 hq7 hs7a hs7b hs7c hs75
  rw [← E3.out] at ho6
  have hr6 := ho6.rd
  clear ho6
  go_wp2_with fail
  refine (same_any _ _ S3 S3 _ hr6 hs85).mono ?_
  rintro e wc9 ⟨rfl, hc9⟩
  have hq9 := below_chain hq8 hq8.size hc9
  have hs9a := hs8a.up (Nat.le_refl _) hc9
  have hs9b := hs8b.up (Nat.le_refl _) hc9
  have hs9c := hs8c.up (Nat.le_refl _) hc9
  have hs95 := hs85.up (Nat.le_refl _) hc9
  have hs96 := hr6.up (Nat.le_refl _) hc9
  clear hc9 hq8 hs8a hs8b hs8c hs85 hr6
  rw [sameB_refl]
  go_wp2_with fail
  refine (tagged_any word _ [] _ (parts0' _ _) hsm (by simp) fr ((hq9.block 0 hn0).trans hk)).mono ?_
  rintro e wc10 ⟨v7, rfl, ho7, hc10⟩
  have hq10 := below_chain hq9 hq9.size hc10
  have hs10a := hs9a.up (Nat.le_refl _) hc10
  have hs10b := hs9b.up (Nat.le_refl _) hc10
  have hs10c := hs9c.up (Nat.le_refl _) hc10
  clear hc10 hq9 hs9a hs9b hs9c
  rw [← E0.out] at ho7
  have hr7 := ho7.rd
  clear ho7
  go_wp2_with fail
  refine (HT2.out _).mono ?_
  rintro e wc11 ⟨v8, rfl, ho8, hc11⟩
  have hq11 := below_chain hq10 hq10.size hc11
  have hs11a := hs10a.up (Nat.le_refl _) hc11
  have hs11b := hs10b.up (Nat.le_refl _) hc11
  have hs11c := hs10c.up (Nat.le_refl _) hc11
  have hs117 := hr7.up (Nat.le_refl _) hc11
  clear hc11 hq10 hs10a hs10b hs10c hr7
  have hr8 := ho8.rd
  clear ho8
  go_wp2_with fail
  refine (sum_any _ _ _ hr8 (by have := HL.out; omega) fr ((hq11.block 0 hn0).trans hk)).mono ?_
  rintro e wc12 ⟨v9, rfl, ho9, hc12⟩
  have hq12 := below_chain hq11 hq11.size hc12
  have hs12a := hs11a.up (Nat.le_refl _) hc12
  have hs12b := hs11b.up (Nat.le_refl _) hc12
  have hs12c := hs11c.up (Nat.le_refl _) hc12
  have hs127 := hs117.up (Nat.le_refl _) hc12
  have hs128 := hr8.up (Nat.le_refl _) hc12
  clear hc12 hq11 hs11a hs11b hs11c hs117 hr8
  rw [← E0'.out] at ho9
  have hr9 := ho9.rd
  clear ho9
  go_wp2_with fail
  refine (same_any _ _ S0 S0 _ hs127 hr9).mono ?_
  rintro e wc13 ⟨rfl, hc13⟩
  have hq13 := below_chain hq12 hq12.size hc13
  have hs13a := hs12a.up (Nat.le_refl _) hc13
  have hs13b := hs12b.up (Nat.le_refl _) hc13
  have hs13c := hs12c.up (Nat.le_refl _) hc13
  have hs137 := hs127.up (Nat.le_refl _) hc13
  have hs139 := hr9.up (Nat.le_refl _) hc13
  clear hc13 hq12 hs12a hs12b hs12c hs127 hr9
  rw [sameB_refl]
  go_wp2_with fail
  have hbx14 : Below wc13.heap.size wc13 (wc13.alloc (.cells #[.slice Aa a.length ca] 22)) := (Below.refl _ _).alloc (Nat.le_refl _) _
  have hp14 := parts1' _ _ a 22 hs13a
  have hq14 := below_chain hq13 hq13.size hbx14
  have hs14a := hs13a.up (Nat.le_refl _) hbx14
  have hs14b := hs13b.up (Nat.le_refl _) hbx14
  have hs14c := hs13c.up (Nat.le_refl _) hbx14
  clear hbx14 hq13 hs13a hs13b hs13c
  generalize wc13.alloc (.cells #[.slice Aa a.length ca] 22) = wc14 at *
  refine (tagged_any word _ [a] _ hp14 hsm (by simp) fr ((hq14.block 0 hn0).trans hk)).mono ?_
  rintro e wc15 ⟨v10, rfl, ho10, hc15⟩
  have hq15 := below_chain hq14 hq14.size hc15
  have hs15a := hs14a.up (Nat.le_refl _) hc15
  have hs15b := hs14b.up (Nat.le_refl _) hc15
  have hs15c := hs14c.up (Nat.le_refl _) hc15
  clear hc15 hq14 hs14a hs14b hs14c
  rw [← E1.out] at ho10
  have hr10 := ho10.rd
  clear ho10
  go_wp2_with fail
  have hbx16 : Below wc15.heap.size wc15 (wc15.alloc (.cells #[.slice Aa a.length ca] 22)) := (Below.refl _ _).alloc (Nat.le_refl _) _
  have hp16 := parts1' _ _ a 22 hs15a
  have hq16 := below_chain hq15 hq15.size hbx16
  have hs16a := hs15a.up (Nat.le_refl _) hbx16
  have hs16b := hs15b.up (Nat.le_refl _) hbx16
  have hs16c := hs15c.up (Nat.le_refl _) hbx16
  have hs1610 := hr10.up (Nat.le_refl _) hbx16
  clear hbx16 hq15 hs15a hs15b hs15c hr10
  generalize wc15.alloc (.cells #[.slice Aa a.length ca] 22) = wc16 at *
  refine (rtagged_any word _ [a] _ hp16 hsm (by simp) fr2 ((hq16.block _ hn1).trans hk2)).mono ?_
  rintro e wc17 ⟨v11, rfl, ho11, hc17⟩
  have hq17 := below_chain hq16 hq16.size hc17
  have hs17a := hs16a.up (Nat.le_refl _) hc17
  have hs17b := hs16b.up (Nat.le_refl _) hc17
  have hs17c := hs16c.up (Nat.le_refl _) hc17
  have hs1710 := hs1610.up (Nat.le_refl _) hc17
  clear hc17 hq16 hs16a hs16b hs16c hs1610
  rw [← E1.out] at ho11
  have hr11 := ho11.rd
  clear ho11
  go_wp2_with fail
  refine (same_any _ _ S1 S1 _ hs1710 hr11).mono ?_
  rintro e wc18 ⟨rfl, hc18⟩
  have hq18 := below_chain hq17 hq17.size hc18
  have hs18a := hs17a.up (Nat.le_refl _) hc18
  have hs18b := hs17b.up (Nat.le_refl _) hc18
  have hs18c := hs17c.up (Nat.le_refl _) hc18
  have hs1810 := hs1710.up (Nat.le_refl _) hc18
  have hs1811 := hr11.up (Nat.le_refl _) hc18
  clear hc18 hq17 hs17a hs17b hs17c hs1710 hr11
  rw [sameB_refl]
  go_wp2_with fail
  go_ret
  exact ⟨rfl, hq18⟩
end Go.Proofs.YtcopllgfcdiheaaDoor
