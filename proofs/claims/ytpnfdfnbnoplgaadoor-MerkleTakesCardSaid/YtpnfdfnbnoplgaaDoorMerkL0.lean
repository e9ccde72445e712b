
/- The law's fixed answers about roots and proofs. -/
import Derived.Test.YtpnfdfnbnoplgaaDoorMerkJ
import Derived.Test.YtpnfdfnbnoplgaaDoorConv
import Derived.Test.YtpnfdfnbnoplgaaDoorHeldBy
namespace Go.Proofs.YtpnfdfnbnoplgaaDoor
open Go Go.RowKit
set_option linter.unusedVariables false
variable {w w' : World} {B : Nat}

def wK : ByteArray := ⟨#[107]⟩
def pK : Pr := (wK, [1])
theorem fixR0 : rootM [] = (rootE, 0) := rfl
theorem rowT_single (x : List UInt8) : rowT nodeH [x] = x := rowT_one _ _ (Nat.le_refl _)
theorem leaves_one (s : ByteArray) (l : List UInt8) : leaves [(s, l)] = [leafH s l] := rfl
theorem fixR1 : rootM [pK] = (rootH 1 (leafH wK [1]), 0) := by
  have h : ordB [pK] = true := by decide
  rw [rootM_some h (by simp)]
  have e : rowT nodeH (leaves [pK]) = leafH wK [1] := by unfold pK; rw [leaves_one, rowT_single]
  rw [e, List.length_singleton]
theorem fixP : proveM [] wK = (⟨0, []⟩, 0) := by
  rw [proveM_yes (by decide) (by decide)]
  rfl
theorem fixA : absentB rootE wK ⟨0, []⟩ = true := by
  rw [absentB_nil (by decide)]
  simp [sameB]
theorem fixV (r : List UInt8) : verifyB r wK [] ⟨0, []⟩ = false := rfl
theorem Below.heap_alloc' (w : World) (o : Obj) : Below w.heap.size w (w.alloc o) := (Below.refl _ _).alloc (Nat.le_refl _) _
theorem RdP.nil (w : World) (B : Nat) : RdP w B (.slice none 0 0) [] := ⟨none, 0, rfl, by simp, by simp [maxLen], fun h => absurd h (by simp)⟩

set_option maxHeartbeats 4000000 in
theorem fixed_any (w : World) (fr : TypeId × Nat × Nat) (hk : w.heap[0]? = some (.cells kVals fr.1 fr.2)) :
    Calls Tryd.prog 11 #[] w fun e w' => e = .returned (.bool true) ∧ Below w.heap.size w w' := by
  have hn0 := blk_lt hk
  have HK := Lib.hid hk
  clear hk
  go_enter Tryd.func11, Tryd.ntmps11
  go_wp2_with fail
  refine (rootM_any w _ [] (RdP.nil _ _) (by simp) fr HK.out).mono ?_
  rintro e w1 ⟨v1, rfl, ho1, hb1⟩
  rw [fixR0] at ho1 ⊢
  obtain ⟨A1, c1, rfl⟩ := ho1.form' (n := 32) (tagH_length _ _)
  obtain ⟨p1, hp1⟩ : ∃ p1, p1 = w1.alloc (.cells #[.int .u8 1] 5) := ⟨_, rfl⟩
  have hbp1 : Below w1.heap.size w1 p1 := by rw [hp1]; exact (Below.refl _ _).alloc (Nat.le_refl _) _
  have hr1 : Rd p1 p1.heap.size (.slice (some ⟨w1.heap.size, 0, none⟩) 1 1) [1] := by rw [hp1]; exact (rd_lit w1 #[.int .u8 1] [1] 1 rfl (by simp [bcells, bval]) (by simp [maxLen])).more (by simp)
  have hps1 : p1.heap.size = w1.heap.size + 1 := by rw [hp1]; simp
  have hbp2 : Below p1.heap.size p1 (p1.alloc (.cells #[.string wK, .slice (some ⟨w1.heap.size, 0, none⟩) 1 1] 25)) := (Below.refl _ _).alloc (Nat.le_refl _) _
  have hq2 := below_chain hb1 hb1.size (below_chain hbp1 hbp1.size hbp2)
  have hP : RdP (p1.alloc (.cells #[.string wK, .slice (some ⟨w1.heap.size, 0, none⟩) 1 1] 25)) (p1.alloc (.cells #[.string wK, .slice (some ⟨w1.heap.size, 0, none⟩) 1 1] 25)).heap.size (.slice (some ⟨p1.heap.size, 0, none⟩) 1 1) [pK] := by
    have hg := heap_alloc_new p1 (.cells #[.string wK, .slice (some ⟨w1.heap.size, 0, none⟩) 1 1] 25)
    refine ⟨_, _, rfl, Nat.le_refl _, by simp [maxLen], fun _ => ⟨p1.heap.size, 0, rfl, by simp, fun j hj => ?_⟩⟩
    obtain rfl : j = 0 := by simp at hj; exact hj
    exact ⟨blk_cell hg 0, _, blk_cell hg 1, (hr1.below hbp2).more hbp2.size⟩
  have hk2 := (hq2.block _ hn0).trans HK.out
  have C2 := rootM_any _ _ [pK] hP (by intro p hp; simp at hp; subst hp; decide) fr hk2
  rw [hps1, hp1] at C2
  rw [hp1] at hq2
  clear hp1 hbp1 hr1 hps1 hbp2 hP hk2
  go_wp2_with fail
  refine C2.mono ?_
  rintro e w2 ⟨v2, rfl, ho2, hb2⟩
  rw [fixR1] at ho2 ⊢
  have hq3 := below_chain hq2 hq2.size hb2
  obtain ⟨A2, c2, rfl⟩ := ho2.form' (n := 32) (tagH_length _ _)
  have ho1' := ho1
  clear C2
  dsimp only at ho2
  have hr1 : Rd w2 w2.heap.size (.slice A1 32 c1) rootE := (ho1.rd.below (((((Below.refl w1.heap.size w1).alloc (Nat.le_refl _) _).alloc (by simp) _).trans (hb2.mono (by simp; omega))))).more (Nat.le_trans (by simp; omega) hb2.size)
  have hr2 : Rd w2 w2.heap.size (.slice A2 32 c2) (rootH 1 (leafH wK [1])) := ho2.rd
  clear ho1 ho1' ho2 hb2 hq2 hb1
  go_wp2_with fail
  refine (prove_any [] wK _ w2 (RdP.nil _ _) (by simp) (by decide) fr ((hq3.block _ hn0).trans HK.out)).mono ?_
  rintro e w3 ⟨v3, rfl, ⟨lv, hv3, hol⟩, hb3⟩
  rw [fixP] at hol hv3 ⊢
  obtain ⟨A3, c3, hlv⟩ := hol.form
  dsimp only at hv3 hol
  subst hlv
  subst hv3
  have hq4 := below_chain hq3 hq3.size hb3
  have hr1 := hr1.up (Nat.le_refl _) hb3
  have hr2 := hr2.up (Nat.le_refl _) hb3
  clear hb3 hq3
  simp only [List.length_nil] at hol ⊢
  obtain ⟨x4, hx4⟩ : ∃ x4, x4 = w3.alloc (.cells #[.int .i64 0, .slice A3 0 c3] 33) := ⟨_, rfl⟩
  have hbx4 : Below w3.heap.size w3 x4 := by rw [hx4]; exact (Below.refl _ _).alloc (Nat.le_refl _) _
  have hg4 : x4.heap[w3.heap.size]? = some (.cells #[.int .i64 0, .slice A3 0 c3] 33 (0, 0)) := by rw [hx4]; exact heap_alloc_new _ _
  have hr1 := hr1.up (Nat.le_refl _) hbx4
  have hr2 := hr2.up (Nat.le_refl _) hbx4
  have hol4 := OwnL.up hol hbx4
  have hq5 := below_chain hq4 hq4.size hbx4
  have hcv := run_convert_made (P := Tryd.prog) (w := x4) 23 #[.int .u8 107] 1 1 Tryd.underlying23 Tryd.underlying5
  have hx4s : x4.heap.size = w3.heap.size + 1 := by rw [hx4]; simp
  rw [hx4s, hx4] at hcv
  have HX4 := Lib.hid hx4
  have HX4S := Lib.hid hx4s
  clear hol hq4 hbx4 hx4 hx4s
  go_wp2_with fail
  rw [← HX4.out, ← HX4S.out]
  have hA := rd_lit_fr x4 #[.int .u8 107] [107] 1 (1, 2) rfl (by simp [bcells, bval]) (by simp [maxLen])
  have hbA : Below x4.heap.size x4 (x4.alloc (.cells #[.int .u8 107] 5 (1, 2))) := Below.heap_alloc' x4 _
  have hB := rd_lit (x4.alloc (.cells #[.int .u8 107] 5 (1, 2))) #[.int .u8 1] [1] 1 rfl (by simp [bcells, bval]) (by simp [maxLen])
  have hbB : Below (x4.alloc (.cells #[.int .u8 107] 5 (1, 2))).heap.size (x4.alloc (.cells #[.int .u8 107] 5 (1, 2))) ((x4.alloc (.cells #[.int .u8 107] 5 (1, 2))).alloc (.cells #[.int .u8 1] 5)) := (Below.refl _ _).alloc (Nat.le_refl _) _
  have hsA : (x4.alloc (.cells #[.int .u8 107] 5 (1, 2))).heap.size = x4.heap.size + 1 := by simp
  rw [hsA] at hB
  have hp := partsA2 ((x4.alloc (.cells #[.int .u8 107] 5 (1, 2))).alloc (.cells #[.int .u8 1] 5)) _ _ [107] [1] 23 ((hA.below (by rw [← hsA]; exact hbB)).more (by simp)) (hB.more (by simp))
  have hsB : ((x4.alloc (.cells #[.int .u8 107] 5 (1, 2))).alloc (.cells #[.int .u8 1] 5)).heap.size = x4.heap.size + 1 + 1 := by simp
  rw [hsB] at hp
  have hbC := hbA.trans (hbB.mono (by rw [hsA]; omega))
  have hbD := hbC.alloc (by rw [hsB]; omega) (.cells #[.slice (some ⟨x4.heap.size, 0, none⟩) 1 1, .slice (some ⟨x4.heap.size + 1, 0, none⟩) 1 1] 23)
  have hq6 := below_chain hq5 hq5.size hbD
  have hk6 := (hq6.block _ hn0).trans HK.out
  have hl3 : w3.heap.size < x4.heap.size := by rw [HX4S.out]; omega
  have hrr1 := hr1.up (Nat.le_refl _) hbD
  have hrr2 := hr2.up (Nat.le_refl _) hbD
  have hoo := OwnL.up hol4 hbD
  have hgg := (hbD.block w3.heap.size hl3).trans hg4
  clear hA hbA hB hbB hsA hsB hbC hbD hq5 hr1 hr2 hol4 hg4 hcv
  generalize ((x4.alloc (.cells #[.int .u8 107] 5 (1, 2))).alloc (.cells #[.int .u8 1] 5)).alloc (.cells #[.slice (some ⟨x4.heap.size, 0, none⟩) 1 1, .slice (some ⟨x4.heap.size + 1, 0, none⟩) 1 1] 23) = x7 at *
  refine (tagged_any wLeaf _ [[107], [1]] x7 hp (by unfold maxLen wLeaf; decide) (by simp) fr hk6).mono ?_
  rintro e w8 ⟨v8, rfl, ho8, hb8⟩
  have HL : Hid (shaSum (formB (strBytes wLeaf) ++ formBs [[107], [1]]) = leafH wK [1]) := Lib.hid rfl
  rw [HL.out] at ho8
  have hq8 := below_chain hq6 hq6.size hb8
  have hr1 := hrr1.up (Nat.le_refl _) hb8
  have hr2 := hrr2.up (Nat.le_refl _) hb8
  have hol := OwnL.up hoo hb8
  have hl7 : w3.heap.size < x7.heap.size := blk_lt hgg
  have hg8 := (hb8.block w3.heap.size hl7).trans hgg
  have hl8 := blk_lt hg8
  obtain ⟨A8, c8, rfl⟩ := ho8.form' (n := 32) (tagH_length _ _)
  have hr8 := ho8.rd
  clear ho8 hb8 hrr1 hrr2 hoo hgg hp hk6 hq6 HL
  have HN0 : Hid (∀ W : World, Calls Tryd.prog 28 #[.slice none 0 0, .int .u64 0] W fun e w' => ∃ v', e = .returned v' ∧ Own w' W.heap.size v' (be 0 8) ∧ Below W.heap.size W w') := Lib.hid fun W => N_any (.slice none 0 0) [] 0 W (Rd.nil _ _) (by omega) (by simp)
  have HN1 : Hid (∀ W : World, Calls Tryd.prog 28 #[.slice none 0 0, .int .u64 1] W fun e w' => ∃ v', e = .returned v' ∧ Own w' W.heap.size v' (be 1 8) ∧ Below W.heap.size W w') := Lib.hid fun W => N_any (.slice none 0 0) [] 1 W (Rd.nil _ _) (by omega) (by simp)
  have HT0 : Hid (∀ (W : World) (v : Value), Parts W W.heap.size v [be 0 8] → Below w8.heap.size w8 W → Calls Tryd.prog 22 #[.string ⟨#[114, 111, 111, 116]⟩, v] W fun e w' => ∃ v', e = .returned v' ∧ Own w' W.heap.size v' rootE ∧ Below W.heap.size W w') :=
    Lib.hid fun W v hp hb => tagged_any wRoot v [be 0 8] W hp (by unfold maxLen wRoot; decide) (by simp) fr (((below_chain hq8 hq8.size hb).block _ hn0).trans HK.out)
  have HT1 : Hid (∀ (W : World) (v : Value), Parts W W.heap.size v [be 1 8, leafH wK [1]] → Below w8.heap.size w8 W → Calls Tryd.prog 22 #[.string ⟨#[114, 111, 111, 116]⟩, v] W fun e w' => ∃ v', e = .returned v' ∧ Own w' W.heap.size v' (rootH 1 (leafH wK [1])) ∧ Below W.heap.size W w') :=
    Lib.hid fun W v hp hb => tagged_any wRoot v [be 1 8, leafH wK [1]] W hp (by unfold maxLen wRoot; decide) (by simp) fr (((below_chain hq8 hq8.size hb).block _ hn0).trans HK.out)
  have HPV : Hid (∀ W : World, Below w8.heap.size w8 W → ProofV W W.heap.size (.agg #[.int .i64 0, .slice A3 0 c3]) ⟨0, []⟩) := Lib.hid fun W hb => ⟨_, rfl, LeavesV.more (OwnL.leavesV (OwnL.up hol hb)) (Nat.le_refl _), by simp, by simp⟩
  have HA : Hid (∀ W : World, Below w8.heap.size w8 W → Calls Tryd.prog 17 #[.slice A1 32 c1, .string ⟨#[107]⟩, .agg #[.int .i64 0, .slice A3 0 c3]] W fun e w' => e = .returned (.bool true) ∧ Below W.heap.size W w') :=
    Lib.hid fun W hb => by have := absent_any (.slice A1 32 c1) rootE wK (.agg #[.int .i64 0, .slice A3 0 c3]) ⟨0, []⟩ W (by decide) ((hr1.below hb).more hb.size) (HPV.out W hb) fr (((below_chain hq8 hq8.size hb).block _ hn0).trans HK.out); rw [fixA] at this; exact this
  have HV : Hid (∀ W : World, Below w8.heap.size w8 W → Calls Tryd.prog 15 #[.slice A1 32 c1, .string ⟨#[107]⟩, .slice none 0 0, .agg #[.int .i64 0, .slice A3 0 c3]] W fun e w' => e = .returned (.bool false) ∧ Below W.heap.size W w') :=
    Lib.hid fun W hb => by have := verify_any (.slice A1 32 c1) rootE wK (.slice none 0 0) [] (.agg #[.int .i64 0, .slice A3 0 c3]) ⟨0, []⟩ W ((hr1.below hb).more hb.size) (Rd.nil _ _) (HPV.out W hb) fr (((below_chain hq8 hq8.size hb).block _ hn0).trans HK.out); rw [fixV] at this; exact this
  generalize rootE = E at *
  generalize leafH wK [1] = LK at *
  generalize rootH 1 LK = R1 at *
  have CS : ∀ (W : World) (v : Value) (l : List UInt8), Rd W W.heap.size v l → (convert 23 9 v).run Tryd.prog W = .ok (.string ⟨l.toArray⟩) W := fun W v l h => run_str Tryd.underlying23 Tryd.underlying5 Tryd.isString h
  have HCS := Lib.hid CS
  clear CS
  generalize hSE : (⟨E.toArray⟩ : ByteArray) = SE
  generalize hSR : (⟨R1.toArray⟩ : ByteArray) = SR
  have HS : Hid (∀ W : World, Below w8.heap.size w8 W → W.cell? ⟨w3.heap.size, 0, none⟩ = some (.int .i64 0) ∧ W.cell? ⟨w3.heap.size, 1, none⟩ = some (.slice A3 0 c3) ∧ (convert 23 9 (.slice A1 32 c1)).run Tryd.prog W = .ok (.string SE) W ∧ (convert 23 9 (.slice A2 32 c2)).run Tryd.prog W = .ok (.string SR) W) :=
    Lib.hid fun W hb => ⟨(hb.cell (p := ⟨w3.heap.size, 0, none⟩) hl8).trans (blk_cell hg8 0), (hb.cell (p := ⟨w3.heap.size, 1, none⟩) hl8).trans (blk_cell hg8 1), by rw [← hSE]; exact HCS.out _ _ _ ((hr1.below hb).more hb.size), by rw [← hSR]; exact HCS.out _ _ _ ((hr2.below hb).more hb.size)⟩
  have HSE := Lib.hid hSE
  have HSR := Lib.hid hSR
  have hbd : Below w8.heap.size w8 w8.drew := (Below.refl _ _).drew
  have hb8r : Below w8.heap.size w8 w8 := Below.refl _ _
  clear hSE hSR hg8 hol
  have DN0 := Lib.hid (HN0.out w8.drew)
  go_wp2_with fail
  go_region_held_law (fun W => W.cell? ⟨w3.heap.size, 0, none⟩ = some (.int .i64 0) ∧ W.cell? ⟨w3.heap.size, 1, none⟩ = some (.slice A3 0 c3) ∧ (convert 23 9 (.slice A1 32 c1)).run Tryd.prog W = .ok (.string SE) W ∧ (convert 23 9 (.slice A2 32 c2)).run Tryd.prog W = .ok (.string SR) W)
    (with_reducible first | exact HS.out _ hbd | exact HS.out _ hb8r | exact HS.out _ hq14 | exact HS.out _ hq13 | exact HS.out _ hq12 | exact HS.out _ hx12 | exact HS.out _ hq11 | exact HS.out _ hq10 | exact HS.out _ hx10 | exact HS.out _ hq9)
    (first
      | (go_at_call 15; have D := HV.out _ hq13; ((with_reducible refine D.mono ?_); rintro e w14 ⟨rfl, hb14⟩; have hq14 := below_chain hq13 hq13.size hb14))
      | (go_at_call 17; have D := HA.out _ hq12; ((with_reducible refine D.mono ?_); rintro e w13 ⟨rfl, hb13⟩; have hq13 := below_chain hq12 hq12.size hb13))
      | (go_at_call 22; have D := HT1.out _ _ hp12 hx12; ((with_reducible refine D.mono ?_); rintro e w12 ⟨v12, rfl, ho12, hb12⟩; have hq12 := below_chain hx12 hx12.size hb12; have cv12 := HCS.out _ _ _ ho12.rd; rw [HSR.out] at cv12; obtain ⟨A12, c12, rfl⟩ := ho12.form))
      | (go_at_call 28; have D := HN1.out w10; have hq10' := hq10; ((with_reducible refine D.mono ?_); rintro e w11 ⟨v11, rfl, ho11, hb11⟩; have hq11 := below_chain hq10 hq10.size hb11; obtain ⟨A11, c11, rfl⟩ := ho11.form' (be_length 1 8); have hp12 := partsA2 w11 (.slice A11 8 c11) (.slice A8 32 c8) (be 1 8) LK 23 ho11.rd ((hr8.below hq11).more hq11.size); have hx12 := hq11.alloc hq11.size (.cells #[.slice A11 8 c11, .slice A8 32 c8] 23)))
      | (go_at_call 22; have D := HT0.out _ _ hp10 hx10; ((with_reducible refine D.mono ?_); rintro e w10 ⟨v10, rfl, ho10, hb10⟩; have hq10 := below_chain hx10 hx10.size hb10; have cv10 := HCS.out _ _ _ ho10.rd; rw [HSE.out] at cv10; obtain ⟨A10, c10, rfl⟩ := ho10.form))
      | (go_at_call 28; ((with_reducible refine DN0.out.mono ?_); rintro e w9 ⟨v9, rfl, ho9, hb9⟩; have hq9 := below_chain hbd (Nat.le_refl _) hb9; obtain ⟨A9, c9, rfl⟩ := ho9.form' (be_length 0 8); have hp10 := partsA1 w9 (.slice A9 8 c9) (be 0 8) 23 ho9.rd; have hx10 := hq9.alloc hq9.size (.cells #[.slice A9 8 c9] 23))))
  all_goals (
    have hbo := below_chain hq8 hq8.size hq14
    go_wp2_with fail
    go_ret
    exact ⟨rfl, hbo⟩)
end Go.Proofs.YtpnfdfnbnoplgaaDoor
