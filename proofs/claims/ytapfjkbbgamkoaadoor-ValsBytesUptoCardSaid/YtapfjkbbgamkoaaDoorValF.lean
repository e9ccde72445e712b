/- The walk of the laws' fixed answers. -/
import Derived.Test.YtapfjkbbgamkoaaDoorValQ
import Derived.Test.YtapfjkbbgamkoaaDoorValT
import Derived.Test.YtapfjkbbgamkoaaDoorValB
import Derived.Test.YtapfjkbbgamkoaaDoorShaLen
namespace Go.Proofs.YtapfjkbbgamkoaaDoor
open Go Go.RowKit

def fourL : List VD := [⟨⟨#[97]⟩, 1⟩, ⟨⟨#[98]⟩, 1⟩, ⟨⟨#[99]⟩, 1⟩, ⟨⟨#[100]⟩, 1⟩]
theorem four_right : rightB fourL = true := by decide +kernel
theorem four_q1 : quorumB fourL (keysOf [⟨#[97]⟩, ⟨#[98]⟩, ⟨#[99]⟩]) = true := by decide +kernel
theorem four_q2 : quorumB fourL (keysOf [⟨#[97]⟩, ⟨#[97]⟩, ⟨#[97]⟩]) = false := by decide +kernel
theorem four_t1 : thirdB fourL (keysOf [⟨#[97]⟩, ⟨#[98]⟩]) = true := by decide +kernel
theorem four_t2 : thirdB fourL (keysOf [⟨#[97]⟩]) = false := by decide +kernel

theorem strs_made (w : World) (ss : List ByteArray) (cs : Array Value) (n : Nat) (h : cs = (ss.map Value.string).toArray) (hn : n = ss.length) (hl : n ≤ 1000) (hf : ∀ x ∈ ss, x.size ≤ 1000) :
    StrsAt (w.alloc (.cells cs 9)) (w.alloc (.cells cs 9)).heap.size (.slice (some ⟨w.heap.size, 0, none⟩) n n) ss := by
  subst h; subst hn
  refine ⟨_, _, rfl, Nat.le_refl _, by unfold maxLen; omega, fun x hx => by have := hf x hx; unfold maxLen; omega, fun _ => ⟨w.heap.size, 0, rfl, by simp, fun j hj => ?_⟩⟩
  rw [show 0 + j = j by omega, blk_cell (heap_alloc_new w _)]
  simp [List.getElem?_eq_getElem hj]

theorem four_at (w : World) (v : Value) (h : v = .slice (some ⟨w.heap.size, 0, none⟩) 4 4) :
    ValsAt (w.alloc (.cells #[.string ⟨#[97]⟩, .int .u64 1, .string ⟨#[98]⟩, .int .u64 1, .string ⟨#[99]⟩, .int .u64 1, .string ⟨#[100]⟩, .int .u64 1] 40))
      (w.alloc (.cells #[.string ⟨#[97]⟩, .int .u64 1, .string ⟨#[98]⟩, .int .u64 1, .string ⟨#[99]⟩, .int .u64 1, .string ⟨#[100]⟩, .int .u64 1] 40)).heap.size v fourL := by
  subst h
  refine ⟨_, 4, rfl, by decide, by unfold maxLen; omega, fun x hx => ?_, fun _ => ⟨w.heap.size, 0, rfl, by simp, fun j hj => ?_⟩⟩
  · simp only [fourL, List.mem_cons, List.not_mem_nil, or_false] at hx
    rcases hx with rfl | rfl | rfl | rfl <;> exact ⟨by unfold maxLen; decide, by decide⟩
  · have h4 : j = 0 ∨ j = 1 ∨ j = 2 ∨ j = 3 := by have : fourL.length = 4 := rfl; omega
    rcases h4 with rfl | rfl | rfl | rfl <;> exact ⟨blk_cell (heap_alloc_new w _) _, blk_cell (heap_alloc_new w _) _⟩

theorem four_any (w : World) : Calls Tryd.prog 29 #[] w fun e w' => ∃ A c, e = .returned (.slice A 4 c) ∧ ValsAt w' w'.heap.size (.slice A 4 c) fourL ∧ Below w.heap.size w w' := by
  go_enter Tryd.func29, Tryd.ntmps29
  go_wp2
  go_ret
  exact ⟨_, _, rfl, four_at w _ rfl, (Below.refl _ _).alloc (Nat.le_refl _) _⟩

set_option maxHeartbeats 2000000 in
theorem fixed_any (w : World) (fr : TypeId × Nat × Nat) (hk : w.heap[0]? = some (.cells kVals fr.1 fr.2)) :
    Calls Tryd.prog 10 #[] w fun e w' => e = .returned (.bool true) ∧ Below w.heap.size w w' := by
  have hn0 := blk_lt hk
  have HF := Lib.hid four_any
  have q0 := four_right
  have q1 := four_q1
  have q2 := four_q2
  have q3 := four_t1
  have q4 := four_t2
  have HR := Lib.hid (fun v W h => q0 ▸ right_any v fourL W h)
  have HQ1 := Lib.hid (fun v vs W h hs => q1 ▸ quorum_any v vs fourL _ W h hs)
  have HQ2 := Lib.hid (fun v vs W h hs => q2 ▸ quorum_any v vs fourL _ W h hs)
  have HT1 := Lib.hid (fun v vs W h hs => q3 ▸ third_any v vs fourL _ W h hs)
  have HT2 := Lib.hid (fun v vs W h hs => q4 ▸ third_any v vs fourL _ W h hs)
  have HH := Lib.hid (fun v W h fr hk => hashV_any v fourL W h (by decide) fr hk)
  have hl := shaSum_length (formB (strBytes valsWord) ++ formBs [bytesV fourL])
  generalize shaSum (formB (strBytes valsWord) ++ formBs [bytesV fourL]) = S at *
  generalize fourL = F at *
  clear q0 q1 q2 q3 q4
  go_enter Tryd.func10, Tryd.ntmps10
  go_wp2_with fail
  refine (HF.out w).mono ?_
  rintro e w1 ⟨A1, c1, rfl, hv1, hb1⟩
  go_wp2_with fail
  refine (HR.out _ _ hv1).mono ?_
  rintro e w2 ⟨rfl, hb2⟩
  have hz2 := below_chain hb1 hb1.size hb2
  clear hb1 hb2 hv1
  go_wp2_with fail
  refine (HF.out w2).mono ?_
  rintro e w1 ⟨A1, c1, rfl, hv1, hb1⟩
  have hb1 := below_chain hz2 hz2.size hb1
  clear hz2
  go_wp2_with fail
  have hs := strs_made w1 [⟨#[97]⟩, ⟨#[98]⟩, ⟨#[99]⟩] _ 3 rfl rfl (by omega) (by decide)
  have hv2 := hv1.up (Nat.le_refl _) ((Below.refl w1.heap.size w1).alloc (Nat.le_refl _) (.cells #[.string ⟨#[97]⟩, .string ⟨#[98]⟩, .string ⟨#[99]⟩] 9))
  have hb2 := hb1.alloc hb1.size (.cells #[.string ⟨#[97]⟩, .string ⟨#[98]⟩, .string ⟨#[99]⟩] 9)
  refine (HQ1.out _ _ _ hv2 hs).mono ?_
  rintro e w2 ⟨rfl, hb3⟩
  have hz2 := below_chain hb2 hb2.size hb3
  clear hb1 hb2 hb3 hv1 hv2 hs
  go_wp2_with fail
  refine (HF.out w2).mono ?_
  rintro e w1 ⟨A1, c1, rfl, hv1, hb1⟩
  have hb1 := below_chain hz2 hz2.size hb1
  clear hz2
  go_wp2_with fail
  have hs := strs_made w1 [⟨#[97]⟩, ⟨#[97]⟩, ⟨#[97]⟩] _ 3 rfl rfl (by omega) (by decide)
  have hv2 := hv1.up (Nat.le_refl _) ((Below.refl w1.heap.size w1).alloc (Nat.le_refl _) (.cells #[.string ⟨#[97]⟩, .string ⟨#[97]⟩, .string ⟨#[97]⟩] 9))
  have hb2 := hb1.alloc hb1.size (.cells #[.string ⟨#[97]⟩, .string ⟨#[97]⟩, .string ⟨#[97]⟩] 9)
  refine (HQ2.out _ _ _ hv2 hs).mono ?_
  rintro e w2 ⟨rfl, hb3⟩
  have hz2 := below_chain hb2 hb2.size hb3
  clear hb1 hb2 hb3 hv1 hv2 hs
  go_wp2_with fail
  refine (HF.out w2).mono ?_
  rintro e w1 ⟨A1, c1, rfl, hv1, hb1⟩
  have hb1 := below_chain hz2 hz2.size hb1
  clear hz2
  go_wp2_with fail
  have hs := strs_made w1 [⟨#[97]⟩, ⟨#[98]⟩] _ 2 rfl rfl (by omega) (by decide)
  have hv2 := hv1.up (Nat.le_refl _) ((Below.refl w1.heap.size w1).alloc (Nat.le_refl _) (.cells #[.string ⟨#[97]⟩, .string ⟨#[98]⟩] 9))
  have hb2 := hb1.alloc hb1.size (.cells #[.string ⟨#[97]⟩, .string ⟨#[98]⟩] 9)
  refine (HT1.out _ _ _ hv2 hs).mono ?_
  rintro e w2 ⟨rfl, hb3⟩
  have hz2 := below_chain hb2 hb2.size hb3
  clear hb1 hb2 hb3 hv1 hv2 hs
  go_wp2_with fail
  refine (HF.out w2).mono ?_
  rintro e w1 ⟨A1, c1, rfl, hv1, hb1⟩
  have hb1 := below_chain hz2 hz2.size hb1
  clear hz2
  go_wp2_with fail
  have hs := strs_made w1 [⟨#[97]⟩] _ 1 rfl rfl (by omega) (by decide)
  have hv2 := hv1.up (Nat.le_refl _) ((Below.refl w1.heap.size w1).alloc (Nat.le_refl _) (.cells #[.string ⟨#[97]⟩] 9))
  have hb2 := hb1.alloc hb1.size (.cells #[.string ⟨#[97]⟩] 9)
  refine (HT2.out _ _ _ hv2 hs).mono ?_
  rintro e w2 ⟨rfl, hb3⟩
  have hz2 := below_chain hb2 hb2.size hb3
  clear hb1 hb2 hb3 hv1 hv2 hs
  go_wp2_with fail
  refine (HF.out w2).mono ?_
  rintro e w1 ⟨A1, c1, rfl, hv1, hb1⟩
  have hb1 := below_chain hz2 hz2.size hb1
  clear hz2
  go_wp2_with fail
  refine (HH.out _ _ hv1 fr ((hb1.block 0 hn0).trans hk)).mono ?_
  rintro e w2 ⟨v2, rfl, ho, hb3⟩
  have hz2 := below_chain hb1 hb1.size hb3
  obtain ⟨A2, c2, rfl⟩ := ho.form
  rw [hl]
  clear hb1 hb3 hv1 ho
  go_wp2_with fail
  go_ret
  exact ⟨rfl, hz2⟩
end Go.Proofs.YtapfjkbbgamkoaaDoor
