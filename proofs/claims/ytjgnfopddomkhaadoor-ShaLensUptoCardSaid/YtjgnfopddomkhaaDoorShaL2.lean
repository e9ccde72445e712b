/- The walk of the law: every sum has 32 bytes, the same each time. -/
import Derived.Test.YtjgnfopddomkhaaDoorShaF
import Derived.Test.YtjgnfopddomkhaaDoorShaG
import Derived.Test.YtjgnfopddomkhaaDoorSame
namespace Go.Proofs.YtjgnfopddomkhaaDoor
open Go.RowKit

theorem parts2 (w : World) (va vb : Value) (a b : List UInt8) (t : TypeId) (ha : Rd w w.heap.size va a) (hb : Rd w w.heap.size vb b) :
    Parts (w.alloc (.cells #[va, vb] t)) (w.alloc (.cells #[va, vb] t)).heap.size (.slice (some ⟨w.heap.size, 0, none⟩) 2 2) [a, b] := by
  have hbw : Below w.heap.size w (w.alloc (.cells #[va, vb] t)) := (Below.refl _ _).alloc (Nat.le_refl _) _
  have hg := heap_alloc_new w (.cells #[va, vb] t)
  refine ⟨_, 2, rfl, fun _ => ⟨w.heap.size, 0, rfl, by simp, fun j hj => ?_⟩⟩
  rw [show (0 + j) = j by omega, blk_cell hg]
  rcases j with _ | _ | j
  · exact ⟨va, rfl, ha.up (Nat.le_refl _) hbw⟩
  · exact ⟨vb, rfl, hb.up (Nat.le_refl _) hbw⟩
  · exact absurd hj (by simp)
theorem parts0 (w : World) (B : Nat) : Parts w B (.slice none 0 0) [] := ⟨none, 0, rfl, fun h => absurd h (by simp)⟩

set_option maxHeartbeats 1000000 in
theorem lens_walk3 (word : ByteArray) (va vb : Value) (a b : List UInt8) (w : World) (ha : Rd w w.heap.size va a) (hb : Rd w w.heap.size vb b) (hsm : word.size ≤ maxLen) (hal : a.length ≤ 140737488355000)
    (fr : TypeId × Nat × Nat) (hk : w.heap[0]? = some (.cells kVals fr.1 fr.2)) :
    Calls Tryd.prog 6 #[.string word, va, vb] w fun e w' => e = .returned (.bool true) ∧ Below w.heap.size w w' := by
  have hn0 := blk_lt hk
  obtain ⟨Aa, ca, rfl⟩ := ha.form
  obtain ⟨Ab, cb, rfl⟩ := hb.form
  go_enter Tryd.func6, Tryd.ntmps6
  go_wp2_with fail
  have hbw : Below w.heap.size w (w.alloc (.cells #[.slice Aa a.length ca, .slice Ab b.length cb] 22)) := (Below.refl _ _).alloc (Nat.le_refl _) _
  have hp1 := parts2 w _ _ a b 22 ha hb
  generalize w.alloc (.cells #[.slice Aa a.length ca, .slice Ab b.length cb] 22) = w0 at *
  refine (tagged_any word _ [a, b] w0 hp1 hsm (by simp) fr ((hbw.block 0 hn0).trans hk)).mono ?_
  rintro e w1 ⟨v1, rfl, ho1, hb1⟩
  have hbw1 := below_chain hbw hbw.size hb1
  have hr1 := ho1.rd
  have hl1 := shaSum_length (formB (strBytes word) ++ formBs [a, b])
  obtain ⟨S, hS⟩ : ∃ S, S = shaSum (formB (strBytes word) ++ formBs [a, b]) := ⟨_, rfl⟩
  rw [← hS] at hr1 ho1 hl1
  have HS := Lib.hid hS
  clear hS
  obtain ⟨A1, c1, rfl⟩ := hr1.form
  rw [hl1] at hr1 ho1 ⊢
  clear hb1 hbw ho1
  go_wp2_with fail
  refine (fixed_any w1 fr ((hbw1.block 0 hn0).trans hk)).mono ?_
  rintro e w2 ⟨rfl, hb2⟩
  have hbw2 := below_chain hbw1 hbw1.size hb2
  have hr2 := hr1.up (Nat.le_refl _) hb2
  clear hb2 hr1
  go_wp2_with fail
  have ha2 := ha.up (Nat.le_refl _) hbw2
  have hb2 := hb.up (Nat.le_refl _) hbw2
  have hbx : Below w2.heap.size w2 (w2.alloc (.cells #[.slice Aa a.length ca, .slice Ab b.length cb] 22)) := (Below.refl _ _).alloc (Nat.le_refl _) _
  have hp2 := parts2 w2 _ _ a b 22 ha2 hb2
  generalize w2.alloc (.cells #[.slice Aa a.length ca, .slice Ab b.length cb] 22) = w3 at *
  have hbw3 := below_chain hbw2 hbw2.size hbx
  have hr3 := hr2.up (Nat.le_refl _) hbx
  refine (tagged_any word _ [a, b] w3 hp2 hsm (by simp) fr ((hbw3.block 0 hn0).trans hk)).mono ?_
  rintro e w4 ⟨v4, rfl, ho4, hb4⟩
  rw [← HS.out] at ho4
  have hr4 := ho4.rd
  have hbw4 := below_chain hbw3 hbw3.size hb4
  have hr34 := hr3.up (Nat.le_refl _) hb4
  clear ho4 hb4 hbx hp2 hr2 hr3 ha2 hb2
  go_wp2_with fail
  refine (same_any _ _ S S w4 hr34 hr4).mono ?_
  rintro e w5 ⟨rfl, hb5⟩
  rw [sameB_refl]
  have hbw5 := below_chain hbw4 hbw4.size hb5
  have ha5 := ha.up (Nat.le_refl _) hbw5
  clear hb5 hr34 hr4
  go_wp2_with fail
  refine (sum_any _ a w5 ha5 (by omega) fr ((hbw5.block 0 hn0).trans hk)).mono ?_
  rintro e w6 ⟨v6, rfl, ho6, hb6⟩
  have hbw6 := below_chain hbw5 hbw5.size hb6
  obtain ⟨A6, c6, rfl⟩ := ho6.form
  rw [shaSum_length]
  clear ho6 hb6 ha5
  go_wp2_with fail
  refine (tagged_any word _ [] w6 (parts0 _ _) hsm (by simp) fr ((hbw6.block 0 hn0).trans hk)).mono ?_
  rintro e w7 ⟨v7, rfl, ho7, hb7⟩
  have hbw7 := below_chain hbw6 hbw6.size hb7
  obtain ⟨A7, c7, rfl⟩ := ho7.form
  rw [shaSum_length]
  clear ho7 hb7
  go_wp2_with fail
  go_ret
  exact ⟨rfl, hbw7⟩
end Go.Proofs.YtjgnfopddomkhaaDoor
