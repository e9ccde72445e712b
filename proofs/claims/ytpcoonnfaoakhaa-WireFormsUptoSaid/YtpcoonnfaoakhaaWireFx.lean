
/- The walks: the answers that the document fixes. -/
import Derived.Test.YtpcoonnfaoakhaaWireDoc0
import Derived.Test.YtpcoonnfaoakhaaWireW0
import Derived.Test.YtpcoonnfaoakhaaWireR0
import Derived.Test.YtpcoonnfaoakhaaInfo1
namespace Go.Proofs.Ytpcoonnfaoakhaa
set_option maxRecDepth 100000
open Go.RowKit

set_option maxHeartbeats 1000000 in
theorem fixed_any (w : World) : Calls Try.prog 8 #[] w fun e w' => e = .returned (.bool true) ∧ Below w.heap.size w w' := by
  go_enter Try.func8, Try.ntmps8
  go_wp2_with fail
  refine (open_rd _ [0, 0, 0, 2, 97] _ ((rd_lit w _ [0, 0, 0, 2, 97] 5 rfl (by simp [bcells, bval]) (by simp [maxLen])).more (by simp)) (by simp)).mono ?_
  rintro e w1 ⟨g, rfl, hr1, hb1⟩
  have hb01 : Below w.heap.size w w1 := ((Below.refl _ _).alloc (Nat.le_refl _) _).trans (hb1.mono (by simp))
  go_wp2_with fail
  refine (N_any _ [] 258 _ (Rd.nil _ _) (by omega) (by simp)).mono ?_
  rintro e w2 ⟨v2, rfl, ho2, hb2⟩
  have hr2 := hr1.below hb2
  have hb02 := below_chain hb01 hb01.size hb2
  go_wp2_with fail
  refine (same_any _ _ (be 258 8) [0, 0, 0, 0, 0, 0, 1, 2] _ ((ho2.alloc _).rd' (by simp)) ((rd_lit w2 _ [0, 0, 0, 0, 0, 0, 1, 2] 8 rfl (by simp [bcells, bval]) (by simp [maxLen])).more (by simp))).mono ?_
  rintro e w3 ⟨rfl, hb3⟩
  rw [show sameB (be 258 8) [0, 0, 0, 0, 0, 0, 1, 2] = true by decide +kernel]
  have hb23 : Below w2.heap.size w2 w3 := ((Below.refl _ _).alloc (Nat.le_refl _) _).trans (hb3.mono (by simp))
  have hr3 := hr2.below hb23
  have hb03 := below_chain hb02 hb02.size hb23
  go_wp2_with fail
  refine (T_any _ ⟨#[97, 98]⟩ [] _ (Rd.nil _ _) (by show 2 ≤ maxLen; simp [maxLen]) (by simp)).mono ?_
  rintro e w4 ⟨v4, rfl, ho4, hb4⟩
  have hr4 := hr3.below hb4
  have hb04 := below_chain hb03 hb03.size hb4
  clear hr1 hr2 hr3 hb1 hb2 hb3 hb01 hb02 hb03 hb23 ho2
  go_wp2_with fail
  refine (same_any _ _ [0, 0, 0, 2, 97, 98] [0, 0, 0, 2, 97, 98] _ ((ho4.alloc _).rd' (by decide +kernel)) ((rd_lit w4 _ [0, 0, 0, 2, 97, 98] 6 rfl (by simp [bcells, bval]) (by simp [maxLen])).more (by simp))).mono ?_
  rintro e w5 ⟨rfl, hb5⟩
  rw [sameB_refl]
  have hb45 : Below w4.heap.size w4 w5 := ((Below.refl _ _).alloc (Nat.le_refl _) _).trans (hb5.mono (by simp))
  have hr5 := hr4.below hb45
  have hb05 := below_chain hb04 hb04.size hb45
  clear hr4 hb4 hb5 hb04 hb45 ho4
  go_wp2_with fail
  refine (F_any _ true [9] _ ((rd_lit w5 _ [9] 1 rfl (by simp [bcells, bval]) (by simp [maxLen])).more (by simp)) (by simp)).mono ?_
  rintro e w6 ⟨v6, rfl, ho6, hb6⟩
  have hb56 : Below w5.heap.size w5 w6 := ((Below.refl _ _).alloc (Nat.le_refl _) _).trans (hb6.mono (by simp))
  have hr6 := hr5.below hb56
  have hb06 := below_chain hb05 hb05.size hb56
  clear hr5 hb6 hb05 hb56
  go_wp2_with fail
  refine (same_any _ _ [9, 1] [9, 1] _ ((ho6.alloc _).rd' (by decide +kernel)) ((rd_lit w6 _ [9, 1] 2 rfl (by simp [bcells, bval]) (by simp [maxLen])).more (by simp))).mono ?_
  rintro e w7 ⟨rfl, hb7⟩
  rw [sameB_refl]
  have hb67 : Below w6.heap.size w6 w7 := ((Below.refl _ _).alloc (Nat.le_refl _) _).trans (hb7.mono (by simp))
  have hr7 := hr6.below hb67
  have hb07 := below_chain hb06 hb06.size hb67
  clear hr6 hb7 hb06 hb67 ho6
  go_wp2_with fail
  have hT := rdT_any hr7
  rw [show rB [0, 0, 0, 2, 97] 0 = ([], [0, 0, 0, 2, 97], 20) by decide +kernel] at hT
  refine hT.mono ?_
  rintro e w8 ⟨rfl, hr8, hg8⟩
  have hb08 : Below w.heap.size w w8 := hb07.trans (below_of_grownBy hg8 (by have := hr7.from_; simp at this; omega) hr7.lt)
  clear hT hr7 hb07
  go_wp2_with fail
  refine (rdErr_any hr8).mono ?_
  rintro e w' ⟨rfl, rfl⟩
  go_wp2_with fail
  refine (rdLeft_any hr8).mono ?_
  rintro e w' ⟨rfl, rfl⟩
  go_wp2_with fail
  go_ret
  exact ⟨rfl, hb08⟩
end Go.Proofs.Ytpcoonnfaoakhaa
