/- The walk of the law: one hop more is the document's. -/
import Derived.Test.YtaplncibadggaaaNameM
import Derived.Test.YtaplncibadggaaaNameL1
namespace Go.Proofs.Ytaplncibadggaaa
open Go Go.RowKit

theorem below_drewB {B : Nat} {a w : World} (h : Below B a w) (n : Nat) : Below B a (w.drewN n) := ⟨h.os, h.tape, h.output, h.size, h.block⟩

set_option maxHeartbeats 1000000 in
theorem overs_walk (h s : ByteArray) (w : World) (hh : h.size ≤ maxLen) (hs : s.size ≤ 140737488351232) :
    Calls Try.prog 4 #[.string h, .string s] w fun e w' => e = .returned (.bool true) ∧ Below w.heap.size w w' := by
  have hsm : s.size ≤ maxLen := by simp only [maxLen]; omega
  have H1 := Lib.hid (over_any h s · hh hsm)
  have H2 := Lib.hid (rover_any h s · hh hs)
  obtain ⟨t, ht⟩ : ∃ t : ByteArray, t = ⟨(overL h.data.toList s.data.toList).1.toArray⟩ := ⟨_, rfl⟩
  rw [← ht] at H1 H2
  generalize (overL h.data.toList s.data.toList).2 = c at H1 H2
  clear ht
  go_enter Try.func4, Try.ntmps4
  go_wp2_with fail
  refine (H1.out _).mono ?_
  rintro e w' ⟨rfl, n, rfl⟩
  go_wp2_with fail
  refine (H2.out _).mono ?_
  rintro e w2 ⟨rfl, hb⟩
  go_wp2_with fail
  refine (fixed_any _).mono ?_
  rintro e w' ⟨rfl, n2, rfl⟩
  go_wp2_with fail
  go_ret
  exact ⟨rfl, below_drewB ((below_drewN' (Below.refl _ _) n).trans (hb.mono (by simp))) _⟩
end Go.Proofs.Ytaplncibadggaaa
