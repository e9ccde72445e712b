/- The walk of the law: a hop more is as much longer. -/
import Derived.Test.YtaplncibadggaaaNameF
import Derived.Test.YtaplncibadggaaaBase
namespace Go.Proofs.Ytaplncibadggaaa
open Go Go.RowKit

theorem over_cases (h s : List UInt8) : (identL h = true ∧ denomL s = true ∧ h.length + s.length + 10 ≤ 160 ∧ overL h s = (trL ++ h ++ 47 :: s, 0)) ∨ overL h s = ([], 40) ∨ overL h s = ([], 41) := by
  unfold overL
  by_cases h1 : identL h = true
  · rw [if_pos h1]
    by_cases h2 : denomL s = true ∧ h.length + s.length + 10 ≤ 160
    · rw [if_pos h2]; exact .inl ⟨h1, h2.1, h2.2, rfl⟩
    · rw [if_neg h2]; exact .inr (.inr rfl)
  · rw [if_neg h1]; exact .inr (.inl rfl)

/-- a call that gives a known answer of Over -/
theorem over_to (h s : ByteArray) (w : World) (hh : h.size ≤ maxLen) (hs : s.size ≤ maxLen) {t : List UInt8} {c : Int} (e : overL h.data.toList s.data.toList = (t, c)) :
    Calls Try.prog 19 #[.string h, .string s] w fun e w' => e = .returned (.tuple #[.string ⟨t.toArray⟩, .int .i64 c]) ∧ ∃ n, w' = w.drewN n := by
  have := over_any h s w hh hs
  rw [e] at this
  exact this

set_option maxHeartbeats 1000000 in
theorem lens_walk (h s : ByteArray) (w : World) (hh : h.size ≤ maxLen) (hs : s.size ≤ maxLen) :
    Calls Try.prog 7 #[.string h, .string s] w fun e w' => e = .returned (.bool true) ∧ Below w.heap.size w w' := by
  have hhz := Lib.size_eq h
  have hsz := Lib.size_eq s
  rcases over_cases h.data.toList s.data.toList with ⟨hi, _, hl, he⟩ | he | he
  · have HI := Lib.hid hi
    have HO := Lib.hid he
    have m1 : h.size ≤ 160 := by omega
    have m2 : s.size ≤ 160 := by omega
    have htl : (trL ++ h.data.toList ++ 47 :: s.data.toList).length = s.size + h.size + 10 := by simp [trL_len]; omega
    have hts : (⟨(trL ++ h.data.toList ++ 47 :: s.data.toList).toArray⟩ : ByteArray).size = s.size + h.size + 10 := by rw [size_mk]; exact htl
    have hle : s.size + h.size + 10 ≤ 160 := by omega
    have HX := Lib.hid (over_to h s · hh hs he)
    clear hi he htl hhz hsz hl
    go_enter Try.func7, Try.ntmps7
    go_wp2_with fail
    refine (HX.out _).mono ?_
    generalize (⟨(trL ++ h.data.toList ++ 47 :: s.data.toList).toArray⟩ : ByteArray) = t at hts ⊢
    rintro e w' ⟨rfl, n, rfl⟩
    go_wp2_with fail
    refine (fixed_any _).mono ?_
    rintro e w' ⟨rfl, n2, rfl⟩
    have b1 : ((t.size : Int) == (s.size : Int) + (h.size : Int) + 10) = true := by rw [hts]; simp
    have b2 : (t.size : Int) ≤ 160 := by omega
    clear hts
    have hid := HI.out
    go_wp2_with (go_at_call 11; refine (ident_any _ _ hh).mono ?_; rintro e w' ⟨rfl, rfl⟩; rw [hid])
    go_ret
    exact ⟨rfl, below_drewN' (Below.refl _ _) _⟩
  all_goals
    have HX := Lib.hid (over_to h s · hh hs he)
    clear he hhz hsz
    go_enter Try.func7, Try.ntmps7
    go_wp2_with fail
    refine (HX.out _).mono ?_
    rintro e w' ⟨rfl, n, rfl⟩
    go_wp2_with fail
    refine (fixed_any _).mono ?_
    rintro e w' ⟨rfl, n2, rfl⟩
    go_wp2_with fail
    refine (fixed_any _).mono ?_
    rintro e w' ⟨rfl, n3, rfl⟩
    go_wp2_with fail
    go_ret
    exact ⟨rfl, below_drewN' (Below.refl _ _) _⟩
end Go.Proofs.Ytaplncibadggaaa
