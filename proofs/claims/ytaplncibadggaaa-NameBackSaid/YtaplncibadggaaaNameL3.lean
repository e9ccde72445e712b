/- The walk of the law: identifiers, bases and hops. -/
import Derived.Test.YtaplncibadggaaaNameF
import Derived.Test.YtaplncibadggaaaBase
namespace Go.Proofs.Ytaplncibadggaaa
open Go Go.RowKit

theorem base_to (s b : ByteArray) (w : World) (hs : s.size ≤ maxLen) (e : baseD s.data.toList = b.data.toList) :
    Calls Try.prog 15 #[.string s] w fun e w' => e = .returned (.string b) ∧ ∃ n, w' = w.drewN n := by
  have := base_any s w hs
  rw [e, Lib.mk_data] at this
  exact this
theorem hops_to (s : ByteArray) (k : Nat) (w : World) (hs : s.size ≤ maxLen) (e : hopsD s.data.toList = k) :
    Calls Try.prog 17 #[.string s] w fun e w' => e = .returned (.int .i64 (k : Int)) ∧ ∃ n, w' = w.drewN n := by
  have := hops_any s w hs
  rw [e] at this
  exact this
theorem denom_to (s : ByteArray) (b : Bool) (w : World) (hs : s.size ≤ maxLen) (e : denomL s.data.toList = b) :
    Calls Try.prog 13 #[.string s] w fun e w' => e = .returned (.bool b) ∧ ∃ n, w' = w.drewN n := by
  have := denom_any s w hs
  rw [e] at this
  exact this
theorem ident_to (s : ByteArray) (b : Bool) (w : World) (hs : s.size ≤ maxLen) (e : identL s.data.toList = b) :
    Calls Try.prog 11 #[.string s] w fun e w' => e = .returned (.bool b) ∧ w = w' := by
  have := ident_any s w hs
  rw [e] at this
  exact this

set_option maxHeartbeats 1000000 in
theorem apart_walk (s : ByteArray) (w : World) (hs : s.size ≤ maxLen) :
    Calls Try.prog 6 #[.string s] w fun e w' => e = .returned (.bool true) ∧ Below w.heap.size w w' := by
  cases hi : identL s.data.toList with
  | true =>
    obtain ⟨h1, h2, h3⟩ := ident_denom hi
    have k1 := Lib.hid (denom_to s true · hs h1)
    have k2 := Lib.hid (base_to s s · hs (by unfold baseD; rw [if_pos h1, h2]))
    have k3 := Lib.hid (hops_to s 0 · hs (by unfold hopsD; rw [if_pos h1, h3]))
    have k4 := Lib.hid (ident_to s true · hs hi)
    clear hi h1 h2 h3
    go_enter Try.func6, Try.ntmps6
    go_wp2_with (first | (go_at_call 10; refine (fixed_any _).mono ?_; rintro e w' ⟨rfl, n, rfl⟩) | (go_at_call 13; refine (k1.out _).mono ?_; rintro e w' ⟨rfl, n, rfl⟩) | (go_at_call 15; refine (k2.out _).mono ?_; rintro e w' ⟨rfl, n, rfl⟩) | (go_at_call 17; refine (k3.out _).mono ?_; rintro e w' ⟨rfl, n, rfl⟩) | (go_at_call 11; refine (k4.out _).mono ?_; rintro e w' ⟨rfl, rfl⟩))
    go_ret
    exact ⟨rfl, below_drewN' (Below.refl _ _) _⟩
  | false =>
    have k4 := Lib.hid (ident_to s false · hs hi)
    cases hd : denomL s.data.toList with
    | false =>
      have k1 := Lib.hid (denom_to s false · hs hd)
      clear hi hd
      go_enter Try.func6, Try.ntmps6
      go_wp2_with (first | (go_at_call 10; refine (fixed_any _).mono ?_; rintro e w' ⟨rfl, n, rfl⟩) | (go_at_call 13; refine (k1.out _).mono ?_; rintro e w' ⟨rfl, n, rfl⟩) | (go_at_call 11; refine (k4.out _).mono ?_; rintro e w' ⟨rfl, rfl⟩))
      go_ret
      exact ⟨rfl, below_drewN' (Below.refl _ _) _⟩
    | true =>
      have k1 := Lib.hid (denom_to s true · hs hd)
      have hz := hops_zero (l := s.data.toList)
      have hib := denom_ident hd
      obtain ⟨b, hb⟩ : ∃ b : ByteArray, b = ⟨(baseL s.data.toList).toArray⟩ := ⟨_, rfl⟩
      have hbl : b.data.toList = baseL s.data.toList := by rw [hb]
      have hbs : b.size ≤ maxLen := by
        have h1 := identL_len hib
        rw [Lib.size_eq, hbl]; simp only [maxLen]; omega
      have k2 := Lib.hid (base_to s b · hs (by unfold baseD; rw [if_pos hd, hbl]))
      have k3 := Lib.hid (hops_to s (hopsL s.data.toList) · hs (by unfold hopsD; rw [if_pos hd]))
      have k5 := Lib.hid (ident_to b true · hbs (by rw [hbl]; exact hib))
      by_cases h0 : hopsL s.data.toList = 0
      · have e1 : b = s := by rw [hb, hz.1 h0, Lib.mk_data]
        subst e1
        rw [h0] at k3
        clear hi hd hz hib hb hbl h0
        go_enter Try.func6, Try.ntmps6
        go_wp2_with fail
        refine (fixed_any _).mono ?_
        rintro e w' ⟨rfl, n1, rfl⟩
        go_wp2_with fail
        refine (k4.out _).mono ?_
        rintro e w' ⟨rfl, rfl⟩
        go_wp2_with fail
        refine (k1.out _).mono ?_
        rintro e w' ⟨rfl, n2, rfl⟩
        go_wp2_with fail
        refine (k3.out _).mono ?_
        rintro e w' ⟨rfl, n3, rfl⟩
        go_wp2_with fail
        refine (k2.out _).mono ?_
        rintro e w' ⟨rfl, n4, rfl⟩
        go_wp2_with fail
        refine (k2.out _).mono ?_
        rintro e w' ⟨rfl, n5, rfl⟩
        go_wp2_with fail
        refine (k5.out _).mono ?_
        rintro e w' ⟨rfl, rfl⟩
        go_wp2_with fail
        go_ret
        exact ⟨rfl, below_drewN' (Below.refl _ _) _⟩
      · have hne : ¬ s.data.toList = b.data.toList := fun e => h0 (hz.2 (by rw [← hbl, ← e]))
        have e1 : (b.toList == s.toList) = false := by rw [beq_eq_false_iff_ne, Lib.toList_data, Lib.toList_data]; exact fun e => hne e.symm
        have e2 : (((hopsL s.data.toList : Nat) : Int) == 0) = false := by rw [beq_eq_false_iff_ne]; omega
        generalize hopsL s.data.toList = k at k3 e2
        clear hi hd hz hib hb hbl h0 hne
        go_enter Try.func6, Try.ntmps6
        go_wp2_with fail
        refine (fixed_any _).mono ?_
        rintro e w' ⟨rfl, n1, rfl⟩
        go_wp2_with fail
        refine (k4.out _).mono ?_
        rintro e w' ⟨rfl, rfl⟩
        go_wp2_with fail
        refine (k1.out _).mono ?_
        rintro e w' ⟨rfl, n2, rfl⟩
        go_wp2_with fail
        refine (k3.out _).mono ?_
        rintro e w' ⟨rfl, n3, rfl⟩
        go_wp2_with fail
        refine (k2.out _).mono ?_
        rintro e w' ⟨rfl, n4, rfl⟩
        go_wp2_with fail
        refine (k2.out _).mono ?_
        rintro e w' ⟨rfl, n5, rfl⟩
        go_wp2_with fail
        refine (k5.out _).mono ?_
        rintro e w' ⟨rfl, rfl⟩
        go_wp2_with fail
        go_ret
        exact ⟨rfl, below_drewN' (Below.refl _ _) _⟩
end Go.Proofs.Ytaplncibadggaaa
