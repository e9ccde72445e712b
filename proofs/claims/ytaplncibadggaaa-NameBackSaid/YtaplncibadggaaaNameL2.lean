/- The walk of the law: hops are put on and read back. -/
import Derived.Test.YtaplncibadggaaaNameL1
import Derived.Test.YtaplncibadggaaaNameL3
namespace Go.Proofs.Ytaplncibadggaaa
open Go Go.RowKit

theorem hop_to (s : ByteArray) (v : Value) (w : World) (hs : s.size ≤ maxLen) (e : hopV s.data.toList = v) :
    Calls Try.prog 8 #[.string s] w fun e w' => e = .returned v ∧ ∃ n, w' = w.drewN n := by
  have := hop_any s w hs
  rw [e] at this
  exact this
/-- one way behind Hop(s): the law's end -/
theorem hop_cases (l : List UInt8) : (∃ h r, hopV l = .tuple #[.string ⟨h.toArray⟩, .string ⟨r.toArray⟩, .bool true] ∧ overL h r = (l, 0) ∧ h.length ≤ l.length ∧ r.length ≤ l.length) ∨
    (hopV l = .tuple #[.string ByteArray.empty, .string ByteArray.empty, .bool false] ∧ (denomL l = true → baseD l = l)) := by
  unfold hopV hopL
  by_cases hd : denomL l = true
  · rw [if_pos hd]
    cases hsp : splitL l with
    | none => exact .inr ⟨rfl, fun _ => by unfold baseD; rw [if_pos hd, (base_none hsp).1]⟩
    | some p =>
      obtain ⟨h, r⟩ := p
      have := splitL_len hsp
      exact .inl ⟨h, r, rfl, over_back hsp hd, by omega, by omega⟩
  · rw [if_neg hd]
    exact .inr ⟨rfl, fun h => absurd h hd⟩

set_option maxHeartbeats 2000000 in
/-- behind the first part, which leaves draws alone -/
theorem back_walk (h s : ByteArray) (w : World) (hh : h.size ≤ maxLen) (hs : s.size ≤ maxLen) :
    Calls Try.prog 5 #[.string h, .string s] w fun e w' => e = .returned (.bool true) ∧ Below w.heap.size w w' := by
  have hhz := Lib.size_eq h
  have hsz := Lib.size_eq s
  have hco := over_cases h.data.toList s.data.toList
  have hch := hop_cases s.data.toList
  have HC := Lib.hid hch
  have HZ := Lib.hid hsz
  clear hch
  rcases hco with ⟨hi, hd, hl, he⟩ | he | he
  · obtain ⟨m1, m2, m3, m4⟩ := over_more hi hd hl
    obtain ⟨t, ht⟩ : ∃ t : ByteArray, t = ⟨(trL ++ h.data.toList ++ 47 :: s.data.toList).toArray⟩ := ⟨_, rfl⟩
    have htl : t.data.toList = trL ++ h.data.toList ++ 47 :: s.data.toList := by rw [ht]
    have hts : t.size ≤ maxLen := by rw [Lib.size_eq, htl]; have := denom_len m2; simp only [maxLen]; omega
    have hov := (over_to h s · hh hs he)
    rw [← ht] at hov
    rw [← htl] at m1 m2 m3 m4
    obtain ⟨b, hb⟩ : ∃ b : ByteArray, b = ⟨(baseL s.data.toList).toArray⟩ := ⟨_, rfl⟩
    have hbl : b.data.toList = baseL s.data.toList := by rw [hb]
    have k1 := Lib.hid hov
    have k2 := Lib.hid (hop_to t (.tuple #[.string h, .string s, .bool true]) · hts (by unfold hopV hopL; rw [if_pos m2, m1]))
    have k3 := Lib.hid (hops_to t (hopsL s.data.toList + 1) · hts (by unfold hopsD; rw [if_pos m2, m4]))
    have k4 := Lib.hid (hops_to s (hopsL s.data.toList) · hs (by unfold hopsD; rw [if_pos hd]))
    have k5 := Lib.hid (base_to t b · hts (by unfold baseD; rw [if_pos m2, m3, hbl]))
    have k6 := Lib.hid (base_to s b · hs (by unfold baseD; rw [if_pos hd, hbl]))
    have k7 := Lib.hid (denom_to t true · hts m2)
    have hk : hopsL s.data.toList ≤ 160 := by have := base_len _ s.data.toList (Nat.le_refl _); have := denom_len hd; omega
    generalize hopsL s.data.toList = k at k3 k4 hk
    have b1 : (k : Int) ≤ 160 := by omega
    clear hi hd hl he m1 m2 m3 m4 ht htl hov hb hbl hhz hsz hk
    go_enter Try.func5, Try.ntmps5
    go_wp2_with fail
    refine (fixed_any _).mono ?_
    rintro e w' ⟨rfl, n1, rfl⟩
    go_wp2_with fail
    refine (k1.out _).mono ?_
    rintro e w' ⟨rfl, n2, rfl⟩
    go_wp2_with fail
    refine (k2.out _).mono ?_
    rintro e w' ⟨rfl, n3, rfl⟩
    go_wp2_with fail
    refine (k3.out _).mono ?_
    rintro e w' ⟨rfl, n4, rfl⟩
    go_wp2_with fail
    refine (k4.out _).mono ?_
    rintro e w' ⟨rfl, n5, rfl⟩
    go_wp2_with fail
    refine (k5.out _).mono ?_
    rintro e w' ⟨rfl, n6, rfl⟩
    go_wp2_with fail
    refine (k6.out _).mono ?_
    rintro e w' ⟨rfl, n7, rfl⟩
    go_wp2_with fail
    refine (k7.out _).mono ?_
    rintro e w' ⟨rfl, n8, rfl⟩
    rcases HC.out with ⟨x, r, e1, e2, e3, e4⟩ | ⟨e1, e2⟩
    · have q1 := Lib.hid (hop_to s _ · hs e1)
      have q2 := Lib.hid (over_to ⟨x.toArray⟩ ⟨r.toArray⟩ · (by rw [size_mk]; have := HZ.out; omega) (by rw [size_mk]; have := HZ.out; omega) e2)
      rw [Lib.mk_data] at q2
      clear e1 e2 e3 e4
      go_wp2_with fail
      refine (q1.out _).mono ?_
      rintro e w' ⟨rfl, j1, rfl⟩
      go_wp2_with fail
      refine (q2.out _).mono ?_
      rintro e w' ⟨rfl, j2, rfl⟩
      go_wp2_with fail
      go_ret
      exact ⟨rfl, below_drewN' (Below.refl _ _) _⟩
    · have q1 := Lib.hid (hop_to s _ · hs e1)
      cases hd : denomL s.data.toList with
      | false =>
        have q2 := Lib.hid (denom_to s false · hs hd)
        clear e1 e2 hd
        go_wp2_with fail
        refine (q1.out _).mono ?_
        rintro e w' ⟨rfl, j1, rfl⟩
        go_wp2_with fail
        refine (q2.out _).mono ?_
        rintro e w' ⟨rfl, j2, rfl⟩
        go_wp2_with fail
        go_ret
        exact ⟨rfl, below_drewN' (Below.refl _ _) _⟩
      | true =>
        have q2 := Lib.hid (denom_to s true · hs hd)
        have q3 := Lib.hid (base_to s s · hs (e2 hd))
        clear e1 e2 hd
        go_wp2_with fail
        refine (q1.out _).mono ?_
        rintro e w' ⟨rfl, j1, rfl⟩
        go_wp2_with fail
        refine (q2.out _).mono ?_
        rintro e w' ⟨rfl, j2, rfl⟩
        go_wp2_with fail
        refine (q3.out _).mono ?_
        rintro e w' ⟨rfl, j3, rfl⟩
        go_wp2_with fail
        go_ret
        exact ⟨rfl, below_drewN' (Below.refl _ _) _⟩
  all_goals
    have hov := (over_to h s · hh hs he)
    have k1 := Lib.hid hov
    clear he hov hhz hsz
    go_enter Try.func5, Try.ntmps5
    go_wp2_with fail
    refine (fixed_any _).mono ?_
    rintro e w' ⟨rfl, n1, rfl⟩
    go_wp2_with fail
    refine (k1.out _).mono ?_
    rintro e w' ⟨rfl, n2, rfl⟩
    rcases HC.out with ⟨x, r, e1, e2, e3, e4⟩ | ⟨e1, e2⟩
    · have q1 := Lib.hid (hop_to s _ · hs e1)
      have q2 := Lib.hid (over_to ⟨x.toArray⟩ ⟨r.toArray⟩ · (by rw [size_mk]; have := HZ.out; omega) (by rw [size_mk]; have := HZ.out; omega) e2)
      rw [Lib.mk_data] at q2
      clear e1 e2 e3 e4
      go_wp2_with fail
      refine (q1.out _).mono ?_
      rintro e w' ⟨rfl, j1, rfl⟩
      go_wp2_with fail
      refine (q2.out _).mono ?_
      rintro e w' ⟨rfl, j2, rfl⟩
      go_wp2_with fail
      go_ret
      exact ⟨rfl, below_drewN' (Below.refl _ _) _⟩
    · have q1 := Lib.hid (hop_to s _ · hs e1)
      cases hd : denomL s.data.toList with
      | false =>
        have q2 := Lib.hid (denom_to s false · hs hd)
        clear e1 e2 hd
        go_wp2_with fail
        refine (q1.out _).mono ?_
        rintro e w' ⟨rfl, j1, rfl⟩
        go_wp2_with fail
        refine (q2.out _).mono ?_
        rintro e w' ⟨rfl, j2, rfl⟩
        go_wp2_with fail
        go_ret
        exact ⟨rfl, below_drewN' (Below.refl _ _) _⟩
      | true =>
        have q2 := Lib.hid (denom_to s true · hs hd)
        have q3 := Lib.hid (base_to s s · hs (e2 hd))
        clear e1 e2 hd
        go_wp2_with fail
        refine (q1.out _).mono ?_
        rintro e w' ⟨rfl, j1, rfl⟩
        go_wp2_with fail
        refine (q2.out _).mono ?_
        rintro e w' ⟨rfl, j2, rfl⟩
        go_wp2_with fail
        refine (q3.out _).mono ?_
        rintro e w' ⟨rfl, j3, rfl⟩
        go_wp2_with fail
        go_ret
        exact ⟨rfl, below_drewN' (Below.refl _ _) _⟩
end Go.Proofs.Ytaplncibadggaaa
