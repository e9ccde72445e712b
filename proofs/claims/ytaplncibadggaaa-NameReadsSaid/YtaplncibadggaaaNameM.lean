/- The walks of the document's names: Hops, Base, Hop, Over. -/
import Derived.Test.YtaplncibadggaaaNameK
import Derived.Test.YtaplncibadggaaaNameE
namespace Go.Proofs.Ytaplncibadggaaa
open Go Go.RowKit

theorem rdenom_to (s : ByteArray) (b : Bool) (w : World) (hs : s.size ≤ maxLen) (e : denomL s.data.toList = b) :
    Calls Try.prog 14 #[.string s] w fun e w' => e = .returned (.bool b) ∧ Below w.heap.size w w' := by
  have := rdenom_any s w hs
  rw [e] at this
  exact this

/-- the words of a denomination, in memory -/
theorem words_den (s : ByteArray) (w : World) (hd : denomL s.data.toList = true) :
    Calls Try.prog 22 #[.string s] w fun e w' => ∃ g cap, e = .returned (.slice (some ⟨g, 0, none⟩) (2 * hopsL s.data.toList + 1) cap) ∧ Below w.heap.size w w' ∧
      (∀ k, k < 2 * hopsL s.data.toList + 1 → w'.cell? ⟨g, k, none⟩ = some (.string ⟨((wordsL s.data.toList).getD k []).toArray⟩)) ∧ w'.cell? ⟨g, 2 * hopsL s.data.toList, none⟩ = some (.string ⟨(baseL s.data.toList).toArray⟩) := by
  have hl := denom_len hd
  obtain ⟨h1, h2⟩ := words_denom _ s.data.toList (Nat.le_refl _) (denom_ident hd)
  refine (words_any s w (by rw [Lib.size_eq]; exact hl)).mono ?_
  rintro e w1 ⟨v, rfl, ho, hb⟩
  have hpos := words_pos s.data.toList
  obtain ⟨g, cap, rfl, hg, hglt⟩ := ho.form hpos
  have hcell : ∀ k, k < (wordsL s.data.toList).length → w1.cell? ⟨g, k, none⟩ = some (.string ⟨((wordsL s.data.toList).getD k []).toArray⟩) := fun k hk => by
    rw [ho.cellAt k (by omega), strs_at _ k hk]
  refine ⟨g, cap, by rw [h1], hb, fun k hk => hcell k (by omega), ?_⟩
  rw [hcell _ (by omega), h2]

set_option maxHeartbeats 1000000 in
theorem rhops_any (s : ByteArray) (w : World) (hs : s.size ≤ maxLen) :
    Calls Try.prog 18 #[.string s] w fun e w' => e = .returned (.int .i64 (hopsD s.data.toList : Int)) ∧ Below w.heap.size w w' := by
  unfold hopsD
  cases hd : denomL s.data.toList with
  | false =>
    have HD := Lib.hid (rdenom_to s false · hs hd)
    rw [if_neg (by simp)]
    clear hd
    go_enter Try.func18, Try.ntmps18
    go_wp2_with fail
    refine (HD.out _).mono ?_
    rintro e w1 ⟨rfl, hb⟩
    go_wp2_with fail
    go_ret
    exact ⟨rfl, hb⟩
  | true =>
    have HD := Lib.hid (rdenom_to s true · hs hd)
    have HW := Lib.hid (words_den s · hd)
    have hl := denom_len hd
    have hbl := base_len _ s.data.toList (Nat.le_refl _)
    rw [if_pos rfl]
    generalize hopsL s.data.toList = k at *
    have c1 : (k : Int) ≤ 160 := by omega
    have i1 : (2 * (k : Int) + 1) / 2 = (k : Int) := by omega
    clear hd hl hbl
    go_enter Try.func18, Try.ntmps18
    go_wp2_with fail
    refine (HD.out _).mono ?_
    rintro e w1 ⟨rfl, hb⟩
    go_wp2_with fail
    refine (HW.out _).mono ?_
    rintro e w2 ⟨g, cap, rfl, hb2, hc, hcb⟩
    clear hc hcb
    go_wp2_with fail
    go_ret
    exact ⟨by show Ending.returned (.int .i64 ((2 * (k : Int) + 1) / 2)) = _; rw [i1], below_chain' hb hb.size hb2⟩

set_option maxHeartbeats 1000000 in
theorem rbase_any (s : ByteArray) (w : World) (hs : s.size ≤ maxLen) :
    Calls Try.prog 16 #[.string s] w fun e w' => e = .returned (.string ⟨(baseD s.data.toList).toArray⟩) ∧ Below w.heap.size w w' := by
  unfold baseD
  cases hd : denomL s.data.toList with
  | false =>
    have HD := Lib.hid (rdenom_to s false · hs hd)
    rw [if_neg (by simp)]
    clear hd
    go_enter Try.func16, Try.ntmps16
    go_wp2_with fail
    refine (HD.out _).mono ?_
    rintro e w1 ⟨rfl, hb⟩
    go_wp2_with fail
    go_ret
    exact ⟨rfl, hb⟩
  | true =>
    have HD := Lib.hid (rdenom_to s true · hs hd)
    have HW := Lib.hid (words_den s · hd)
    have hl := denom_len hd
    have hbl := base_len _ s.data.toList (Nat.le_refl _)
    rw [if_pos rfl]
    generalize hopsL s.data.toList = k at *
    generalize baseL s.data.toList = b at *
    have c1 : (k : Int) ≤ 160 := by omega
    clear hd hl hbl
    go_enter Try.func16, Try.ntmps16
    go_wp2_with fail
    refine (HD.out _).mono ?_
    rintro e w1 ⟨rfl, hb⟩
    go_wp2_with fail
    refine (HW.out _).mono ?_
    rintro e w2 ⟨g, cap, rfl, hb2, hc, hcb⟩
    clear hc
    go_wp2_with fail
    go_ret
    exact ⟨rfl, below_chain' hb hb.size hb2⟩

theorem rhops_to (s : ByteArray) (k : Nat) (w : World) (hs : s.size ≤ maxLen) (e : hopsD s.data.toList = k) :
    Calls Try.prog 18 #[.string s] w fun e w' => e = .returned (.int .i64 (k : Int)) ∧ Below w.heap.size w w' := by
  have := rhops_any s w hs
  rw [e] at this
  exact this

set_option maxHeartbeats 1000000 in
theorem rhop_any (s : ByteArray) (w : World) (hs : s.size ≤ maxLen) :
    Calls Try.prog 9 #[.string s] w fun e w' => e = .returned (hopV s.data.toList) ∧ Below w.heap.size w w' := by
  have hsz := Lib.size_eq s
  by_cases h0 : hopsD s.data.toList = 0
  · have hv : hopV s.data.toList = .tuple #[.string ByteArray.empty, .string ByteArray.empty, .bool false] := by
      unfold hopV hopL
      unfold hopsD at h0
      by_cases hd : denomL s.data.toList = true
      · rw [if_pos hd] at h0 ⊢
        cases e : splitL s.data.toList with
        | none => rfl
        | some p => have := (base_some e).2; omega
      · rw [if_neg hd]
    have HD := Lib.hid (rhops_to s 0 · hs h0)
    rw [hv]
    clear hv h0 hsz
    go_enter Try.func9, Try.ntmps9
    go_wp2_with fail
    refine (HD.out _).mono ?_
    rintro e w1 ⟨rfl, hb⟩
    go_wp2_with fail
    go_ret3
    exact ⟨rfl, hb⟩
  · have hd : denomL s.data.toList = true := by
      by_cases hd : denomL s.data.toList = true
      · exact hd
      · unfold hopsD at h0; rw [if_neg hd] at h0; exact absurd rfl h0
    have h1 : hopsD s.data.toList = hopsL s.data.toList := by unfold hopsD; rw [if_pos hd]
    have hn : hopsL s.data.toList ≠ 0 := by omega
    obtain ⟨h, r, hsp⟩ : ∃ h r, splitL s.data.toList = some (h, r) := by
      cases e : splitL s.data.toList with
      | none => exact absurd (base_none e).2 hn
      | some p => exact ⟨p.1, p.2, rfl⟩
    have hv : hopV s.data.toList = .tuple #[.string ⟨h.toArray⟩, .string ⟨r.toArray⟩, .bool true] := by unfold hopV hopL; rw [if_pos hd, hsp]
    have HD := Lib.hid (rhops_to s (hopsL s.data.toList) · hs h1)
    have HW := Lib.hid (words_den s · hd)
    have hws : (wordsL s.data.toList).getD 1 [] = h := by rw [words_split hsp]; rfl
    have hl := splitL_len hsp
    have hdl := denom_len hd
    have hbl := base_len _ s.data.toList (Nat.le_refl _)
    have hr : r = s.data.toList.drop (9 + h.length + 1) := by
      obtain ⟨e1, _⟩ := splitL_iff.1 hsp
      have e2 : s.data.toList = (trL ++ h ++ [47]) ++ r := by rw [e1]; simp
      rw [e2, List.drop_left' (by simp [trL_len]; omega)]
    have c1 : (h.length : Int) ≤ 160 := by omega
    have c2 : (9 : Int) + (h.length : Int) + 1 ≤ (s.size : Int) := by omega
    have c3 : (s.size : Int) ≤ 160 := by omega
    have hb0 : (((hopsL s.data.toList : Nat) : Int) == 0) = false := by rw [beq_eq_false_iff_ne]; omega
    have hk1 : 1 < 2 * hopsL s.data.toList + 1 := by omega
    have hk2 : hopsL s.data.toList ≤ 160 := by omega
    have c4 : (1 : Int) < 2 * ((hopsL s.data.toList : Nat) : Int) + 1 := by omega
    have hhz : (⟨h.toArray⟩ : ByteArray).size = h.length := size_mk h
    obtain ⟨x, hx⟩ : ∃ x : ByteArray, x = ⟨h.toArray⟩ := ⟨_, rfl⟩
    rw [hv, ← hx]
    rw [← hx] at hhz
    rw [← hhz] at c1 c2 hr
    have HR := Lib.hid hr
    have HS := Lib.hid hws
    have HX := Lib.hid hx
    have HZ := Lib.hid hsz
    generalize hopsL s.data.toList = k at *
    generalize baseL s.data.toList = b at *
    clear hd hdl hbl h0 h1 hn hsp hv hws hl hr hx hsz hhz
    go_enter Try.func9, Try.ntmps9
    go_wp2_with fail
    refine (HD.out _).mono ?_
    rintro e w1 ⟨rfl, hb⟩
    go_wp2_with fail
    refine (HW.out _).mono ?_
    rintro e w2 ⟨g, cap, rfl, hb2, hc, hcb⟩
    have e1 := hc 1 hk1
    rw [HS.out, ← HX.out] at e1
    have hbb := below_chain' hb hb.size hb2
    clear hc hcb hb hb2
    go_wp2_with fail
    go_quiet (fail)
    go_wp2
    go_ret3
    refine ⟨?_, below_drewN' hbb _⟩
    rw [HR.out]
    have hz : s.size - (9 + x.size + 1) = (s.data.toList.drop (9 + x.size + 1)).length := by rw [List.length_drop, HZ.out]
    have he : (⟨(s.data.toList.drop (9 + x.size + 1)).toArray⟩ : ByteArray) = s.extract (9 + x.size + 1) s.size := by
      rw [Lib.extract_eq, hz, List.take_of_length_le (Nat.le_refl _)]
    rw [he]
    rfl

set_option maxHeartbeats 1000000 in
theorem rover_any (h s : ByteArray) (w : World) (hh : h.size ≤ maxLen) (hs : s.size ≤ 140737488351232) :
    Calls Try.prog 20 #[.string h, .string s] w fun e w' => e = .returned (.tuple #[.string ⟨(overL h.data.toList s.data.toList).1.toArray⟩, .int .i64 (overL h.data.toList s.data.toList).2]) ∧ Below w.heap.size w w' := by
  have hhz := Lib.size_eq h
  have hsz := Lib.size_eq s
  have hsm : s.size ≤ maxLen := by simp only [maxLen]; omega
  unfold overL
  cases hi : identL h.data.toList with
  | false =>
    have HI := Lib.hid (rident_to h false · hh hi)
    rw [if_neg (by simp)]
    clear hhz hsz hi
    go_enter Try.func20, Try.ntmps20
    go_wp2_with fail
    refine (HI.out _).mono ?_
    rintro e w1 ⟨rfl, rfl⟩
    go_wp2_with fail
    go_ret2
    exact ⟨rfl, Below.refl _ _⟩
  | true =>
    have HI := Lib.hid (rident_to h true · hh hi)
    rw [if_pos rfl]
    have hil := identL_len hi
    have m1 : h.size ≤ 32 := by omega
    obtain ⟨t, ht⟩ : ∃ t : ByteArray, t = ⟨(trL ++ h.data.toList ++ 47 :: s.data.toList).toArray⟩ := ⟨_, rfl⟩
    have hts : t.size = h.size + s.size + 10 := by rw [ht, size_mk]; simp [trL_len]; omega
    have hta : (⟨#[116, 114, 97, 110, 115, 102, 101, 114, 47]⟩ ++ h ++ ⟨#[47]⟩ ++ s : ByteArray) = t := by
      rw [ht, app3, Lib.mk_data, Lib.mk_data]
    have HT := Lib.hid hta
    have HS := Lib.hid hts
    have HH := Lib.hid hhz
    have HZ := Lib.hid hsz
    have HY := Lib.hid ht
    cases hd : denomL s.data.toList with
    | false =>
      have HD := Lib.hid (rdenom_to s false · hsm hd)
      rw [if_neg (by simp)]
      clear hhz hsz hi hil hd hta hts ht
      go_enter Try.func20, Try.ntmps20
      go_wp2_with fail
      refine (HI.out _).mono ?_
      rintro e w1 ⟨rfl, rfl⟩
      go_wp2_with fail
      refine (HD.out _).mono ?_
      rintro e w1 ⟨rfl, hb⟩
      go_wp2_with fail
      go_ret2
      exact ⟨rfl, hb⟩
    | true =>
      have HD := Lib.hid (rdenom_to s true · hsm hd)
      have hdl := denom_len hd
      by_cases h160 : h.data.toList.length + s.data.toList.length + 10 ≤ 160
      · rw [if_pos ⟨rfl, h160⟩]
        have b1 : (t.size : Int) ≤ 160 := by omega
        clear hhz hsz hi hil hd hta hts ht hdl h160
        go_enter Try.func20, Try.ntmps20
        go_wp2_with fail
        refine (HI.out _).mono ?_
        rintro e w1 ⟨rfl, rfl⟩
        go_wp2_with fail
        rw [HT.out]
        refine (HD.out _).mono ?_
        rintro e w1 ⟨rfl, hb⟩
        go_wp2_with fail
        go_ret2
        refine ⟨?_, hb⟩
        rw [← HY.out]
        rfl
      · rw [if_neg (fun h => h160 h.2)]
        have b1 : ¬ (t.size : Int) ≤ 160 := by omega
        clear hhz hsz hi hil hd hta hts ht hdl h160
        go_enter Try.func20, Try.ntmps20
        go_wp2_with fail
        refine (HI.out _).mono ?_
        rintro e w1 ⟨rfl, rfl⟩
        go_wp2_with fail
        rw [HT.out]
        refine (HD.out _).mono ?_
        rintro e w1 ⟨rfl, hb⟩
        go_wp2_with fail
        go_ret2
        exact ⟨rfl, hb⟩
end Go.Proofs.Ytaplncibadggaaa
