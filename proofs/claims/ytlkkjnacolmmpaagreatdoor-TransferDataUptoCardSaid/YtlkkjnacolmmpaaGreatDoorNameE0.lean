
/- The walks of package name: apart, Base, Hops, Hop, Over. The walks of the document's names: Hops, Base, Hop, Over. -/
import Derived.Test.YtlkkjnacolmmpaaGreatDoorNameC0
import Derived.Test.YtlkkjnacolmmpaaGreatDoorNameG0
namespace Go.Proofs.YtlkkjnacolmmpaaGreatDoor
set_option maxRecDepth 100000
open Go Go.RowKit

/-- what apart hands back -/
def apartV (l : List UInt8) : Value := if denomL l = true then .tuple #[.string ⟨(baseL l).toArray⟩, .int .i64 (hopsL l : Int)] else .tuple #[.string ByteArray.empty, .int .i64 0]

/-- what Base and Hops hand back -/
def baseD (l : List UInt8) : List UInt8 := if denomL l = true then baseL l else []
def hopsD (l : List UInt8) : Nat := if denomL l = true then hopsL l else 0
theorem apartV_eq (l : List UInt8) : apartV l = .tuple #[.string ⟨(baseD l).toArray⟩, .int .i64 (hopsD l : Int)] := by
  unfold apartV baseD hopsD
  by_cases h : denomL l = true
  · rw [if_pos h, if_pos h, if_pos h]
  · rw [if_neg h, if_neg h, if_neg h]; rfl

/-- what Hop hands back -/
def hopL (l : List UInt8) : Option (List UInt8 × List UInt8) := if denomL l = true then splitL l else none
def hopV (l : List UInt8) : Value := match hopL l with
  | some (h, r) => .tuple #[.string ⟨h.toArray⟩, .string ⟨r.toArray⟩, .bool true]
  | none => .tuple #[.string ByteArray.empty, .string ByteArray.empty, .bool false]

set_option maxHeartbeats 1000000 in
theorem hop_any (s : ByteArray) (w : World) (hs : s.size ≤ maxLen) :
    Calls Tryz.prog 159 #[.string s] w fun e w' => e = .returned (hopV s.data.toList) ∧ ∃ n, w' = w.drewN n := by
  unfold hopV hopL
  cases hd : denomL s.data.toList with
  | true =>
    rw [if_pos rfl]
    cases hsp : splitL s.data.toList with
    | none =>
      have hv := splitV_none hsp
      clear hsp
      go_enter Tryz.func159, Tryz.ntmps159
      go_wp2_with (first | (go_at_call 150; refine (denom_any _ _ hs).mono ?_; rintro e w' ⟨rfl, n, rfl⟩; rw [hd]) | (go_at_call 191; refine (split_any _ _ hs).mono ?_; rintro e w' ⟨rfl, m, rfl⟩; rw [hv]))
      go_ret3
      exact ⟨rfl, n + m, rfl⟩
    | some p =>
      obtain ⟨h, r⟩ := p
      have hv := splitV_some hsp
      clear hsp
      go_enter Tryz.func159, Tryz.ntmps159
      go_wp2_with (first | (go_at_call 150; refine (denom_any _ _ hs).mono ?_; rintro e w' ⟨rfl, n, rfl⟩; rw [hd]) | (go_at_call 191; refine (split_any _ _ hs).mono ?_; rintro e w' ⟨rfl, m, rfl⟩; rw [hv]))
      go_ret3
      exact ⟨rfl, n + m, rfl⟩
  | false =>
    rw [if_neg (by simp)]
    go_enter Tryz.func159, Tryz.ntmps159
    go_wp2_with (go_at_call 150; refine (denom_any _ _ hs).mono ?_; rintro e w' ⟨rfl, n, rfl⟩; rw [hd])
    go_ret3
    exact ⟨rfl, n, rfl⟩

theorem app_mk (a b : ByteArray) : a ++ b = ⟨(a.data.toList ++ b.data.toList).toArray⟩ := by
  apply ByteArray.ext
  rw [ByteArray.data_append]
  apply Array.ext'
  simp
theorem app3 (h s : List UInt8) : (⟨(trL ++ h ++ 47 :: s).toArray⟩ : ByteArray) = ⟨#[116, 114, 97, 110, 115, 102, 101, 114, 47]⟩ ++ ⟨h.toArray⟩ ++ ⟨#[47]⟩ ++ ⟨s.toArray⟩ := by
  rw [app_mk, app_mk, app_mk]
  simp [trL]

end Go.Proofs.YtlkkjnacolmmpaaGreatDoor
namespace Go.Proofs.YtlkkjnacolmmpaaGreatDoor
set_option maxRecDepth 100000
open Go Go.RowKit

theorem rdenom_to (s : ByteArray) (b : Bool) (w : World) (hs : s.size ≤ maxLen) (e : denomL s.data.toList = b) :
    Calls Tryz.prog 153 #[.string s] w fun e w' => e = .returned (.bool b) ∧ Below w.heap.size w w' := by
  have := rdenom_any s w hs
  rw [e] at this
  exact this

/-- the words of a denomination, in memory -/
theorem words_den (s : ByteArray) (w : World) (hd : denomL s.data.toList = true) :
    Calls Tryz.prog 167 #[.string s] w fun e w' => ∃ g cap, e = .returned (.slice (some ⟨g, 0, none⟩) (2 * hopsL s.data.toList + 1) cap) ∧ Below w.heap.size w w' ∧
      (∀ k, k < 2 * hopsL s.data.toList + 1 → w'.cell? ⟨g, k, none⟩ = some (.string ⟨((wordsL s.data.toList).getD k []).toArray⟩)) ∧ w'.cell? ⟨g, 2 * hopsL s.data.toList, none⟩ = some (.string ⟨(baseL s.data.toList).toArray⟩) := by
  have hl := denom_len hd
  obtain ⟨h1, h2⟩ := words_denom _ s.data.toList (Nat.le_refl _) (denom_ident hd)
  refine (words_any s w (by rw [Lib.size_eq]; exact hl)).mono ?_
  rintro e w1 ⟨v, rfl, ho, hb⟩
  have hpos := words_pos s.data.toList
  obtain ⟨g, cap, rfl, hg, hglt⟩ := ho.form hpos
  have hcell : ∀ k, k < (wordsL s.data.toList).length → w1.cell? ⟨g, k, none⟩ = some (.string ⟨((wordsL s.data.toList).getD k []).toArray⟩) := fun k hk => by
    rw [ho.cellAt k (by omega), strs_at _ k hk]
  refine ⟨g, cap, by rw [h1], hb, fun k hk => hcell k (by omega), ?_⟩
  rw [hcell _ (by omega), h2]

set_option maxHeartbeats 1000000 in
theorem rhops_any (s : ByteArray) (w : World) (hs : s.size ≤ maxLen) :
    Calls Tryz.prog 166 #[.string s] w fun e w' => e = .returned (.int .i64 (hopsD s.data.toList : Int)) ∧ Below w.heap.size w w' := by
  unfold hopsD
  cases hd : denomL s.data.toList with
  | false =>
    have HD := Lib.hid (rdenom_to s false · hs hd)
    rw [if_neg (by simp)]
    clear hd
    go_enter Tryz.func166, Tryz.ntmps166
    go_wp2_with fail
    refine (HD.out _).mono ?_
    rintro e w1 ⟨rfl, hb⟩
    go_wp2_with fail
    go_ret
    exact ⟨rfl, hb⟩
  | true =>
    have HD := Lib.hid (rdenom_to s true · hs hd)
    have HW := Lib.hid (words_den s · hd)
    have hl := denom_len hd
    have hbl := base_len _ s.data.toList (Nat.le_refl _)
    rw [if_pos rfl]
    generalize hopsL s.data.toList = k at *
    have c1 : (k : Int) ≤ 160 := by omega
    have i1 : (2 * (k : Int) + 1) / 2 = (k : Int) := by omega
    clear hd hl hbl
    go_enter Tryz.func166, Tryz.ntmps166
    go_wp2_with fail
    refine (HD.out _).mono ?_
    rintro e w1 ⟨rfl, hb⟩
    go_wp2_with fail
    refine (HW.out _).mono ?_
    rintro e w2 ⟨g, cap, rfl, hb2, hc, hcb⟩
    clear hc hcb
    go_wp2_with fail
    go_ret
    exact ⟨by show Ending.returned (.int .i64 ((2 * (k : Int) + 1) / 2)) = _; rw [i1], below_chain' hb hb.size hb2⟩

theorem rhops_to (s : ByteArray) (k : Nat) (w : World) (hs : s.size ≤ maxLen) (e : hopsD s.data.toList = k) :
    Calls Tryz.prog 166 #[.string s] w fun e w' => e = .returned (.int .i64 (k : Int)) ∧ Below w.heap.size w w' := by
  have := rhops_any s w hs
  rw [e] at this
  exact this

set_option maxHeartbeats 1000000 in
theorem rhop_any (s : ByteArray) (w : World) (hs : s.size ≤ maxLen) :
    Calls Tryz.prog 115 #[.string s] w fun e w' => e = .returned (hopV s.data.toList) ∧ Below w.heap.size w w' := by
  have hsz := Lib.size_eq s
  by_cases h0 : hopsD s.data.toList = 0
  · have hv : hopV s.data.toList = .tuple #[.string ByteArray.empty, .string ByteArray.empty, .bool false] := by
      unfold hopV hopL
      unfold hopsD at h0
      by_cases hd : denomL s.data.toList = true
      · rw [if_pos hd] at h0 ⊢
        cases e : splitL s.data.toList with
        | none => rfl
        | some p => have := (base_some e).2; omega
      · rw [if_neg hd]
    have HD := Lib.hid (rhops_to s 0 · hs h0)
    rw [hv]
    clear hv h0 hsz
    go_enter Tryz.func115, Tryz.ntmps115
    go_wp2_with fail
    refine (HD.out _).mono ?_
    rintro e w1 ⟨rfl, hb⟩
    go_wp2_with fail
    go_ret3
    exact ⟨rfl, hb⟩
  · have hd : denomL s.data.toList = true := by
      by_cases hd : denomL s.data.toList = true
      · exact hd
      · unfold hopsD at h0; rw [if_neg hd] at h0; exact absurd rfl h0
    have h1 : hopsD s.data.toList = hopsL s.data.toList := by unfold hopsD; rw [if_pos hd]
    have hn : hopsL s.data.toList ≠ 0 := by omega
    obtain ⟨h, r, hsp⟩ : ∃ h r, splitL s.data.toList = some (h, r) := by
      cases e : splitL s.data.toList with
      | none => exact absurd (base_none e).2 hn
      | some p => exact ⟨p.1, p.2, rfl⟩
    have hv : hopV s.data.toList = .tuple #[.string ⟨h.toArray⟩, .string ⟨r.toArray⟩, .bool true] := by unfold hopV hopL; rw [if_pos hd, hsp]
    have HD := Lib.hid (rhops_to s (hopsL s.data.toList) · hs h1)
    have HW := Lib.hid (words_den s · hd)
    have hws : (wordsL s.data.toList).getD 1 [] = h := by rw [words_split hsp]; rfl
    have hl := splitL_len hsp
    have hdl := denom_len hd
    have hbl := base_len _ s.data.toList (Nat.le_refl _)
    have hr : r = s.data.toList.drop (9 + h.length + 1) := by
      obtain ⟨e1, _⟩ := splitL_iff.1 hsp
      have e2 : s.data.toList = (trL ++ h ++ [47]) ++ r := by rw [e1]; simp
      rw [e2, List.drop_left' (by simp [trL_len]; omega)]
    have c1 : (h.length : Int) ≤ 160 := by omega
    have c2 : (9 : Int) + (h.length : Int) + 1 ≤ (s.size : Int) := by omega
    have c3 : (s.size : Int) ≤ 160 := by omega
    have hb0 : (((hopsL s.data.toList : Nat) : Int) == 0) = false := by rw [beq_eq_false_iff_ne]; omega
    have hk1 : 1 < 2 * hopsL s.data.toList + 1 := by omega
    have hk2 : hopsL s.data.toList ≤ 160 := by omega
    have c4 : (1 : Int) < 2 * ((hopsL s.data.toList : Nat) : Int) + 1 := by omega
    have hhz : (⟨h.toArray⟩ : ByteArray).size = h.length := size_mk h
    obtain ⟨x, hx⟩ : ∃ x : ByteArray, x = ⟨h.toArray⟩ := ⟨_, rfl⟩
    rw [hv, ← hx]
    rw [← hx] at hhz
    rw [← hhz] at c1 c2 hr
    have HR := Lib.hid hr
    have HS := Lib.hid hws
    have HX := Lib.hid hx
    have HZ := Lib.hid hsz
    generalize hopsL s.data.toList = k at *
    generalize baseL s.data.toList = b at *
    clear hd hdl hbl h0 h1 hn hsp hv hws hl hr hx hsz hhz
    go_enter Tryz.func115, Tryz.ntmps115
    go_wp2_with fail
    refine (HD.out _).mono ?_
    rintro e w1 ⟨rfl, hb⟩
    go_wp2_with fail
    refine (HW.out _).mono ?_
    rintro e w2 ⟨g, cap, rfl, hb2, hc, hcb⟩
    have e1 := hc 1 hk1
    rw [HS.out, ← HX.out] at e1
    have hbb := below_chain' hb hb.size hb2
    clear hc hcb hb hb2
    go_wp2_with fail
    go_quiet (fail)
    go_wp2
    go_ret3
    refine ⟨?_, below_drewN' hbb _⟩
    rw [HR.out]
    have hz : s.size - (9 + x.size + 1) = (s.data.toList.drop (9 + x.size + 1)).length := by rw [List.length_drop, HZ.out]
    have he : (⟨(s.data.toList.drop (9 + x.size + 1)).toArray⟩ : ByteArray) = s.extract (9 + x.size + 1) s.size := by
      rw [Lib.extract_eq, hz, List.take_of_length_le (Nat.le_refl _)]
    rw [he]
    rfl

end Go.Proofs.YtlkkjnacolmmpaaGreatDoor
