/- The walks of package name: apart, Base, Hops, Hop, Over. -/
import Derived.Test.YtaplncibadggaaaNameD
namespace Go.Proofs.Ytaplncibadggaaa
open Go Go.RowKit

/-- what apart hands back -/
def apartV (l : List UInt8) : Value := if denomL l = true then .tuple #[.string ⟨(baseL l).toArray⟩, .int .i64 (hopsL l : Int)] else .tuple #[.string ByteArray.empty, .int .i64 0]

set_option maxHeartbeats 2000000 in
theorem apart_any (s : ByteArray) (w : World) (hs : s.size ≤ maxLen) :
    Calls Try.prog 27 #[.string s] w fun e w' => e = .returned (apartV s.data.toList) ∧ ∃ n, w' = w.drewN n := by
  have hsz := Lib.size_eq s
  unfold apartV
  cases hd : denomL s.data.toList with
  | true =>
    rw [if_pos rfl]
    have hl := denom_len hd
    have HZ := Lib.hid hsz
    have hs160 : s.size ≤ 160 := by omega
    have hb0 := base_len _ s.data.toList (Nat.le_refl _)
    have HB0 := Lib.hid hb0
    clear hsz hl hb0
    go_enter Try.func27, Try.ntmps27
    go_wp2_with (go_at_call 13; refine (denom_any _ _ hs).mono ?_; rintro e w' ⟨rfl, n, rfl⟩; rw [hd])
    clear hd
    have HS := Lib.hid hs
    clear hs
    go_loopw [0, 4] (fun v i wr => ∃ (x : ByteArray) (k m : Nat), v = .string x ∧ i = .int .i64 k ∧ x.size ≤ 160 ∧ x.size + k ≤ 160 ∧ baseL x.data.toList = baseL s.data.toList ∧ k + hopsL x.data.toList = hopsL s.data.toList ∧ wr = w.drewN m) (fun v _ _ => match v with | .string x => x.size | _ => 0)
    case atStart => exact ⟨s, 0, n, rfl, rfl, hs160, by omega, rfl, by omega, rfl⟩
    case round =>
      obtain ⟨x, k, m, rfl, rfl, hx, hxk, he, hk, rfl⟩ := hrel
      have HE := Lib.hid he
      have HK := Lib.hid hk
      clear he hk
      have hxm : x.size ≤ maxLen := by simp only [maxLen]; omega
      have hxz := Lib.size_eq x
      have HX := Lib.hid hxz
      clear hxz
      have HM := Lib.hid hxm
      clear hxm
      cases hsp : splitL x.data.toList with
      | none =>
        have hv := splitV_none hsp
        have HB := Lib.hid (base_none hsp)
        clear hsp
        go_wp2_with (go_at_call 21; refine (split_any _ _ HM.out).mono ?_; rintro e w' ⟨rfl, m2, rfl⟩; rw [hv])
        go_ret2
        refine ⟨?_, m + m2, rfl⟩
        rw [← HE.out, ← HK.out, HB.out.1, HB.out.2, Nat.add_zero, Lib.mk_data]
        rfl
      | some p =>
        obtain ⟨h, r⟩ := p
        have hv := splitV_some hsp
        have HB := Lib.hid (base_some hsp)
        have HL := Lib.hid (splitL_len hsp)
        clear hsp
        go_wp2_with (go_at_call 21; refine (split_any _ _ HM.out).mono ?_; rintro e w' ⟨rfl, m2, rfl⟩; rw [hv])
        go_roundw
        case rel => exact ⟨⟨r.toArray⟩, k + 1, m + m2, rfl, by go_num, by rw [size_mk]; have := HL.out; have := HX.out; omega, by rw [size_mk]; have := HL.out; have := HX.out; omega, by rw [← HE.out, HB.out.1], by have h1 := HB.out.2; have h2 := HK.out; show k + 1 + hopsL r = _; omega, rfl⟩
        case measure => have := HL.out; have := HX.out; simp [size_mk]; omega
  | false =>
    rw [if_neg (by simp)]
    clear hsz
    go_enter Try.func27, Try.ntmps27
    go_wp2_with (go_at_call 13; refine (denom_any _ _ hs).mono ?_; rintro e w' ⟨rfl, n, rfl⟩; rw [hd])
    go_ret2
    exact ⟨rfl, n, rfl⟩

/-- what Base and Hops hand back -/
def baseD (l : List UInt8) : List UInt8 := if denomL l = true then baseL l else []
def hopsD (l : List UInt8) : Nat := if denomL l = true then hopsL l else 0
theorem apartV_eq (l : List UInt8) : apartV l = .tuple #[.string ⟨(baseD l).toArray⟩, .int .i64 (hopsD l : Int)] := by
  unfold apartV baseD hopsD
  by_cases h : denomL l = true
  · rw [if_pos h, if_pos h, if_pos h]
  · rw [if_neg h, if_neg h, if_neg h]; rfl

theorem base_any (s : ByteArray) (w : World) (hs : s.size ≤ maxLen) :
    Calls Try.prog 15 #[.string s] w fun e w' => e = .returned (.string ⟨(baseD s.data.toList).toArray⟩) ∧ ∃ n, w' = w.drewN n := by
  have ha := apartV_eq s.data.toList
  go_enter Try.func15, Try.ntmps15
  go_wp2_with (go_at_call 27; refine (apart_any _ _ hs).mono ?_; rintro e w' ⟨rfl, n, rfl⟩; rw [ha])
  go_ret
  exact ⟨rfl, n, rfl⟩
theorem hops_any (s : ByteArray) (w : World) (hs : s.size ≤ maxLen) :
    Calls Try.prog 17 #[.string s] w fun e w' => e = .returned (.int .i64 (hopsD s.data.toList : Int)) ∧ ∃ n, w' = w.drewN n := by
  have ha := apartV_eq s.data.toList
  go_enter Try.func17, Try.ntmps17
  go_wp2_with (go_at_call 27; refine (apart_any _ _ hs).mono ?_; rintro e w' ⟨rfl, n, rfl⟩; rw [ha])
  go_ret
  exact ⟨rfl, n, rfl⟩

/-- what Hop hands back -/
def hopL (l : List UInt8) : Option (List UInt8 × List UInt8) := if denomL l = true then splitL l else none
def hopV (l : List UInt8) : Value := match hopL l with
  | some (h, r) => .tuple #[.string ⟨h.toArray⟩, .string ⟨r.toArray⟩, .bool true]
  | none => .tuple #[.string ByteArray.empty, .string ByteArray.empty, .bool false]

set_option maxHeartbeats 1000000 in
theorem hop_any (s : ByteArray) (w : World) (hs : s.size ≤ maxLen) :
    Calls Try.prog 8 #[.string s] w fun e w' => e = .returned (hopV s.data.toList) ∧ ∃ n, w' = w.drewN n := by
  unfold hopV hopL
  cases hd : denomL s.data.toList with
  | true =>
    rw [if_pos rfl]
    cases hsp : splitL s.data.toList with
    | none =>
      have hv := splitV_none hsp
      clear hsp
      go_enter Try.func8, Try.ntmps8
      go_wp2_with (first | (go_at_call 13; refine (denom_any _ _ hs).mono ?_; rintro e w' ⟨rfl, n, rfl⟩; rw [hd]) | (go_at_call 21; refine (split_any _ _ hs).mono ?_; rintro e w' ⟨rfl, m, rfl⟩; rw [hv]))
      go_ret3
      exact ⟨rfl, n + m, rfl⟩
    | some p =>
      obtain ⟨h, r⟩ := p
      have hv := splitV_some hsp
      clear hsp
      go_enter Try.func8, Try.ntmps8
      go_wp2_with (first | (go_at_call 13; refine (denom_any _ _ hs).mono ?_; rintro e w' ⟨rfl, n, rfl⟩; rw [hd]) | (go_at_call 21; refine (split_any _ _ hs).mono ?_; rintro e w' ⟨rfl, m, rfl⟩; rw [hv]))
      go_ret3
      exact ⟨rfl, n + m, rfl⟩
  | false =>
    rw [if_neg (by simp)]
    go_enter Try.func8, Try.ntmps8
    go_wp2_with (go_at_call 13; refine (denom_any _ _ hs).mono ?_; rintro e w' ⟨rfl, n, rfl⟩; rw [hd])
    go_ret3
    exact ⟨rfl, n, rfl⟩

theorem app_mk (a b : ByteArray) : a ++ b = ⟨(a.data.toList ++ b.data.toList).toArray⟩ := by
  apply ByteArray.ext
  rw [ByteArray.data_append]
  apply Array.ext'
  simp
theorem app3 (h s : List UInt8) : (⟨(trL ++ h ++ 47 :: s).toArray⟩ : ByteArray) = ⟨#[116, 114, 97, 110, 115, 102, 101, 114, 47]⟩ ++ ⟨h.toArray⟩ ++ ⟨#[47]⟩ ++ ⟨s.toArray⟩ := by
  rw [app_mk, app_mk, app_mk]
  simp [trL]

set_option maxHeartbeats 1000000 in
theorem over_any (h s : ByteArray) (w : World) (hh : h.size ≤ maxLen) (hs : s.size ≤ maxLen) :
    Calls Try.prog 19 #[.string h, .string s] w fun e w' => e = .returned (.tuple #[.string ⟨(overL h.data.toList s.data.toList).1.toArray⟩, .int .i64 (overL h.data.toList s.data.toList).2]) ∧ ∃ n, w' = w.drewN n := by
  have hhz := Lib.size_eq h
  have hsz := Lib.size_eq s
  unfold overL
  cases hi : identL h.data.toList with
  | false =>
    rw [if_neg (by simp)]
    clear hhz hsz
    go_enter Try.func19, Try.ntmps19
    go_wp2_with (go_at_call 11; refine (ident_any _ _ hh).mono ?_; rintro e w' ⟨rfl, rfl⟩; rw [hi])
    go_ret2
    exact ⟨rfl, 0, rfl⟩
  | true =>
    rw [if_pos rfl]
    have hil := identL_len hi
    cases hd : denomL s.data.toList with
    | false =>
      rw [if_neg (by simp)]
      clear hhz hsz
      go_enter Try.func19, Try.ntmps19
      go_wp2_with (first | (go_at_call 11; refine (ident_any _ _ hh).mono ?_; rintro e w' ⟨rfl, rfl⟩; rw [hi]) | (go_at_call 13; refine (denom_any _ _ hs).mono ?_; rintro e w' ⟨rfl, n, rfl⟩; rw [hd]))
      go_ret2
      exact ⟨rfl, n, rfl⟩
    | true =>
      have hdl := denom_len hd
      have HH := Lib.hid hhz
      have HS := Lib.hid hsz
      have m1 : h.size ≤ 32 := by omega
      have m2 : s.size ≤ 160 := by omega
      by_cases h160 : h.data.toList.length + s.data.toList.length + 10 ≤ 160
      · rw [if_pos ⟨rfl, h160⟩]
        have b1 : 9 + (h.size : Int) + 1 + (s.size : Int) ≤ 160 := by omega
        clear hhz hsz hil hdl h160
        go_enter Try.func19, Try.ntmps19
        go_wp2_with (first | (go_at_call 11; refine (ident_any _ _ hh).mono ?_; rintro e w' ⟨rfl, rfl⟩; rw [hi]) | (go_at_call 13; refine (denom_any _ _ hs).mono ?_; rintro e w' ⟨rfl, n, rfl⟩; rw [hd]))
        go_ret2
        refine ⟨?_, n, rfl⟩
        rw [app3]
        rfl
      · rw [if_neg (fun h => h160 h.2)]
        have b1 : ¬ 9 + (h.size : Int) + 1 + (s.size : Int) ≤ 160 := by omega
        clear hhz hsz hil hdl h160
        go_enter Try.func19, Try.ntmps19
        go_wp2_with (first | (go_at_call 11; refine (ident_any _ _ hh).mono ?_; rintro e w' ⟨rfl, rfl⟩; rw [hi]) | (go_at_call 13; refine (denom_any _ _ hs).mono ?_; rintro e w' ⟨rfl, n, rfl⟩; rw [hd]))
        go_ret2
        exact ⟨rfl, n, rfl⟩
end Go.Proofs.Ytaplncibadggaaa
