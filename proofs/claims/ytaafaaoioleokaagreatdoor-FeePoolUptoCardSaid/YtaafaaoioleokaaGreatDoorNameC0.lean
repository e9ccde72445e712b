
/- The walks of the library's CutPrefix and Cut, as package name calls them. The walks of package name: Denom, Hop, Over, Base, Hops. -/
import Derived.Test.YtaafaaoioleokaaGreatDoorNameI0
import Derived.Laws.Externs
import Derived.Lib.CutLaws
import Derived.Lib.Walk
import Derived.Laws.Strings3
namespace Go.Proofs.YtaafaaoioleokaaGreatDoor
set_option maxRecDepth 100000
open Go Go.RowKit

set_option maxHeartbeats 1000000 in
theorem hasPrefix_any (s p : ByteArray) (w : World) :
    Calls Tryz.prog 164 #[.string s, .string p] w fun e w' => e = .returned (.bool (Lib.hasPrefix s.data.toList p.data.toList)) ∧ w = w' := by
  rw [← Lib.hasPrefix_of_take, ← Lib.size_eq, ← Lib.size_eq]
  go_enter Tryz.func164, Tryz.ntmps164
  go_wp2
  · rename_i h
    go_ret
    refine ⟨?_, rfl⟩
    show Ending.returned (Value.bool ((s.extract 0 p.size).toList == p.toList)) = _
    rw [Lib.extract_toList, Lib.toList_data]
    simp [h]
  · rename_i h
    go_ret
    refine ⟨?_, rfl⟩
    show Ending.returned (Value.bool false) = _
    simp [h]

set_option maxHeartbeats 1000000 in
theorem litecut_any (s p : ByteArray) (w : World) :
    Calls Tryz.prog 222 #[.string s, .string p] w fun e w' => e = .returned (.tuple #[.string ⟨(Lib.trimPrefix s.data.toList p.data.toList).toArray⟩, .bool (Lib.hasPrefix s.data.toList p.data.toList)]) ∧ w = w' := by
  by_cases h1 : p.size ≤ s.size
  · cases h2 : ((s.extract 0 p.size).toList == p.toList)
    · have hh : Lib.hasPrefix s.data.toList p.data.toList = false := by rw [← Lib.hasPrefix_raw, h2]; simp
      go_enter Tryz.func222, Tryz.ntmps222
      go_wp2_with (go_at_call 164; refine (hasPrefix_any _ _ _).mono ?_; rintro e w' ⟨rfl, rfl⟩; rw [hh])
      go_ret2
      refine ⟨?_, rfl⟩
      rw [Lib.trimPrefix_miss s p (by rw [h2]; simp), hh]
      rfl
    · have hh : Lib.hasPrefix s.data.toList p.data.toList = true := by rw [← Lib.hasPrefix_raw, h2]; simp [h1]
      go_enter Tryz.func222, Tryz.ntmps222
      go_wp2_with (go_at_call 164; refine (hasPrefix_any _ _ _).mono ?_; rintro e w' ⟨rfl, rfl⟩; rw [hh])
      go_ret2
      refine ⟨?_, rfl⟩
      rw [Lib.trimPrefix_hit s p h1 h2, hh]
      rfl
  · have hh : Lib.hasPrefix s.data.toList p.data.toList = false := by rw [← Lib.hasPrefix_raw]; simp [h1]
    go_enter Tryz.func222, Tryz.ntmps222
    go_wp2_with (go_at_call 164; refine (hasPrefix_any _ _ _).mono ?_; rintro e w' ⟨rfl, rfl⟩; rw [hh])
    go_ret2
    refine ⟨?_, rfl⟩
    rw [Lib.trimPrefix_miss s p (by simp [h1]), hh]
    rfl

set_option maxHeartbeats 1000000 in
theorem cutPrefix_any (s p : ByteArray) (w : World) :
    Calls Tryz.prog 193 #[.string s, .string p] w fun e w' => e = .returned (.tuple #[.string ⟨(Lib.trimPrefix s.data.toList p.data.toList).toArray⟩, .bool (Lib.hasPrefix s.data.toList p.data.toList)]) ∧ w = w' := by
  go_enter Tryz.func193, Tryz.ntmps193
  go_wp2_with (go_at_call 222; refine (litecut_any _ _ _).mono ?_; rintro e w' ⟨rfl, rfl⟩)
  go_ret2
  exact ⟨rfl, rfl⟩

set_option maxHeartbeats 1000000 in
theorem indexByte_any (s : ByteArray) (c : Int) (w : World) :
    Calls Tryz.prog 246 #[.string s, .int .u8 c] w fun e w' => e = .returned (.int .i64 (Lib.indexByte s.data.toList c.toNat.toUInt8)) ∧ w = w' := by
  go_enter Tryz.func246, Tryz.ntmps246
  go_wp2
  rw [run_callFunc_extern Tryz.func252 (by kernel_rfl) (by kernel_rfl) (by kernel_rfl) (e := Extern.BytealgIndexByte.indexByte) (by kernel_rfl), Lib.run_indexByteString]
  simp only [Result.andThen]
  rw [Oper.upon_value]
  go_wp2
  go_ret
  exact ⟨rfl, rfl⟩

set_option maxHeartbeats 1000000 in
theorem index_one_any (s : ByteArray) (w : World) :
    Calls Tryz.prog 240 #[.string s, .string ⟨#[47]⟩] w fun e w' => e = .returned (.int .i64 (Lib.indexByte s.data.toList 47)) ∧ w = w' := by
  go_enter Tryz.func240, Tryz.ntmps240
  go_wp2_with (go_at_call 246; refine (indexByte_any _ _ _).mono ?_; rintro e w' ⟨rfl, rfl⟩)
  · have h : ([47] == s.toList) = true := by assumption
    go_ret
    refine ⟨?_, rfl⟩
    have e : s.data.toList = [47] := by rw [← Lib.toList_data]; exact (beq_iff_eq.1 h).symm
    rw [e]
    rfl
  · go_ret
    exact ⟨rfl, rfl⟩

/-- what Cut hands back at a slash -/
def cutL (l : List UInt8) : List UInt8 × List UInt8 × Bool :=
  if Lib.indexByte l 47 = -1 then (l, [], false) else (l.take (Lib.indexByte l 47).toNat, l.drop ((Lib.indexByte l 47).toNat + 1), true)

set_option maxHeartbeats 2000000 in
theorem lcut_any (s : ByteArray) (w : World) (hs : s.size ≤ maxLen) :
    Calls Tryz.prog 223 #[.string s, .string ⟨#[47]⟩] w fun e w' => e = .returned (.tuple #[.string ⟨(cutL s.data.toList).1.toArray⟩, .string ⟨(cutL s.data.toList).2.1.toArray⟩, .bool (cutL s.data.toList).2.2]) ∧ ∃ n, w' = w.drewN n := by
  unfold maxLen at hs
  have hsz := Lib.size_eq s
  by_cases hm : Lib.indexByte s.data.toList 47 = -1
  · have e : cutL s.data.toList = (s.data.toList, [], false) := by unfold cutL; rw [if_pos hm]
    have HE := Lib.hid e
    have HZ := Lib.hid hsz
    clear e hsz
    go_enter Tryz.func223, Tryz.ntmps223
    go_wp2_with (go_at_call 240; refine (index_one_any _ _).mono ?_; rintro e w' ⟨rfl, rfl⟩; rw [hm])
    go_ret3
    refine ⟨?_, 0, rfl⟩
    rw [HE.out, Lib.mk_data]
    rfl
  · obtain ⟨_, _, h3⟩ := indexByte_hit hm
    have hg := Lib.indexByte_ge s.data.toList 47
    obtain ⟨i, hi⟩ : ∃ i : Nat, Lib.indexByte s.data.toList 47 = (i : Int) := ⟨(Lib.indexByte s.data.toList 47).toNat, by omega⟩
    have e : cutL s.data.toList = (s.data.toList.take i, s.data.toList.drop (i + 1), true) := by
      unfold cutL; rw [if_neg hm, hi]; rfl
    rw [hi] at h3
    have hlt : i < s.size := by omega
    have HE := Lib.hid e
    have HZ := Lib.hid hsz
    clear e hsz h3 hg hm
    have c1 : (0 : Int) ≤ (i : Int) := by omega
    have c2 : (i : Int) ≤ (s.size : Int) := by omega
    have c3 : (0 : Int) ≤ (i : Int) + 1 := by omega
    have c4 : ((i : Int) + 1) ≤ (s.size : Int) := by omega
    go_enter Tryz.func223, Tryz.ntmps223
    go_wp2_with (go_at_call 240; refine (index_one_any _ _).mono ?_; rintro e w' ⟨rfl, rfl⟩; rw [hi])
    go_quiet (fail)
    go_wp2
    go_ret3
    refine ⟨?_, _, rfl⟩
    have hz : s.data.toList.length - (i + 1) = (s.data.toList.drop (i + 1)).length := by rw [List.length_drop]
    rw [HE.out, Lib.extract_eq, Lib.extract_eq, HZ.out, hz, List.take_of_length_le (Nat.le_refl _), Nat.sub_zero, List.drop_zero]
    rfl

set_option maxHeartbeats 1000000 in
theorem cut_any (s : ByteArray) (w : World) (hs : s.size ≤ maxLen) :
    Calls Tryz.prog 194 #[.string s, .string ⟨#[47]⟩] w fun e w' => e = .returned (.tuple #[.string ⟨(cutL s.data.toList).1.toArray⟩, .string ⟨(cutL s.data.toList).2.1.toArray⟩, .bool (cutL s.data.toList).2.2]) ∧ ∃ n, w' = w.drewN n := by
  go_enter Tryz.func194, Tryz.ntmps194
  go_wp2_with (go_at_call 223; refine (lcut_any _ _ hs).mono ?_; rintro e w' ⟨rfl, n, rfl⟩)
  go_ret3
  exact ⟨rfl, n, rfl⟩

/-- what split hands back -/
def splitV (l : List UInt8) : Value := match splitL l with
  | some (h, r) => .tuple #[.string ⟨h.toArray⟩, .string ⟨r.toArray⟩, .bool true]
  | none => .tuple #[.string ByteArray.empty, .string ByteArray.empty, .bool false]
theorem splitV_miss {l : List UInt8} (h : Lib.hasPrefix l trL = false) : splitV l = .tuple #[.string ByteArray.empty, .string ByteArray.empty, .bool false] := by
  unfold splitV splitL; rw [if_neg (by rw [h]; simp)]

set_option maxHeartbeats 2000000 in
theorem split_any (s : ByteArray) (w : World) (hs : s.size ≤ maxLen) :
    Calls Tryz.prog 163 #[.string s] w fun e w' => e = .returned (splitV s.data.toList) ∧ ∃ n, w' = w.drewN n := by
  cases hp : Lib.hasPrefix s.data.toList trL with
  | false =>
    rw [splitV_miss hp]
    have hp2 : Lib.hasPrefix s.data.toList (⟨#[116, 114, 97, 110, 115, 102, 101, 114, 47]⟩ : ByteArray).data.toList = false := hp
    go_enter Tryz.func163, Tryz.ntmps163
    go_wp2_with (go_at_call 193; refine (cutPrefix_any _ _ _).mono ?_; rintro e w' ⟨rfl, rfl⟩; rw [hp2])
    go_ret3
    exact ⟨rfl, 0, rfl⟩
  | true =>
    have hp2 : Lib.hasPrefix s.data.toList (⟨#[116, 114, 97, 110, 115, 102, 101, 114, 47]⟩ : ByteArray).data.toList = true := hp
    obtain ⟨t, ht⟩ : ∃ t : ByteArray, t = (⟨(s.data.toList.drop 9).toArray⟩ : ByteArray) := ⟨_, rfl⟩
    have htl : t.data.toList = s.data.toList.drop 9 := by rw [ht]
    have hts : t.size ≤ maxLen := by rw [Lib.size_eq, htl, List.length_drop, ← Lib.size_eq]; omega
    have htr : (⟨(Lib.trimPrefix s.data.toList (⟨#[116, 114, 97, 110, 115, 102, 101, 114, 47]⟩ : ByteArray).data.toList).toArray⟩ : ByteArray) = t := by
      rw [ht]; unfold Lib.trimPrefix; rw [if_pos hp2]; rfl
    have hV : splitV s.data.toList = if (cutL t.data.toList).2.2 = true ∧ identL (cutL t.data.toList).1 = true then .tuple #[.string ⟨(cutL t.data.toList).1.toArray⟩, .string ⟨(cutL t.data.toList).2.1.toArray⟩, .bool true] else .tuple #[.string ByteArray.empty, .string ByteArray.empty, .bool false] := by
      rw [htl]
      unfold splitV splitL cutL
      rw [if_pos hp]
      by_cases h1 : Lib.indexByte (s.data.toList.drop 9) 47 = -1
      · rw [if_pos h1, if_pos h1, if_neg (by simp)]
      · rw [if_neg h1, if_neg h1]
        by_cases h2 : identL ((s.data.toList.drop 9).take (Lib.indexByte (s.data.toList.drop 9) 47).toNat) = true
        · rw [if_pos h2, if_pos ⟨rfl, h2⟩]
        · rw [if_neg h2, if_neg (fun h => h2 h.2)]
    rw [hV]
    obtain ⟨c, hc⟩ : ∃ c, c = cutL t.data.toList := ⟨_, rfl⟩
    have hcl : c.1.length ≤ maxLen := by
      rw [hc]; unfold cutL
      rw [Lib.size_eq] at hts
      split
      · exact hts
      · simp only [List.length_take]; omega
    rw [← hc]
    obtain ⟨c1, c2, c3⟩ := c
    have HT := Lib.hid htr
    have HC := Lib.hid hc
    clear htl htr hV ht hc hp
    have hid := ident_any ⟨c1.toArray⟩
    cases c3 with
    | false =>
      rw [if_neg (by simp)]
      go_enter Tryz.func163, Tryz.ntmps163
      go_wp2_with (first | (go_at_call 193; refine (cutPrefix_any _ _ _).mono ?_; rintro e w' ⟨rfl, rfl⟩; rw [hp2, HT.out]) | (go_at_call 194; refine (cut_any _ _ hts).mono ?_; rintro e w' ⟨rfl, n, rfl⟩; rw [← HC.out]))
      go_ret3
      exact ⟨rfl, n, rfl⟩
    | true =>
      cases hi : identL c1 with
      | false =>
        rw [if_neg (by simp)]
        go_enter Tryz.func163, Tryz.ntmps163
        go_wp2_with (first | (go_at_call 193; refine (cutPrefix_any _ _ _).mono ?_; rintro e w' ⟨rfl, rfl⟩; rw [hp2, HT.out]) | (go_at_call 194; refine (cut_any _ _ hts).mono ?_; rintro e w' ⟨rfl, n, rfl⟩; rw [← HC.out]) | (go_at_call 50; refine (ident_any ⟨c1.toArray⟩ _ hcl).mono ?_; rintro e w' ⟨rfl, rfl⟩; rw [hi]))
        go_ret3
        exact ⟨rfl, n, rfl⟩
      | true =>
        rw [if_pos ⟨rfl, rfl⟩]
        go_enter Tryz.func163, Tryz.ntmps163
        go_wp2_with (first | (go_at_call 193; refine (cutPrefix_any _ _ _).mono ?_; rintro e w' ⟨rfl, rfl⟩; rw [hp2, HT.out]) | (go_at_call 194; refine (cut_any _ _ hts).mono ?_; rintro e w' ⟨rfl, n, rfl⟩; rw [← HC.out]) | (go_at_call 50; refine (ident_any ⟨c1.toArray⟩ _ hcl).mono ?_; rintro e w' ⟨rfl, rfl⟩; rw [hi]))
        go_ret3
        exact ⟨rfl, n, rfl⟩
end Go.Proofs.YtaafaaoioleokaaGreatDoor
namespace Go.Proofs.YtaafaaoioleokaaGreatDoor
set_option maxRecDepth 100000
open Go Go.RowKit

theorem size_mk (l : List UInt8) : (⟨l.toArray⟩ : ByteArray).size = l.length := by rw [Lib.size_eq]
theorem splitV_some {l h r : List UInt8} (e : splitL l = some (h, r)) : splitV l = .tuple #[.string ⟨h.toArray⟩, .string ⟨r.toArray⟩, .bool true] := by unfold splitV; rw [e]
theorem splitV_none {l : List UInt8} (e : splitL l = none) : splitV l = .tuple #[.string ByteArray.empty, .string ByteArray.empty, .bool false] := by unfold splitV; rw [e]
/-- the base is an identifier -/
def endsB (l : List UInt8) : Bool := identL (baseL l)

set_option maxHeartbeats 2000000 in
theorem denom_any (s : ByteArray) (w : World) (hs : s.size ≤ maxLen) :
    Calls Tryz.prog 109 #[.string s] w fun e w' => e = .returned (.bool (denomL s.data.toList)) ∧ ∃ n, w' = w.drewN n := by
  have hsz := Lib.size_eq s
  by_cases h160 : s.size ≤ 160
  · have hd : denomL s.data.toList = endsB s.data.toList := by unfold denomL endsB; rw [decide_eq_true (by omega)]; rfl
    rw [hd]
    clear hd
    have HZ := Lib.hid hsz
    have HS := Lib.hid hs
    clear hsz hs
    go_enter Tryz.func109, Tryz.ntmps109
    go_wp2
    go_loopw [0] (fun v wr => ∃ (x : ByteArray) (n : Nat), v = .string x ∧ x.size ≤ 160 ∧ endsB x.data.toList = endsB s.data.toList ∧ wr = w.drewN n) (fun v _ => match v with | .string x => x.size | _ => 0)
    case atStart => exact ⟨s, 0, rfl, h160, rfl, rfl⟩
    case round =>
      obtain ⟨x, n, rfl, hx, he, rfl⟩ := hrel
      have HE := Lib.hid he
      clear he
      have hxm : x.size ≤ maxLen := by simp only [maxLen]; omega
      have hxz := Lib.size_eq x
      have HX := Lib.hid hxz
      clear hxz
      have HM := Lib.hid hxm
      clear hxm
      cases hsp : splitL x.data.toList with
      | none =>
        have hv := splitV_none hsp
        have HB := Lib.hid (base_none hsp)
        clear hsp
        go_wp2_with (first | (go_at_call 163; refine (split_any _ _ HM.out).mono ?_; rintro e w' ⟨rfl, m, rfl⟩; rw [hv]) | (go_at_call 50; refine (ident_any _ _ HM.out).mono ?_; rintro e w' ⟨rfl, rfl⟩))
        go_ret
        refine ⟨?_, n + m, rfl⟩
        rw [← HE.out]
        unfold endsB
        rw [HB.out.1]
        rfl
      | some p =>
        obtain ⟨h, r⟩ := p
        have hv := splitV_some hsp
        have HB := Lib.hid (base_some hsp)
        have HL := Lib.hid (splitL_len hsp)
        clear hsp
        go_wp2_with (first | (go_at_call 163; refine (split_any _ _ HM.out).mono ?_; rintro e w' ⟨rfl, m, rfl⟩; rw [hv]) | (go_at_call 50; refine (ident_any _ _ HM.out).mono ?_; rintro e w' ⟨rfl, rfl⟩))
        go_roundw
        case rel => exact ⟨⟨r.toArray⟩, n + m, rfl, by rw [size_mk]; have := HL.out; have := HX.out; omega, by rw [← HE.out]; unfold endsB; rw [HB.out.1], rfl⟩
        case measure => have := HL.out; have := HX.out; simp [size_mk]; omega
  · have hd : denomL s.data.toList = false := by unfold denomL; rw [decide_eq_false (by omega)]; rfl
    rw [hd]
    clear hsz hd
    have HS := Lib.hid hs
    clear hs
    go_enter Tryz.func109, Tryz.ntmps109
    go_wp2_with fail
    go_ret
    exact ⟨rfl, 0, rfl⟩
end Go.Proofs.YtaafaaoioleokaaGreatDoor
