
/- The law's own words about keys, walked: ends, one. -/
import Derived.Test.YtgiciaeaibonbaaGreatDoorBankT
namespace Go.Proofs.YtgiciaeaibonbaaGreatDoor
set_option maxRecDepth 100000
open Go Go.RowKit
set_option linter.unusedVariables false

theorem ends_cut {s e : ByteArray} (h : e.size < s.size) : endsL s.data.toList e.data.toList = ((s.extract (s.size - e.size) s.size).toList == e.toList) := by
  have h1 := Lib.size_eq s
  have h2 := Lib.size_eq e
  unfold endsL
  rw [Lib.extract_toList, Lib.toList_data]
  rw [h1, h2] at h ⊢
  have h3 : decide (e.data.toList.length < s.data.toList.length) = true := by simp only [h, decide_true]
  have h4 : (s.data.toList.drop (s.data.toList.length - e.data.toList.length)).take (s.data.toList.length - (s.data.toList.length - e.data.toList.length)) = s.data.toList.drop (s.data.toList.length - e.data.toList.length) := List.take_of_length_le (by rw [List.length_drop]; omega)
  rw [h3, Bool.true_and, h4]
  rw [Bool.eq_iff_iff, decide_eq_true_eq, beq_iff_eq]
set_option maxHeartbeats 1000000 in
theorem ends_any (s e : ByteArray) (w : World) (hs : s.size ≤ maxLen) (he : e.size ≤ maxLen) : Calls Tryz.prog 11 #[.string s, .string e] w fun r w' => r = .returned (.bool (endsL s.data.toList e.data.toList)) ∧ w = w' := by
  unfold maxLen at hs he
  by_cases h : e.size < s.size
  · have j1 : (e.size : Int) < (s.size : Int) := by omega
    have j2 : IntKind.i64.wrap ((s.size : Int) - (e.size : Int)) = ((s.size - e.size : Nat) : Int) := by rw [IntKind.wrap_i64]; omega
    have hcut := ends_cut h
    obtain ⟨k, hk⟩ : ∃ k, k = s.size - e.size := ⟨_, rfl⟩
    rw [← hk] at j2 hcut
    have j3 : (0 : Int) ≤ (k : Int) := by omega
    have j4 : (k : Int) ≤ (s.size : Int) := by omega
    have j5 : k ≤ s.size := by omega
    generalize endsL s.data.toList e.data.toList = r at *
    clear hk h
    have hcut' := hcut.symm
    clear hcut
    cases r with
    | true =>
      go_enter Tryz.func11, Tryz.ntmps11
      go_wp2
      go_ret
      exact ⟨rfl, rfl⟩
    | false =>
      go_enter Tryz.func11, Tryz.ntmps11
      go_wp2
      go_ret
      exact ⟨rfl, rfl⟩
  · have j1 : ¬ (e.size : Int) < (s.size : Int) := by omega
    have hf : endsL s.data.toList e.data.toList = false := by
      unfold endsL
      rw [← Lib.size_eq s, ← Lib.size_eq e]
      simp [h]
    rw [hf]
    clear hf
    go_enter Tryz.func11, Tryz.ntmps11
    go_wp2
    go_ret
    exact ⟨rfl, rfl⟩
set_option maxHeartbeats 1000000 in
theorem one_any (s : ByteArray) (w : World) (hs : s.size ≤ maxLen) : Calls Tryz.prog 12 #[.string s] w fun r w' => r = .returned (.bool (decide ((47 : UInt8) ∉ s.data.toList))) ∧ w = w' := by
  unfold maxLen at hs
  have H2 := Lib.hid (Lib.size_eq s)
  obtain ⟨r, hr⟩ : ∃ r : Bool, r = decide ((47 : UInt8) ∉ s.data.toList) := ⟨_, rfl⟩
  have HR := Lib.hid hr
  rw [← hr]
  clear hr
  go_enter Tryz.func12, Tryz.ntmps12
  go_wp2_with fail
  go_loop [3] (fun i => ∃ k : Nat, k ≤ s.size ∧ i = .int .i64 k ∧ (47 : UInt8) ∉ s.data.toList.take k) (fun i => s.size - (intOf i).toNat)
  case atStart => exact ⟨0, Nat.zero_le _, rfl, by simp⟩
  case round =>
    obtain ⟨k, hk, rfl, hall⟩ := hrel
    have HA := Lib.hid hall
    clear hall
    by_cases hlt : k < s.size
    · have hg := data_get s k hlt
      have hkl : k < s.data.toList.length := by have := H2.out; omega
      have hgd : s.data.toList.getD k 0 = s.data.toList[k] := by simp [List.getD_eq_getElem?_getD, List.getElem?_eq_getElem hkl]
      have HM : Hid (s.data.toList.take (k + 1) = s.data.toList.take k ++ [s[k]] ∧ s[k] ∈ s.data.toList) := Lib.hid ⟨by rw [← hg, hgd, List.take_append_getElem], by rw [← hg, hgd]; exact List.getElem_mem _⟩
      clear hg hgd
      by_cases c47 : s[k].toNat = 47
      · have b1 : ((s[k].toNat : Int) == 47) = true := by rw [c47]; rfl
        have HF : Hid (r = false) := Lib.hid (by
          rw [HR.out]
          have h1 : s[k] = 47 := UInt8.toNat_inj.1 c47
          have h2 := HM.out.2
          rw [h1] at h2
          simp [h2])
        clear c47 HM
        go_wp2_with fail
        go_ret
        rw [HF.out]
        exact ⟨rfl, rfl⟩
      · have b1 : ((s[k].toNat : Int) == 47) = false := by simp; omega
        have HN : Hid ((47 : UInt8) ∉ s.data.toList.take (k + 1)) := Lib.hid (by
          rw [HM.out.1]
          intro h
          rcases List.mem_append.1 h with h | h
          · exact HA.out h
          · rw [List.mem_singleton] at h
            exact c47 (by rw [← h]; rfl))
        clear c47 HM
        go_wp2_with fail
        go_round
        case rel => exact ⟨k + 1, by omega, by go_num, HN.out⟩
        case measure => simp [intOf]; omega
    · have HT : Hid (r = true) := Lib.hid (by
        rw [HR.out]
        have h1 := HA.out
        rw [List.take_of_length_le (by have := H2.out; omega)] at h1
        simp [h1])
      go_wp2_with fail
      go_ret
      rw [HT.out]
      exact ⟨rfl, rfl⟩
end Go.Proofs.YtgiciaeaibonbaaGreatDoor
