/- The walks of package name: Denom, Hop, Over, Base, Hops. -/
import Derived.Test.YtaplncibadggaaaNameC
namespace Go.Proofs.Ytaplncibadggaaa
open Go Go.RowKit

theorem size_mk (l : List UInt8) : (⟨l.toArray⟩ : ByteArray).size = l.length := by rw [Lib.size_eq]
theorem splitV_some {l h r : List UInt8} (e : splitL l = some (h, r)) : splitV l = .tuple #[.string ⟨h.toArray⟩, .string ⟨r.toArray⟩, .bool true] := by unfold splitV; rw [e]
theorem splitV_none {l : List UInt8} (e : splitL l = none) : splitV l = .tuple #[.string ByteArray.empty, .string ByteArray.empty, .bool false] := by unfold splitV; rw [e]
/-- the base is an identifier -/
def endsB (l : List UInt8) : Bool := identL (baseL l)

set_option maxHeartbeats 2000000 in
theorem denom_any (s : ByteArray) (w : World) (hs : s.size ≤ maxLen) :
    Calls Try.prog 13 #[.string s] w fun e w' => e = .returned (.bool (denomL s.data.toList)) ∧ ∃ n, w' = w.drewN n := by
  have hsz := Lib.size_eq s
  by_cases h160 : s.size ≤ 160
  · have hd : denomL s.data.toList = endsB s.data.toList := by unfold denomL endsB; rw [decide_eq_true (by omega)]; rfl
    rw [hd]
    clear hd
    have HZ := Lib.hid hsz
    have HS := Lib.hid hs
    clear hsz hs
    go_enter Try.func13, Try.ntmps13
    go_wp2
    go_loopw [0] (fun v wr => ∃ (x : ByteArray) (n : Nat), v = .string x ∧ x.size ≤ 160 ∧ endsB x.data.toList = endsB s.data.toList ∧ wr = w.drewN n) (fun v _ => match v with | .string x => x.size | _ => 0)
    case atStart => exact ⟨s, 0, rfl, h160, rfl, rfl⟩
    case round =>
      obtain ⟨x, n, rfl, hx, he, rfl⟩ := hrel
      have HE := Lib.hid he
      clear he
      have hxm : x.size ≤ maxLen := by simp only [maxLen]; omega
      have hxz := Lib.size_eq x
      have HX := Lib.hid hxz
      clear hxz
      have HM := Lib.hid hxm
      clear hxm
      cases hsp : splitL x.data.toList with
      | none =>
        have hv := splitV_none hsp
        have HB := Lib.hid (base_none hsp)
        clear hsp
        go_wp2_with (first | (go_at_call 21; refine (split_any _ _ HM.out).mono ?_; rintro e w' ⟨rfl, m, rfl⟩; rw [hv]) | (go_at_call 11; refine (ident_any _ _ HM.out).mono ?_; rintro e w' ⟨rfl, rfl⟩))
        go_ret
        refine ⟨?_, n + m, rfl⟩
        rw [← HE.out]
        unfold endsB
        rw [HB.out.1]
        rfl
      | some p =>
        obtain ⟨h, r⟩ := p
        have hv := splitV_some hsp
        have HB := Lib.hid (base_some hsp)
        have HL := Lib.hid (splitL_len hsp)
        clear hsp
        go_wp2_with (first | (go_at_call 21; refine (split_any _ _ HM.out).mono ?_; rintro e w' ⟨rfl, m, rfl⟩; rw [hv]) | (go_at_call 11; refine (ident_any _ _ HM.out).mono ?_; rintro e w' ⟨rfl, rfl⟩))
        go_roundw
        case rel => exact ⟨⟨r.toArray⟩, n + m, rfl, by rw [size_mk]; have := HL.out; have := HX.out; omega, by rw [← HE.out]; unfold endsB; rw [HB.out.1], rfl⟩
        case measure => have := HL.out; have := HX.out; simp [size_mk]; omega
  · have hd : denomL s.data.toList = false := by unfold denomL; rw [decide_eq_false (by omega)]; rfl
    rw [hd]
    clear hsz hd
    have HS := Lib.hid hs
    clear hs
    go_enter Try.func13, Try.ntmps13
    go_wp2_with fail
    go_ret
    exact ⟨rfl, 0, rfl⟩
end Go.Proofs.Ytaplncibadggaaa
