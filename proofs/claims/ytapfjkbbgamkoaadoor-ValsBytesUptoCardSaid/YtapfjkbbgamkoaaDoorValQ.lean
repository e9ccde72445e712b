/- The walks of package vals: Quorum, Third. -/
import Derived.Test.YtapfjkbbgamkoaaDoorValR
import Derived.Test.YtapfjkbbgamkoaaDoorValV
import Derived.Test.YtapfjkbbgamkoaaDoorValP
namespace Go.Proofs.YtapfjkbbgamkoaaDoor
open Go Go.RowKit

theorem third_no {l : List VD} {vs : List (List UInt8)} (h : rightB l = false) : thirdB l vs = false := by simp [thirdB, h]
theorem quorum_no {l : List VD} {vs : List (List UInt8)} (h : rightB l = false) : quorumB l vs = false := by simp [quorumB, h]
theorem third_is {l : List VD} {vs : List (List UInt8)} (h : rightB l = true) : thirdB l vs = decide (powerN l < 3 * votedN l vs) := by simp [thirdB, h]
theorem quorum_is {l : List VD} {vs : List (List UInt8)} (h : rightB l = true) : quorumB l vs = decide (2 * powerN l < 3 * votedN l vs) := by simp [quorumB, h]

set_option maxHeartbeats 1000000 in
theorem quorum_any (v vs : Value) (l : List VD) (ss : List ByteArray) (w : World) (hv : ValsAt w w.heap.size v l) (hs : StrsAt w w.heap.size vs ss) :
    Calls Tryd.prog 17 #[v, vs] w fun e w' => e = .returned (.bool (quorumB l (keysOf ss))) ∧ Below w.heap.size w w' := by
  have HR := Lib.hid (right_any v l w hv)
  obtain ⟨A, c, rfl⟩ := hv.form
  obtain ⟨A', c', rfl⟩ := hs.form
  cases hr : rightB l with
  | false =>
    rw [quorum_no hr]
    go_enter Tryd.func17, Tryd.ntmps17
    go_wp2_with fail
    refine HR.out.mono ?_
    rintro e w1 ⟨rfl, hb1⟩
    rw [hr]
    go_wp2
    go_ret
    exact ⟨rfl, hb1⟩
  | true =>
    rw [quorum_is hr]
    have hpl := power_le hr
    have hvl := voted_le (l := l) (keysOf ss)
    obtain ⟨a, ha⟩ : ∃ a, a = votedN l (keysOf ss) := ⟨_, rfl⟩
    obtain ⟨p, hp⟩ : ∃ p, p = powerN l := ⟨_, rfl⟩
    have HV := Lib.hid (fun W h1 h2 => voted_any (.slice A l.length c) (.slice A' ss.length c') l ss W h1 h2)
    have HW := Lib.hid (fun W h1 => power_any (.slice A l.length c) l W h1)
    rw [← ha, Nat.mod_eq_of_lt (by omega)] at HV
    rw [← hp, Nat.mod_eq_of_lt (by omega)] at HW
    rw [← ha, ← hp] at hvl ⊢
    rw [← hp] at hpl
    clear ha hp
    have w1 : IntKind.u64.wrap (3 * (a : Int)) = 3 * (a : Int) := by rw [IntKind.wrap_u64]; omega
    have w2 : IntKind.u64.wrap (2 * (p : Int)) = 2 * (p : Int) := by rw [IntKind.wrap_u64]; omega
    by_cases hd : 2 * p < 3 * a
    · rw [decide_eq_true hd]
      have d1 : (2 : Int) * (p : Int) < 3 * (a : Int) := by omega
      have d2 : decide ((2 : Int) * (p : Int) < 3 * (a : Int)) = true := decide_eq_true d1
      clear hd
      go_enter Tryd.func17, Tryd.ntmps17
      go_wp2_with fail
      refine HR.out.mono ?_
      rintro e w1 ⟨rfl, hb1⟩
      rw [hr]
      go_wp2_with fail
      refine (HV.out _ (hv.up (Nat.le_refl _) hb1) (hs.up (Nat.le_refl _) hb1)).mono ?_
      rintro e w2 ⟨rfl, hb2⟩
      have hb3 := below_chain hb1 hb1.size hb2
      go_wp2_with fail
      refine (HW.out _ (hv.up (Nat.le_refl _) hb3)).mono ?_
      rintro e w3 ⟨rfl, hb4⟩
      have hb5 := below_chain hb3 hb3.size hb4
      go_wp2
      go_ret
      exact ⟨rfl, hb5⟩
    · rw [decide_eq_false hd]
      have d1 : ¬ (2 : Int) * (p : Int) < 3 * (a : Int) := by omega
      have d2 : decide ((2 : Int) * (p : Int) < 3 * (a : Int)) = false := decide_eq_false d1
      clear hd
      go_enter Tryd.func17, Tryd.ntmps17
      go_wp2_with fail
      refine HR.out.mono ?_
      rintro e w1 ⟨rfl, hb1⟩
      rw [hr]
      go_wp2_with fail
      refine (HV.out _ (hv.up (Nat.le_refl _) hb1) (hs.up (Nat.le_refl _) hb1)).mono ?_
      rintro e w2 ⟨rfl, hb2⟩
      have hb3 := below_chain hb1 hb1.size hb2
      go_wp2_with fail
      refine (HW.out _ (hv.up (Nat.le_refl _) hb3)).mono ?_
      rintro e w3 ⟨rfl, hb4⟩
      have hb5 := below_chain hb3 hb3.size hb4
      go_wp2
      go_ret
      exact ⟨rfl, hb5⟩
end Go.Proofs.YtapfjkbbgamkoaaDoor
