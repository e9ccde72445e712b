/- The walk of package vals: Third. -/
import Derived.Test.YtapfjkbbgamkoaaDoorValQ
namespace Go.Proofs.YtapfjkbbgamkoaaDoor
open Go Go.RowKit

set_option maxHeartbeats 1000000 in
theorem third_any (v vs : Value) (l : List VD) (ss : List ByteArray) (w : World) (hv : ValsAt w w.heap.size v l) (hs : StrsAt w w.heap.size vs ss) :
    Calls Tryd.prog 19 #[v, vs] w fun e w' => e = .returned (.bool (thirdB l (keysOf ss))) ∧ Below w.heap.size w w' := by
  have HR := Lib.hid (right_any v l w hv)
  obtain ⟨A, c, rfl⟩ := hv.form
  obtain ⟨A', c', rfl⟩ := hs.form
  cases hr : rightB l with
  | false =>
    rw [third_no hr]
    go_enter Tryd.func19, Tryd.ntmps19
    go_wp2_with fail
    refine HR.out.mono ?_
    rintro e w1 ⟨rfl, hb1⟩
    rw [hr]
    go_wp2
    go_ret
    exact ⟨rfl, hb1⟩
  | true =>
    rw [third_is hr]
    have hpl := power_le hr
    have hvl := voted_le (l := l) (keysOf ss)
    obtain ⟨a, ha⟩ : ∃ a, a = votedN l (keysOf ss) := ⟨_, rfl⟩
    obtain ⟨p, hp⟩ : ∃ p, p = powerN l := ⟨_, rfl⟩
    have HV := Lib.hid (fun W h1 h2 => voted_any (.slice A l.length c) (.slice A' ss.length c') l ss W h1 h2)
    have HW := Lib.hid (fun W h1 => power_any (.slice A l.length c) l W h1)
    rw [← ha, Nat.mod_eq_of_lt (by omega)] at HV
    rw [← hp, Nat.mod_eq_of_lt (by omega)] at HW
    rw [← ha, ← hp] at hvl ⊢
    rw [← hp] at hpl
    clear ha hp
    have w1 : IntKind.u64.wrap (3 * (a : Int)) = 3 * (a : Int) := by rw [IntKind.wrap_u64]; omega
    by_cases hd : p < 3 * a
    · rw [decide_eq_true hd]
      have d1 : (p : Int) < 3 * (a : Int) := by omega
      have d2 : decide ((p : Int) < 3 * (a : Int)) = true := decide_eq_true d1
      clear hd
      go_enter Tryd.func19, Tryd.ntmps19
      go_wp2_with fail
      refine HR.out.mono ?_
      rintro e w1 ⟨rfl, hb1⟩
      rw [hr]
      go_wp2_with fail
      refine (HV.out _ (hv.up (Nat.le_refl _) hb1) (hs.up (Nat.le_refl _) hb1)).mono ?_
      rintro e w2 ⟨rfl, hb2⟩
      have hb3 := below_chain hb1 hb1.size hb2
      go_wp2_with fail
      refine (HW.out _ (hv.up (Nat.le_refl _) hb3)).mono ?_
      rintro e w3 ⟨rfl, hb4⟩
      have hb5 := below_chain hb3 hb3.size hb4
      go_wp2
      go_ret
      exact ⟨rfl, hb5⟩
    · rw [decide_eq_false hd]
      have d1 : ¬ (p : Int) < 3 * (a : Int) := by omega
      have d2 : decide ((p : Int) < 3 * (a : Int)) = false := decide_eq_false d1
      clear hd
      go_enter Tryd.func19, Tryd.ntmps19
      go_wp2_with fail
      refine HR.out.mono ?_
      rintro e w1 ⟨rfl, hb1⟩
      rw [hr]
      go_wp2_with fail
      refine (HV.out _ (hv.up (Nat.le_refl _) hb1) (hs.up (Nat.le_refl _) hb1)).mono ?_
      rintro e w2 ⟨rfl, hb2⟩
      have hb3 := below_chain hb1 hb1.size hb2
      go_wp2_with fail
      refine (HW.out _ (hv.up (Nat.le_refl _) hb3)).mono ?_
      rintro e w3 ⟨rfl, hb4⟩
      have hb5 := below_chain hb3 hb3.size hb4
      go_wp2
      go_ret
      exact ⟨rfl, hb5⟩
end Go.Proofs.YtapfjkbbgamkoaaDoor
