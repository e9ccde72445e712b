/- The walk of package vals: Power. -/
import Derived.Test.YtapfjkbbgamkoaaDoorValA
import Derived.LoopTactic
namespace Go.Proofs.YtapfjkbbgamkoaaDoor
open Go Go.RowKit

set_option maxHeartbeats 1000000 in
theorem power_any (v : Value) (l : List VD) (w : World) (hv : ValsAt w w.heap.size v l) :
    Calls Tryd.prog 13 #[v] w fun e w' => e = .returned (.int .u64 ((powerN l % 18446744073709551616 : Nat) : Int)) ∧ Below w.heap.size w w' := by
  obtain ⟨A, c, rfl, hc, hcm, hf, hp⟩ := hv
  unfold maxLen at hcm
  have HP := Lib.hid hp
  have HF := Lib.hid hf
  clear hp hf
  obtain ⟨n, hn⟩ : ∃ n, n = l.length := ⟨_, rfl⟩
  have HN := Lib.hid hn
  rw [← hn] at hc ⊢
  clear hn
  go_enter Tryd.func13, Tryd.ntmps13
  go_wp2
  go_loopw [3, 8] (fun s i wr => ∃ k : Nat, k ≤ n ∧ i = .int .i64 (k : Int) ∧ s = .int .u64 ((powerN (l.take k) % 18446744073709551616 : Nat) : Int) ∧ Below w.heap.size w wr)
    (fun _ i _ => n - (intOf i).toNat)
  case atStart => exact ⟨0, Nat.zero_le _, rfl, rfl, Below.refl _ _⟩
  case round =>
    obtain ⟨k, hk, rfl, rfl, hb⟩ := hrel
    by_cases hlt : k < n
    · obtain ⟨b, o, rfl, hbl, hcell⟩ := HP.out (by have := HN.out; omega)
      have hkl : k < l.length := by have := HN.out; omega
      have hat := hcell k (by have := HN.out; omega)
      have HV := Lib.hid (show powerN (l.take (k + 1)) = powerN (l.take k) + l[k].power from by unfold powerN; rw [vsum_take _ _ _ hkl, if_pos rfl])
      have c0 := (hb.cell (p := ⟨b, o + k * 2, none⟩) hbl).trans hat.1
      have c1 := (hb.cell (p := ⟨b, o + k * 2 + 1, none⟩) hbl).trans hat.2
      have hpw : l[k].power < 18446744073709551616 := (HF.out _ (List.getElem_mem hkl)).2
      have hbx := val_box hb l[k]
      clear hcell hat HP
      generalize l[k] = x at *
      generalize powerN (l.take k) = s at *
      have i1 : (0 : Int) ≤ (k : Int) := by omega
      have i2 : (k : Int) < (n : Int) := by omega
      go_wp2
      go_roundw
      case rel => exact ⟨k + 1, by omega, by go_num, by rw [HV.out]; exact congrArg (Value.int .u64) (u64_add' s x.power), hbx⟩
      case measure => simp [intOf]; omega
    · have i2 : ¬ (k : Int) < (n : Int) := by omega
      have he : l.take k = l := List.take_of_length_le (by have := HN.out; omega)
      rw [he]
      clear he
      go_wp2
      go_ret
      exact ⟨rfl, hb⟩
end Go.Proofs.YtapfjkbbgamkoaaDoor
