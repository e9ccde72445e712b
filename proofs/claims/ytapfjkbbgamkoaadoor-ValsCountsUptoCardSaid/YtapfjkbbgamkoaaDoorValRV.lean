/- The walks of the document's Voted, and of what it asks. -/
import Derived.Test.YtapfjkbbgamkoaaDoorValK
import Derived.LoopTactic
namespace Go.Proofs.YtapfjkbbgamkoaaDoor
open Go Go.RowKit

set_option maxHeartbeats 1000000 in
theorem in_any (s : ByteArray) (vs : Value) (ss : List ByteArray) (w : World) (hs : StrsAt w w.heap.size vs ss) :
    Calls Tryd.prog 32 #[.string s, vs] w fun e w' => e = .returned (.bool ((keysOf ss).contains s.data.toList)) ∧ w = w' := by
  obtain ⟨A', c', rfl, hc', hcm', hf', hp'⟩ := hs
  unfold maxLen at hcm'
  have HP' := Lib.hid hp'
  clear hp' hf'
  have HE := Lib.hid (show (keysOf ss).contains s.data.toList = badB ss s ss.length from by unfold badB; rw [List.take_length])
  rw [HE.out]
  obtain ⟨m, hm⟩ : ∃ m, m = ss.length := ⟨_, rfl⟩
  have HM := Lib.hid hm
  rw [← hm] at hc' ⊢
  clear hm
  go_enter Tryd.func32, Tryd.ntmps32
  go_wp2
  go_loop [9] (fun i => ∃ k : Nat, k ≤ m ∧ i = .int .i64 (k : Int) ∧ badB ss s k = false) (fun i => m - (intOf i).toNat)
  case atStart => exact ⟨0, Nat.zero_le _, rfl, badB_zero ss s⟩
  case round =>
    obtain ⟨k, hk, rfl, hbad⟩ := hrel
    have HB := Lib.hid hbad
    clear hbad
    by_cases hlt : k < m
    · obtain ⟨b, o, rfl, hbl, hcell⟩ := HP'.out (by have := HM.out; omega)
      have hkl : k < ss.length := by have := HM.out; omega
      have c0 := hcell k hkl
      have HY2 := Lib.hid (badB_hit (f := ss) (s := s) hkl)
      have HY3 := Lib.hid (badB_miss (f := ss) (s := s) hkl)
      have HY1 := Lib.hid (fun i (h1 : k + 1 ≤ i) (h2 : i ≤ ss.length) h => badB_upto (f := ss) (s := s) (i := k + 1) h1 h2 h)
      clear hcell HP'
      generalize ss[k] = u at *
      have i1 : (0 : Int) ≤ (k : Int) := by omega
      have i2 : (k : Int) < (m : Int) := by omega
      by_cases heq : s.data.toList = u.data.toList
      · have e1 := str_eq heq.symm
        have e2 : u.toList = s.toList := by simpa using e1
        have HQ := Lib.hid (HY1.out m (by omega) (by have := HM.out; omega) (HY2.out heq))
        clear heq
        go_wp2
        go_ret
        exact ⟨by rw [HQ.out]; rfl, rfl⟩
      · have e1 := str_ne (Ne.symm heq)
        have e2 : ¬ u.toList = s.toList := by simpa using e1
        have HQ := Lib.hid heq
        clear heq
        go_wp2
        go_round
        case rel => exact ⟨k + 1, by omega, by go_num, HY3.out HB.out HQ.out⟩
        case measure => simp [intOf]; omega
    · have i2 : ¬ (k : Int) < (m : Int) := by omega
      have hkm : k = m := by omega
      have HQ := Lib.hid (show badB ss s m = false from hkm ▸ HB.out)
      clear hkm
      go_wp2
      go_ret
      exact ⟨by rw [HQ.out]; rfl, rfl⟩

set_option maxHeartbeats 1000000 in
theorem rvoted_any (v vs : Value) (l : List VD) (ss : List ByteArray) (w : World) (hv : ValsAt w w.heap.size v l) (hs : StrsAt w w.heap.size vs ss) :
    Calls Tryd.prog 16 #[v, vs] w fun e w' => e = .returned (.int .u64 ((votedN l (keysOf ss) % 18446744073709551616 : Nat) : Int)) ∧ Below w.heap.size w w' := by
  obtain ⟨A, c, rfl, hc, hcm, hf, hp⟩ := hv
  unfold maxLen at hcm
  have HP := Lib.hid hp
  have HF := Lib.hid hf
  clear hp hf
  obtain ⟨n, hn⟩ : ∃ n, n = l.length := ⟨_, rfl⟩
  have HN := Lib.hid hn
  rw [← hn] at hc ⊢
  clear hn
  obtain ⟨A', c', rfl⟩ := hs.form
  go_enter Tryd.func16, Tryd.ntmps16
  go_wp2
  go_loopw [5, 10] (fun s i wr => ∃ k : Nat, k ≤ n ∧ i = .int .i64 (k : Int) ∧ s = .int .u64 ((votedN (l.take k) (keysOf ss) % 18446744073709551616 : Nat) : Int) ∧ Below w.heap.size w wr)
    (fun _ i _ => n - (intOf i).toNat)
  case atStart => exact ⟨0, Nat.zero_le _, rfl, rfl, Below.refl _ _⟩
  case round =>
    obtain ⟨j, hj, rfl, rfl, hb⟩ := hrel
    by_cases hlj : j < n
    · obtain ⟨b, o, rfl, hbl, hcell⟩ := HP.out (by have := HN.out; omega)
      have hjl : j < l.length := by have := HN.out; omega
      have hat := hcell j hjl
      have c0 := (hb.cell (p := ⟨b, o + j * 2, none⟩) hbl).trans hat.1
      have c1 := (hb.cell (p := ⟨b, o + j * 2 + 1, none⟩) hbl).trans hat.2
      have hpw := (HF.out _ (List.getElem_mem hjl)).2
      have HV := Lib.hid (show votedN (l.take (j + 1)) (keysOf ss) = votedN (l.take j) (keysOf ss) + if (keysOf ss).contains l[j].key = true then l[j].power else 0 from vsum_take _ _ _ hjl)
      have hbx := val_box hb l[j]
      clear hcell hat
      generalize l[j] = x at *
      generalize votedN (l.take j) (keysOf ss) = s at *
      have HI := Lib.hid (fun W h => in_any x.name (.slice A' ss.length c') ss W h)
      have hsx := (hs.up (Nat.le_refl _) hbx)
      have i1 : (0 : Int) ≤ (j : Int) := by omega
      have i2 : (j : Int) < (n : Int) := by omega
      cases hh : (keysOf ss).contains x.key
      · have hh' : (keysOf ss).contains x.name.data.toList = false := hh
        go_wp2_with (go_at_call 32; refine (HI.out _ hsx).mono ?_; rintro e w' ⟨rfl, rfl⟩; rw [hh'])
        go_roundw
        case rel => exact ⟨j + 1, by omega, by go_num, by rw [HV.out, hh]; go_num, hbx⟩
        case measure => simp [intOf]; omega
      · have hh' : (keysOf ss).contains x.name.data.toList = true := hh
        go_wp2_with (go_at_call 32; refine (HI.out _ hsx).mono ?_; rintro e w' ⟨rfl, rfl⟩; rw [hh'])
        go_roundw
        case rel => exact ⟨j + 1, by omega, by go_num, by rw [HV.out, hh]; exact congrArg (Value.int .u64) (u64_add' s x.power), hbx⟩
        case measure => simp [intOf]; omega
    · have i2 : ¬ (j : Int) < (n : Int) := by omega
      have he : l.take j = l := List.take_of_length_le (by have := HN.out; omega)
      rw [he]
      clear he
      go_wp2
      go_ret
      exact ⟨rfl, hb⟩
end Go.Proofs.YtapfjkbbgamkoaaDoor
