/- The walk of the law: sets are told from other lists; powers, votes, quorums and thirds are counted as the document says. -/
import Derived.Test.YtapfjkbbgamkoaaDoorValF
import Derived.Test.YtapfjkbbgamkoaaDoorValRQ
import Derived.Test.YtapfjkbbgamkoaaDoorValRT
import Derived.LoopTactic
namespace Go.Proofs.YtapfjkbbgamkoaaDoor
open Go Go.RowKit

set_option maxHeartbeats 4000000 in
set_option maxRecDepth 100000 in
theorem counts_walk (v va : Value) (l : List VD) (ss : List ByteArray) (w : World) (hv : ValsAt w w.heap.size v l) (ha : StrsAt w w.heap.size va ss)
    (fr : TypeId × Nat × Nat) (hk : w.heap[0]? = some (.cells kVals fr.1 fr.2)) :
    Calls Tryd.prog 3 #[v, va] w fun e w' => e = .returned (.bool true) ∧ Below w.heap.size w w' := by
  have hn0 := blk_lt hk
  obtain ⟨q, hq⟩ : ∃ q, q = quorumB l (keysOf ss) := ⟨_, rfl⟩
  obtain ⟨t, ht⟩ : ∃ t, t = thirdB l (keysOf ss) := ⟨_, rfl⟩
  obtain ⟨r, hr⟩ : ∃ r, r = rightB l := ⟨_, rfl⟩
  obtain ⟨a, hea⟩ : ∃ a, a = votedN l (keysOf ss) % 18446744073709551616 := ⟨_, rfl⟩
  obtain ⟨p, hep⟩ : ∃ p, p = powerN l % 18446744073709551616 := ⟨_, rfl⟩
  have hR : ∀ v W, ValsAt W W.heap.size v l → Calls Tryd.prog 11 #[v] W fun e w' => e = .returned (.bool r) ∧ Below W.heap.size W w' := by
    rw [hr]; exact fun v W h => right_any v l W h
  have HR := Lib.hid hR
  clear hR
  have hP : ∀ v W, ValsAt W W.heap.size v l → Calls Tryd.prog 13 #[v] W fun e w' => e = .returned (.int .u64 (p : Int)) ∧ Below W.heap.size W w' := by
    rw [hep]; exact fun v W h => power_any v l W h
  have HP := Lib.hid hP
  clear hP
  have hV : ∀ v v0 W, ValsAt W W.heap.size v l → StrsAt W W.heap.size v0 ss → Calls Tryd.prog 15 #[v, v0] W fun e w' => e = .returned (.int .u64 (a : Int)) ∧ Below W.heap.size W w' := by
    rw [hea]; exact fun v v0 W h h0 => voted_any v v0 l ss W h h0
  have HV := Lib.hid hV
  clear hV
  have hQ : ∀ v v0 W, ValsAt W W.heap.size v l → StrsAt W W.heap.size v0 ss → Calls Tryd.prog 17 #[v, v0] W fun e w' => e = .returned (.bool q) ∧ Below W.heap.size W w' := by
    rw [hq]; exact fun v v0 W h h0 => quorum_any v v0 l ss W h h0
  have HQ := Lib.hid hQ
  clear hQ
  have hT : ∀ v v0 W, ValsAt W W.heap.size v l → StrsAt W W.heap.size v0 ss → Calls Tryd.prog 19 #[v, v0] W fun e w' => e = .returned (.bool t) ∧ Below W.heap.size W w' := by
    rw [ht]; exact fun v v0 W h h0 => third_any v v0 l ss W h h0
  have HT := Lib.hid hT
  clear hT
  have hR2 : ∀ v W, ValsAt W W.heap.size v l → Calls Tryd.prog 12 #[v] W fun e w' => e = .returned (.bool r) ∧ Below W.heap.size W w' := by
    rw [hr]; exact fun v W h => rright_any v l W h
  have HR2 := Lib.hid hR2
  clear hR2
  have hP2 : ∀ v W, ValsAt W W.heap.size v l → Calls Tryd.prog 14 #[v] W fun e w' => e = .returned (.int .u64 (p : Int)) ∧ Below W.heap.size W w' := by
    rw [hep]; exact fun v W h => rpower_any v l W h
  have HP2 := Lib.hid hP2
  clear hP2
  have hV2 : ∀ v v0 W, ValsAt W W.heap.size v l → StrsAt W W.heap.size v0 ss → Calls Tryd.prog 16 #[v, v0] W fun e w' => e = .returned (.int .u64 (a : Int)) ∧ Below W.heap.size W w' := by
    rw [hea]; exact fun v v0 W h h0 => rvoted_any v v0 l ss W h h0
  have HV2 := Lib.hid hV2
  clear hV2
  have hQ2 : ∀ v v0 W, ValsAt W W.heap.size v l → StrsAt W W.heap.size v0 ss → Calls Tryd.prog 18 #[v, v0] W fun e w' => e = .returned (.bool q) ∧ Below W.heap.size W w' := by
    rw [hq]; exact fun v v0 W h h0 => rquorum_any v v0 l ss W h h0
  have HQ2 := Lib.hid hQ2
  clear hQ2
  have hT2 : ∀ v v0 W, ValsAt W W.heap.size v l → StrsAt W W.heap.size v0 ss → Calls Tryd.prog 20 #[v, v0] W fun e w' => e = .returned (.bool t) ∧ Below W.heap.size W w' := by
    rw [ht]; exact fun v v0 W h h0 => rthird_any v v0 l ss W h h0
  have HT2 := Lib.hid hT2
  clear hT2
  clear hq ht hr hea hep
  obtain ⟨A', c', rfl⟩ := ha.form
  obtain ⟨A, c, rfl⟩ := hv.form
  go_enter Tryd.func3, Tryd.ntmps3
  go_wp2_with fail
  refine (fixed_any w fr hk).mono ?_
  rintro e w1 ⟨rfl, hb1⟩
  go_wp2_with fail
  refine (HR.out _ _ (hv.up (Nat.le_refl _) hb1)).mono ?_
  rintro e wc53 ⟨rfl, hc53⟩
  have hq53 := below_chain hb1 hb1.size hc53
  clear hc53 hb1
  go_wp2_with fail
  refine (HR2.out _ _ (hv.up (Nat.le_refl _) hq53)).mono ?_
  rintro e wc54 ⟨rfl, hc54⟩
  have hq54 := below_chain hq53 hq53.size hc54
  clear hc54 hq53
  go_wp2_with fail
  refine (HP.out _ _ (hv.up (Nat.le_refl _) hq54)).mono ?_
  rintro e wc55 ⟨rfl, hc55⟩
  have hq55 := below_chain hq54 hq54.size hc55
  clear hc55 hq54
  go_wp2_with fail
  refine (HP2.out _ _ (hv.up (Nat.le_refl _) hq55)).mono ?_
  rintro e wc56 ⟨rfl, hc56⟩
  have hq56 := below_chain hq55 hq55.size hc56
  clear hc56 hq55
  go_wp2_with fail
  refine (HV.out _ _ _ (hv.up (Nat.le_refl _) hq56) (ha.up (Nat.le_refl _) hq56)).mono ?_
  rintro e wc57 ⟨rfl, hc57⟩
  have hq57 := below_chain hq56 hq56.size hc57
  clear hc57 hq56
  go_wp2_with fail
  refine (HV2.out _ _ _ (hv.up (Nat.le_refl _) hq57) (ha.up (Nat.le_refl _) hq57)).mono ?_
  rintro e wc58 ⟨rfl, hc58⟩
  have hq58 := below_chain hq57 hq57.size hc58
  clear hc58 hq57
  go_wp2_with fail
  refine (HQ.out _ _ _ (hv.up (Nat.le_refl _) hq58) (ha.up (Nat.le_refl _) hq58)).mono ?_
  rintro e wc59 ⟨rfl, hc59⟩
  have hq59 := below_chain hq58 hq58.size hc59
  clear hc59 hq58
  go_wp2_with fail
  refine (HQ2.out _ _ _ (hv.up (Nat.le_refl _) hq59) (ha.up (Nat.le_refl _) hq59)).mono ?_
  rintro e wc60 ⟨rfl, hc60⟩
  have hq60 := below_chain hq59 hq59.size hc60
  clear hc60 hq59
  go_wp2_with fail
  refine (HT.out _ _ _ (hv.up (Nat.le_refl _) hq60) (ha.up (Nat.le_refl _) hq60)).mono ?_
  rintro e wc61 ⟨rfl, hc61⟩
  have hq61 := below_chain hq60 hq60.size hc61
  clear hc61 hq60
  go_wp2_with fail
  refine (HT2.out _ _ _ (hv.up (Nat.le_refl _) hq61) (ha.up (Nat.le_refl _) hq61)).mono ?_
  rintro e wc62 ⟨rfl, hc62⟩
  have hq62 := below_chain hq61 hq61.size hc62
  clear hc62 hq61
  go_wp2_with fail
  go_ret
  exact ⟨by simp, hq62⟩
end Go.Proofs.YtapfjkbbgamkoaaDoor
