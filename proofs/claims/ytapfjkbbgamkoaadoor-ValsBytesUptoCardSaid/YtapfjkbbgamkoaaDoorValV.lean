/- The walk of package vals: Voted. -/
import Derived.Test.YtapfjkbbgamkoaaDoorValA
import Derived.LoopTactic
import Derived.StringKeys
import Derived.Maps.OwnSet
namespace Go.Proofs.YtapfjkbbgamkoaaDoor
open Go Go.RowKit Go.Maps Go.WideMaps

theorem strLaw : Keyed Tryd.prog 9 := string_keyed Tryd.underlying9
theorem zeroUnit (w : World) : (zeroValue 44).run Tryd.prog w = .ok (.agg #[]) w := by kernel_rfl
def litsOf (l : List ByteArray) : List Lit := l.map fun s => Lit.string s.data.toList
def setS (l : List ByteArray) : DataW Unit := setOf (.agg []) (litsOf l)
theorem setS_zero (l : List ByteArray) : setS (l.take 0) = .map [] := by simp [setS, litsOf, setOf]
theorem setS_succ (l : List ByteArray) (k : Nat) (h : k < l.length) : setS (l.take (k + 1)) = (setS (l.take k)).put (.string l[k].data.toList) (.agg []) := by
  unfold setS litsOf
  rw [List.take_succ_eq_append_getElem h, List.map_append, List.map_cons, List.map_nil, setOf_snoc]
theorem any_key (n : List UInt8) : ∀ l : List ByteArray, (litsOf l).any (fun x => x.sameKey (.string n)) = (keysOf l).contains n
  | [] => rfl
  | s :: l => by
    simp only [litsOf, keysOf, List.map_cons, List.any_cons, List.contains_cons]
    have ih := any_key n l
    simp only [litsOf, keysOf] at ih
    rw [ih]
    congr 1
    show (s.data.toList == n) = (n == s.data.toList)
    by_cases e : s.data.toList = n
    · rw [e]
    · rw [beq_eq_false_iff_ne.2 e, beq_eq_false_iff_ne.2 (Ne.symm e)]
theorem has_setS (l : List ByteArray) (n : List UInt8) : Maps.has (setS l) (.string n) = (keysOf l).contains n := by
  unfold setS
  rw [has_setOf, any_key]
  intro x hx
  simp only [litsOf, List.mem_map] at hx
  obtain ⟨s, _, rfl⟩ := hx
  exact trivial

set_option maxHeartbeats 2000000 in
set_option maxRecDepth 100000 in
theorem voted_any (v vs : Value) (l : List VD) (ss : List ByteArray) (w : World) (hv : ValsAt w w.heap.size v l) (hs : StrsAt w w.heap.size vs ss) :
    Calls Tryd.prog 15 #[v, vs] w fun e w' => e = .returned (.int .u64 ((votedN l (keysOf ss) % 18446744073709551616 : Nat) : Int)) ∧ Below w.heap.size w w' := by
  have hmm := @run_makeMap Tryd.prog
  obtain ⟨A, c, rfl, hc, hcm, hf, hp⟩ := hv
  obtain ⟨A', c', rfl, hc', hcm', hf', hp'⟩ := hs
  unfold maxLen at hcm hcm'
  have HP := Lib.hid hp
  have HF := Lib.hid hf
  have HP' := Lib.hid hp'
  have HF' := Lib.hid hf'
  clear hp hf hp' hf'
  obtain ⟨n, hn⟩ : ∃ n, n = l.length := ⟨_, rfl⟩
  have HN := Lib.hid hn
  obtain ⟨m, hm⟩ : ∃ m, m = ss.length := ⟨_, rfl⟩
  have HM := Lib.hid hm
  rw [← hn] at hc ⊢
  rw [← hm] at hc' ⊢
  clear hn hm
  go_enter Tryd.func15, Tryd.ntmps15
  go_wp2
  go_loopw [16] (fun i wr => ∃ k : Nat, k ≤ m ∧ i = .int .i64 (k : Int) ∧ wr.ownsMap Tryd.prog 9 (unitElem (H := Unit)) w.heap.size k (setS (ss.take k)) ∧ Below w.heap.size w wr)
    (fun i _ => m - (intOf i).toNat)
  case atStart => exact ⟨0, Nat.zero_le _, rfl, by rw [setS_zero]; exact World.ownsMap_made _ _ _ _, (Below.refl _ _).alloc (Nat.le_refl _) _⟩
  case round =>
    obtain ⟨k, hk, rfl, hown, hb⟩ := hrel
    by_cases hlt : k < m
    · obtain ⟨b, o, rfl, hbl, hcell⟩ := HP'.out (by have := HM.out; omega)
      have hkl : k < ss.length := by have := HM.out; omega
      have c0 := (hb.cell (p := ⟨b, o + k, none⟩) hbl).trans (hcell k hkl)
      have HS := Lib.hid (setS_succ ss k hkl)
      have hsz : ss[k].size ≤ maxLen := HF'.out _ (List.getElem_mem hkl)
      have hkey : keyOf Tryd.prog 9 (.string ss[k]) = some (.string ss[k].data.toList) := keyOf_string_mk Tryd.underlying9 hsz
      have HK := Lib.hid hkey
      clear hcell HP' hkey hsz
      generalize ss[k] = s at *
      have i1 : (0 : Int) ≤ (k : Int) := by omega
      have i2 : (k : Int) < (m : Int) := by omega
      go_wp2_with (at_mapUpdate; refine wpList_mapUpdate_own _ rfl _ _ _ 43 rfl 9 44 strLaw Tryd.underlying43 (unitElem (H := Unit)) w.heap.size k _ rfl hown (by unfold maxLen; omega) _ _ _ rfl rfl HK.out _ [] unitElem_mk ?_; intro w1 hown1 hgrow1)
      have hb1 : Below w.heap.size w w1 := hb.grown hgrow1 hb.size (fun j hj => by cases hj; exact Nat.le_refl _)
      clear hown hb hgrow1
      go_roundw
      case rel => exact ⟨k + 1, by omega, by go_num, by rw [HS.out]; exact hown1, hb1⟩
      case measure => simp [intOf]; omega
    · have i2 : ¬ (k : Int) < (m : Int) := by omega
      have he : ss.take k = ss := List.take_of_length_le (by have := HM.out; omega)
      rw [he] at hown
      have HH := Lib.hid (has_setS ss)
      clear he HM HP' HF'
      generalize setS ss = D at *
      go_wp2
      obtain ⟨wo, rfl⟩ : ∃ wo : World, wo = wr := ⟨_, rfl⟩
      go_loopw [8, 26] (fun s i wr => ∃ k : Nat, k ≤ n ∧ i = .int .i64 (k : Int) ∧ s = .int .u64 ((votedN (l.take k) (keysOf ss) % 18446744073709551616 : Nat) : Int) ∧ wr.ownsMap Tryd.prog 9 (unitElem (H := Unit)) w.heap.size m D ∧ Below w.heap.size w wr)
        (fun _ i _ => n - (intOf i).toNat)
      case atStart => exact ⟨0, Nat.zero_le _, rfl, rfl, hown.mono hk, hb⟩
      case round =>
        clear hown hb
        obtain ⟨j, hj, rfl, rfl, hown, hb⟩ := hrel
        by_cases hlj : j < n
        · obtain ⟨b, o, rfl, hbl, hcell⟩ := HP.out (by have := HN.out; omega)
          have hjl : j < l.length := by have := HN.out; omega
          have hat := hcell j hjl
          have c0 := (hb.cell (p := ⟨b, o + j * 2, none⟩) hbl).trans hat.1
          have c1 := (hb.cell (p := ⟨b, o + j * 2 + 1, none⟩) hbl).trans hat.2
          have hfit := HF.out _ (List.getElem_mem hjl)
          have HV := Lib.hid (show votedN (l.take (j + 1)) (keysOf ss) = votedN (l.take j) (keysOf ss) + if (keysOf ss).contains l[j].key = true then l[j].power else 0 from vsum_take _ _ _ hjl)
          have hkey : keyOf Tryd.prog 9 (.string l[j].name) = some (.string l[j].key) := keyOf_string_mk Tryd.underlying9 hfit.1
          have HK := Lib.hid hkey
          have hbx := val_box hb l[j]
          have HX := Lib.hid (HH.out l[j].key)
          have hpw := hfit.2
          clear hcell hat hkey hfit
          generalize l[j] = x at *
          generalize votedN (l.take j) (keysOf ss) = s at *
          have i1 : (0 : Int) ≤ (j : Int) := by omega
          have i2 : (j : Int) < (n : Int) := by omega
          cases hh : (keysOf ss).contains x.key
          · have h2 : Maps.has D (.string x.key) = false := HX.out.trans hh
            go_wp2_with (at_lookup; refine wpList_lookup_own_unit _ rfl _ _ 43 rfl 9 44 strLaw Tryd.underlying43 (zeroUnit _) w.heap.size m _ rfl (hown.alloc _) _ _ rfl HK.out ?_; rw [h2])
            go_roundw
            case rel => exact ⟨j + 1, by omega, by go_num, by rw [HV.out, hh]; go_num, (hown.alloc _).alloc _, hbx.alloc hbx.size _⟩
            case measure => simp [intOf]; omega
          · have h2 : Maps.has D (.string x.key) = true := HX.out.trans hh
            go_wp2_with (at_lookup; refine wpList_lookup_own_unit _ rfl _ _ 43 rfl 9 44 strLaw Tryd.underlying43 (zeroUnit _) w.heap.size m _ rfl (hown.alloc _) _ _ rfl HK.out ?_; rw [h2])
            go_roundw
            case rel => exact ⟨j + 1, by omega, by go_num, by rw [HV.out, hh]; exact congrArg (Value.int .u64) (u64_add' s x.power), (hown.alloc _).alloc _, hbx.alloc hbx.size _⟩
            case measure => simp [intOf]; omega
        · have i2 : ¬ (j : Int) < (n : Int) := by omega
          have he : l.take j = l := List.take_of_length_le (by have := HN.out; omega)
          rw [he]
          clear he
          go_wp2
          go_ret
          exact ⟨rfl, hb⟩
end Go.Proofs.YtapfjkbbgamkoaaDoor
