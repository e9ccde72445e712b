
/- The walk of package vals: Right. The walk of package vals: Voted. The walk of package vals: Power. The walks of package vals: Quorum, Third. The walk of package vals: Third. -/
import Derived.Test.YtmphegeiclgjbaaGreatDoorValA0
import Derived.Test.YtmphegeiclgjbaaGreatDoorNameI1
import Derived.LoopTactic
import Derived.BigQuiet
import Derived.Deep.QuietTactic
import Derived.WalkLawsBesides
import Derived.StringKeys
import Derived.Maps.OwnSet
namespace Go.Proofs.YtmphegeiclgjbaaGreatDoor
set_option maxRecDepth 100000
open Go Go.RowKit

set_option maxHeartbeats 4000000 in
set_option maxRecDepth 100000 in
theorem vlright_any (v : Value) (l : List VD) (w : World) (hv : ValsAt w w.heap.size v l) :
    Calls Tryz.prog 61 #[v] w fun e w' => e = .returned (.bool (rightB l)) ∧ Below w.heap.size w w' := by
  obtain ⟨A, c, rfl, hc, hcm, hf, hp⟩ := hv
  unfold maxLen at hcm
  have HP := Lib.hid hp
  have HF := Lib.hid hf
  clear hp hf
  have hshort := @rightB_short l
  obtain ⟨n, hn⟩ : ∃ n, n = l.length := ⟨_, rfl⟩
  have HN := Lib.hid hn
  rw [← hn] at hc hshort ⊢
  clear hn
  by_cases h1 : n < 1
  · have hr := hshort (.inl h1)
    clear hshort
    have e1 : (n : Int) < 1 := by omega
    have d1 : decide ((n : Int) < 1) = true := decide_eq_true e1
    rw [hr]
    clear hr
    go_enter Tryz.func61, Tryz.ntmps61
    go_wp2
    go_ret
    exact ⟨rfl, Below.refl _ _⟩
  by_cases h8 : 8 < n
  · have hr := hshort (.inr h8)
    clear hshort
    have e1 : ¬ (n : Int) < 1 := by omega
    have d1 : decide ((n : Int) < 1) = false := decide_eq_false e1
    have e2 : (8 : Int) < (n : Int) := by omega
    rw [hr]
    clear hr
    go_enter Tryz.func61, Tryz.ntmps61
    go_wp2
    go_ret
    exact ⟨rfl, Below.refl _ _⟩
  have e1 : ¬ (n : Int) < 1 := by omega
  have d1 : decide ((n : Int) < 1) = false := decide_eq_false e1
  have e2 : ¬ (8 : Int) < (n : Int) := by omega
  clear hshort
  go_enter Tryz.func61, Tryz.ntmps61
  go_wp2
  go_loopw [15] (fun i wr => ∃ k : Nat, k ≤ n ∧ i = .int .i64 (k : Int) ∧ (∀ j, j < k → goodAt l j = true) ∧ Below w.heap.size w wr)
    (fun i _ => n - (intOf i).toNat)
  case atStart => exact ⟨0, Nat.zero_le _, rfl, fun j hj => absurd hj (by omega), Below.refl _ _⟩
  case round =>
    obtain ⟨k, hk, rfl, hgood, hb⟩ := hrel
    have HG := Lib.hid hgood
    clear hgood
    by_cases hlt : k < n
    · obtain ⟨b, o, rfl, hbl, hcell⟩ := HP.out (by have := HN.out; omega)
      have hkl : k < l.length := by have := HN.out; omega
      have hat := hcell k hkl
      have c0 := (hb.cell (p := ⟨b, o + k * 2, none⟩) hbl).trans hat.1
      have c1 := (hb.cell (p := ⟨b, o + k * 2 + 1, none⟩) hbl).trans hat.2
      have hfit := HF.out _ (List.getElem_mem hkl)
      have hbx := val_box hb l[k]
      have hsz := hfit.1
      have hpw := hfit.2
      have i1 : (0 : Int) ≤ (k : Int) := by omega
      have i2 : (k : Int) < (n : Int) := by omega
      cases hid : identL l[k].key with
      | false =>
        have HR := Lib.hid (rightB_not hkl (okV_name hid))
        have hid' : identL l[k].name.data.toList = false := hid
        clear hid hat hcell hfit HG
        generalize l[k] = x at *
        have HI := Lib.hid (ident_any x.name · hsz)
        clear hsz
        go_wp2_with (go_at_call 49; refine (HI.out _).mono ?_; rintro e w' ⟨rfl, rfl⟩; rw [hid'])
        go_ret
        exact ⟨by rw [HR.out]; rfl, hbx⟩
      | true =>
        have hid' : identL l[k].name.data.toList = true := hid
        by_cases p1 : l[k].power < 1
        · have HR := Lib.hid (rightB_not hkl (okV_low p1))
          have q1 : (l[k].power : Int) < 1 := by omega
          have d3 : decide ((l[k].power : Int) < 1) = true := decide_eq_true q1
          clear hid hat hcell hfit HG p1
          generalize l[k] = x at *
          have HI := Lib.hid (ident_any x.name · hsz)
          clear hsz
          go_wp2_with (go_at_call 49; refine (HI.out _).mono ?_; rintro e w' ⟨rfl, rfl⟩; rw [hid'])
          go_ret
          exact ⟨by rw [HR.out]; rfl, hbx⟩
        by_cases p2 : 4294967296 < l[k].power
        · have HR := Lib.hid (rightB_not hkl (okV_high p2))
          have q1 : ¬ (l[k].power : Int) < 1 := by omega
          have d3 : decide ((l[k].power : Int) < 1) = false := decide_eq_false q1
          have q2 : (4294967296 : Int) < (l[k].power : Int) := by omega
          have d4 : decide ((4294967296 : Int) < (l[k].power : Int)) = true := decide_eq_true q2
          clear hid hat hcell hfit HG p1 p2
          generalize l[k] = x at *
          have HI := Lib.hid (ident_any x.name · hsz)
          clear hsz
          go_wp2_with (go_at_call 49; refine (HI.out _).mono ?_; rintro e w' ⟨rfl, rfl⟩; rw [hid'])
          go_ret
          exact ⟨by rw [HR.out]; rfl, hbx⟩
        have hok := okV_yes hid p1 p2
        have q1 : ¬ (l[k].power : Int) < 1 := by omega
        have d3 : decide ((l[k].power : Int) < 1) = false := decide_eq_false q1
        have q2 : ¬ (4294967296 : Int) < (l[k].power : Int) := by omega
        have d4 : decide ((4294967296 : Int) < (l[k].power : Int)) = false := decide_eq_false q2
        clear p1 p2 hid
        by_cases hk0 : k = 0
        · subst hk0
          have HN0 := Lib.hid ((good_zero hkl).trans hok)
          rw [Nat.zero_mul, Nat.add_zero] at c0 c1
          clear hok hat hcell hfit HG
          generalize l[0] = x at *
          have HI := Lib.hid (ident_any x.name · hsz)
          clear hsz
          go_wp2_with (go_at_call 49; refine (HI.out _).mono ?_; rintro e w' ⟨rfl, rfl⟩; rw [hid'])
          go_quiet (fail)
          go_wp2
          go_roundw
          case rel => exact ⟨1, by omega, by go_num, (fun j hj => (show j = 0 by omega) ▸ HN0.out), below_drewN' hbx _⟩
          case measure => simp [intOf]; omega
        · obtain ⟨j, hj⟩ : ∃ j, k = j + 1 := ⟨k - 1, by omega⟩
          have hjl : j < l.length := by omega
          have hat2 := hcell j hjl
          have g0 := (hbx.cell (p := ⟨b, o + j * 2, none⟩) hbl).trans hat2.1
          have HO := Lib.hid (show lessV l[j] l[k] = false → rightB l = false from by subst hj; exact rightB_order hkl)
          have HN1 := Lib.hid (show lessV l[j] l[k] = true → goodAt l k = true from by subst hj; intro h; rw [good_succ hkl, hok, h]; rfl)
          have w1 : IntKind.i64.wrap ((k : Int) - 1) = (j : Int) := by rw [IntKind.wrap_i64]; omega
          have j1 : (0 : Int) ≤ (j : Int) := by omega
          have j2 : (j : Int) < (n : Int) := by omega
          have j3 : (0 : Int) < (k : Int) := by omega
          have j4 : decide ((0 : Int) < (k : Int)) = true := decide_eq_true j3
          have j5 : decide (0 < k) = true := decide_eq_true (by omega)
          clear hj hk0
          cases hle : lessV l[j] l[k] with
          | false =>
            have HR := Lib.hid (HO.out hle)
            have hle' : Op.bytesLess l[j].name.toList l[k].name.toList = false := hle
            clear hok hat hat2 hcell hfit HG hle HO HN1
            generalize l[k] = x at *
            generalize l[j] = y at *
            have HI := Lib.hid (ident_any x.name · hsz)
            clear hsz
            go_wp2_with (go_at_call 49; refine (HI.out _).mono ?_; rintro e w' ⟨rfl, rfl⟩; rw [hid'])
            go_quiet (fail)
            go_wp2
            go_ret
            exact ⟨by rw [HR.out]; rfl, below_drewN' hbx _⟩
          | true =>
            have HN0 := Lib.hid (HN1.out hle)
            have hle' : Op.bytesLess l[j].name.toList l[k].name.toList = true := hle
            clear hok hat hat2 hcell hfit hle HO HN1
            generalize l[k] = x at *
            generalize l[j] = y at *
            have HI := Lib.hid (ident_any x.name · hsz)
            clear hsz
            go_wp2_with (go_at_call 49; refine (HI.out _).mono ?_; rintro e w' ⟨rfl, rfl⟩; rw [hid'])
            go_quiet (fail)
            go_wp2
            go_roundw
            case rel => exact ⟨k + 1, by omega, by go_num, (fun i hi => (Nat.lt_or_eq_of_le (Nat.le_of_lt_succ hi)).elim (fun h => HG.out i h) (fun h => h ▸ HN0.out)), below_drewN' hbx _⟩
            case measure => simp [intOf]; omega
    · have i2 : ¬ (k : Int) < (n : Int) := by omega
      have HR := Lib.hid (rightB_yes (l := l) (by have := HN.out; omega) (by have := HN.out; omega) (fun i hi => HG.out i (by have := HN.out; omega)))
      clear HG
      go_wp2
      go_ret
      exact ⟨by rw [HR.out]; rfl, hb⟩
end Go.Proofs.YtmphegeiclgjbaaGreatDoor
namespace Go.Proofs.YtmphegeiclgjbaaGreatDoor
set_option maxRecDepth 100000
open Go Go.RowKit Go.Maps Go.WideMaps

theorem strLaw : Keyed Tryz.prog 9 := string_keyed Tryz.underlying9
theorem zeroUnit (w : World) : (zeroValue 153).run Tryz.prog w = .ok (.agg #[]) w := by kernel_rfl
def litsOf (l : List ByteArray) : List Lit := l.map fun s => Lit.string s.data.toList
def setS (l : List ByteArray) : DataW Unit := setOf (.agg []) (litsOf l)
theorem setS_zero (l : List ByteArray) : setS (l.take 0) = .map [] := by simp [setS, litsOf, setOf]
theorem setS_succ (l : List ByteArray) (k : Nat) (h : k < l.length) : setS (l.take (k + 1)) = (setS (l.take k)).put (.string l[k].data.toList) (.agg []) := by
  unfold setS litsOf
  rw [List.take_succ_eq_append_getElem h, List.map_append, List.map_cons, List.map_nil, setOf_snoc]
theorem any_key (n : List UInt8) : ∀ l : List ByteArray, (litsOf l).any (fun x => x.sameKey (.string n)) = (keysOf l).contains n
  | [] => rfl
  | s :: l => by
    simp only [litsOf, keysOf, List.map_cons, List.any_cons, List.contains_cons]
    have ih := any_key n l
    simp only [litsOf, keysOf] at ih
    rw [ih]
    congr 1
    show (s.data.toList == n) = (n == s.data.toList)
    by_cases e : s.data.toList = n
    · rw [e]
    · rw [beq_eq_false_iff_ne.2 e, beq_eq_false_iff_ne.2 (Ne.symm e)]
theorem has_setS (l : List ByteArray) (n : List UInt8) : Maps.has (setS l) (.string n) = (keysOf l).contains n := by
  unfold setS
  rw [has_setOf, any_key]
  intro x hx
  simp only [litsOf, List.mem_map] at hx
  obtain ⟨s, _, rfl⟩ := hx
  exact trivial

set_option maxHeartbeats 2000000 in
set_option maxRecDepth 100000 in
theorem voted_any (v vs : Value) (l : List VD) (ss : List ByteArray) (w : World) (hv : ValsAt w w.heap.size v l) (hs : StrsAt w w.heap.size vs ss) :
    Calls Tryz.prog 62 #[v, vs] w fun e w' => e = .returned (.int .u64 ((votedN l (keysOf ss) % 18446744073709551616 : Nat) : Int)) ∧ Below w.heap.size w w' := by
  have hmm := @run_makeMap Tryz.prog
  obtain ⟨A, c, rfl, hc, hcm, hf, hp⟩ := hv
  obtain ⟨A', c', rfl, hc', hcm', hf', hp'⟩ := hs
  unfold maxLen at hcm hcm'
  have HP := Lib.hid hp
  have HF := Lib.hid hf
  have HP' := Lib.hid hp'
  have HF' := Lib.hid hf'
  clear hp hf hp' hf'
  obtain ⟨n, hn⟩ : ∃ n, n = l.length := ⟨_, rfl⟩
  have HN := Lib.hid hn
  obtain ⟨m, hm⟩ : ∃ m, m = ss.length := ⟨_, rfl⟩
  have HM := Lib.hid hm
  rw [← hn] at hc ⊢
  rw [← hm] at hc' ⊢
  clear hn hm
  go_enter Tryz.func62, Tryz.ntmps62
  go_wp2
  go_loopw [16] (fun i wr => ∃ k : Nat, k ≤ m ∧ i = .int .i64 (k : Int) ∧ wr.ownsMap Tryz.prog 9 (unitElem (H := Unit)) w.heap.size k (setS (ss.take k)) ∧ Below w.heap.size w wr)
    (fun i _ => m - (intOf i).toNat)
  case atStart => exact ⟨0, Nat.zero_le _, rfl, by rw [setS_zero]; exact World.ownsMap_made _ _ _ _, (Below.refl _ _).alloc (Nat.le_refl _) _⟩
  case round =>
    obtain ⟨k, hk, rfl, hown, hb⟩ := hrel
    by_cases hlt : k < m
    · obtain ⟨b, o, rfl, hbl, hcell⟩ := HP'.out (by have := HM.out; omega)
      have hkl : k < ss.length := by have := HM.out; omega
      have c0 := (hb.cell (p := ⟨b, o + k, none⟩) hbl).trans (hcell k hkl)
      have HS := Lib.hid (setS_succ ss k hkl)
      have hsz : ss[k].size ≤ maxLen := HF'.out _ (List.getElem_mem hkl)
      have hkey : keyOf Tryz.prog 9 (.string ss[k]) = some (.string ss[k].data.toList) := keyOf_string_mk Tryz.underlying9 hsz
      have HK := Lib.hid hkey
      clear hcell HP' hkey hsz
      generalize ss[k] = s at *
      have i1 : (0 : Int) ≤ (k : Int) := by omega
      have i2 : (k : Int) < (m : Int) := by omega
      go_wp2_with (at_mapUpdate; refine wpList_mapUpdate_own _ rfl _ _ _ 152 rfl 9 153 strLaw Tryz.underlying152 (unitElem (H := Unit)) w.heap.size k _ rfl hown (by unfold maxLen; omega) _ _ _ rfl rfl HK.out _ [] unitElem_mk ?_; intro w1 hown1 hgrow1)
      have hb1 : Below w.heap.size w w1 := hb.grown hgrow1 hb.size (fun j hj => by cases hj; exact Nat.le_refl _)
      clear hown hb hgrow1
      go_roundw
      case rel => exact ⟨k + 1, by omega, by go_num, by rw [HS.out]; exact hown1, hb1⟩
      case measure => simp [intOf]; omega
    · have i2 : ¬ (k : Int) < (m : Int) := by omega
      have he : ss.take k = ss := List.take_of_length_le (by have := HM.out; omega)
      rw [he] at hown
      have HH := Lib.hid (has_setS ss)
      clear he HM HP' HF'
      generalize setS ss = D at *
      go_wp2
      obtain ⟨wo, rfl⟩ : ∃ wo : World, wo = wr := ⟨_, rfl⟩
      go_loopw [8, 26] (fun s i wr => ∃ k : Nat, k ≤ n ∧ i = .int .i64 (k : Int) ∧ s = .int .u64 ((votedN (l.take k) (keysOf ss) % 18446744073709551616 : Nat) : Int) ∧ wr.ownsMap Tryz.prog 9 (unitElem (H := Unit)) w.heap.size m D ∧ Below w.heap.size w wr)
        (fun _ i _ => n - (intOf i).toNat)
      case atStart => exact ⟨0, Nat.zero_le _, rfl, rfl, hown.mono hk, hb⟩
      case round =>
        clear hown hb
        obtain ⟨j, hj, rfl, rfl, hown, hb⟩ := hrel
        by_cases hlj : j < n
        · obtain ⟨b, o, rfl, hbl, hcell⟩ := HP.out (by have := HN.out; omega)
          have hjl : j < l.length := by have := HN.out; omega
          have hat := hcell j hjl
          have c0 := (hb.cell (p := ⟨b, o + j * 2, none⟩) hbl).trans hat.1
          have c1 := (hb.cell (p := ⟨b, o + j * 2 + 1, none⟩) hbl).trans hat.2
          have hfit := HF.out _ (List.getElem_mem hjl)
          have HV := Lib.hid (show votedN (l.take (j + 1)) (keysOf ss) = votedN (l.take j) (keysOf ss) + if (keysOf ss).contains l[j].key = true then l[j].power else 0 from vsum_take _ _ _ hjl)
          have hkey : keyOf Tryz.prog 9 (.string l[j].name) = some (.string l[j].key) := keyOf_string_mk Tryz.underlying9 hfit.1
          have HK := Lib.hid hkey
          have hbx := val_box hb l[j]
          have HX := Lib.hid (HH.out l[j].key)
          have hpw := hfit.2
          clear hcell hat hkey hfit
          generalize l[j] = x at *
          generalize votedN (l.take j) (keysOf ss) = s at *
          have i1 : (0 : Int) ≤ (j : Int) := by omega
          have i2 : (j : Int) < (n : Int) := by omega
          cases hh : (keysOf ss).contains x.key
          · have h2 : Maps.has D (.string x.key) = false := HX.out.trans hh
            go_wp2_with (at_lookup; refine wpList_lookup_own_unit _ rfl _ _ 152 rfl 9 153 strLaw Tryz.underlying152 (zeroUnit _) w.heap.size m _ rfl (hown.alloc _) _ _ rfl HK.out ?_; rw [h2])
            go_roundw
            case rel => exact ⟨j + 1, by omega, by go_num, by rw [HV.out, hh]; go_num, (hown.alloc _).alloc _, hbx.alloc hbx.size _⟩
            case measure => simp [intOf]; omega
          · have h2 : Maps.has D (.string x.key) = true := HX.out.trans hh
            go_wp2_with (at_lookup; refine wpList_lookup_own_unit _ rfl _ _ 152 rfl 9 153 strLaw Tryz.underlying152 (zeroUnit _) w.heap.size m _ rfl (hown.alloc _) _ _ rfl HK.out ?_; rw [h2])
            go_roundw
            case rel => exact ⟨j + 1, by omega, by go_num, by rw [HV.out, hh]; exact congrArg (Value.int .u64) (u64_add' s x.power), (hown.alloc _).alloc _, hbx.alloc hbx.size _⟩
            case measure => simp [intOf]; omega
        · have i2 : ¬ (j : Int) < (n : Int) := by omega
          have he : l.take j = l := List.take_of_length_le (by have := HN.out; omega)
          rw [he]
          clear he
          go_wp2
          go_ret
          exact ⟨rfl, hb⟩
end Go.Proofs.YtmphegeiclgjbaaGreatDoor
namespace Go.Proofs.YtmphegeiclgjbaaGreatDoor
set_option maxRecDepth 100000
open Go Go.RowKit

set_option maxHeartbeats 1000000 in
theorem power_any (v : Value) (l : List VD) (w : World) (hv : ValsAt w w.heap.size v l) :
    Calls Tryz.prog 63 #[v] w fun e w' => e = .returned (.int .u64 ((powerN l % 18446744073709551616 : Nat) : Int)) ∧ Below w.heap.size w w' := by
  obtain ⟨A, c, rfl, hc, hcm, hf, hp⟩ := hv
  unfold maxLen at hcm
  have HP := Lib.hid hp
  have HF := Lib.hid hf
  clear hp hf
  obtain ⟨n, hn⟩ : ∃ n, n = l.length := ⟨_, rfl⟩
  have HN := Lib.hid hn
  rw [← hn] at hc ⊢
  clear hn
  go_enter Tryz.func63, Tryz.ntmps63
  go_wp2
  go_loopw [3, 8] (fun s i wr => ∃ k : Nat, k ≤ n ∧ i = .int .i64 (k : Int) ∧ s = .int .u64 ((powerN (l.take k) % 18446744073709551616 : Nat) : Int) ∧ Below w.heap.size w wr)
    (fun _ i _ => n - (intOf i).toNat)
  case atStart => exact ⟨0, Nat.zero_le _, rfl, rfl, Below.refl _ _⟩
  case round =>
    obtain ⟨k, hk, rfl, rfl, hb⟩ := hrel
    by_cases hlt : k < n
    · obtain ⟨b, o, rfl, hbl, hcell⟩ := HP.out (by have := HN.out; omega)
      have hkl : k < l.length := by have := HN.out; omega
      have hat := hcell k (by have := HN.out; omega)
      have HV := Lib.hid (show powerN (l.take (k + 1)) = powerN (l.take k) + l[k].power from by unfold powerN; rw [vsum_take _ _ _ hkl, if_pos rfl])
      have c0 := (hb.cell (p := ⟨b, o + k * 2, none⟩) hbl).trans hat.1
      have c1 := (hb.cell (p := ⟨b, o + k * 2 + 1, none⟩) hbl).trans hat.2
      have hpw : l[k].power < 18446744073709551616 := (HF.out _ (List.getElem_mem hkl)).2
      have hbx := val_box hb l[k]
      clear hcell hat HP
      generalize l[k] = x at *
      generalize powerN (l.take k) = s at *
      have i1 : (0 : Int) ≤ (k : Int) := by omega
      have i2 : (k : Int) < (n : Int) := by omega
      go_wp2
      go_roundw
      case rel => exact ⟨k + 1, by omega, by go_num, by rw [HV.out]; exact congrArg (Value.int .u64) (u64_add' s x.power), hbx⟩
      case measure => simp [intOf]; omega
    · have i2 : ¬ (k : Int) < (n : Int) := by omega
      have he : l.take k = l := List.take_of_length_le (by have := HN.out; omega)
      rw [he]
      clear he
      go_wp2
      go_ret
      exact ⟨rfl, hb⟩
end Go.Proofs.YtmphegeiclgjbaaGreatDoor
namespace Go.Proofs.YtmphegeiclgjbaaGreatDoor
set_option maxRecDepth 100000
open Go Go.RowKit

theorem third_no {l : List VD} {vs : List (List UInt8)} (h : rightB l = false) : thirdB l vs = false := by simp [thirdB, h]
theorem quorum_no {l : List VD} {vs : List (List UInt8)} (h : rightB l = false) : quorumB l vs = false := by simp [quorumB, h]
theorem third_is {l : List VD} {vs : List (List UInt8)} (h : rightB l = true) : thirdB l vs = decide (powerN l < 3 * votedN l vs) := by simp [thirdB, h]
theorem quorum_is {l : List VD} {vs : List (List UInt8)} (h : rightB l = true) : quorumB l vs = decide (2 * powerN l < 3 * votedN l vs) := by simp [quorumB, h]

set_option maxHeartbeats 1000000 in
theorem quorum_any (v vs : Value) (l : List VD) (ss : List ByteArray) (w : World) (hv : ValsAt w w.heap.size v l) (hs : StrsAt w w.heap.size vs ss) :
    Calls Tryz.prog 19 #[v, vs] w fun e w' => e = .returned (.bool (quorumB l (keysOf ss))) ∧ Below w.heap.size w w' := by
  have HR := Lib.hid (vlright_any v l w hv)
  obtain ⟨A, c, rfl⟩ := hv.form
  obtain ⟨A', c', rfl⟩ := hs.form
  cases hr : rightB l with
  | false =>
    rw [quorum_no hr]
    go_enter Tryz.func19, Tryz.ntmps19
    go_wp2_with fail
    refine HR.out.mono ?_
    rintro e w1 ⟨rfl, hb1⟩
    rw [hr]
    go_wp2
    go_ret
    exact ⟨rfl, hb1⟩
  | true =>
    rw [quorum_is hr]
    have hpl := power_le hr
    have hvl := voted_le (l := l) (keysOf ss)
    obtain ⟨a, ha⟩ : ∃ a, a = votedN l (keysOf ss) := ⟨_, rfl⟩
    obtain ⟨p, hp⟩ : ∃ p, p = powerN l := ⟨_, rfl⟩
    have HV := Lib.hid (fun W h1 h2 => voted_any (.slice A l.length c) (.slice A' ss.length c') l ss W h1 h2)
    have HW := Lib.hid (fun W h1 => power_any (.slice A l.length c) l W h1)
    rw [← ha, Nat.mod_eq_of_lt (by omega)] at HV
    rw [← hp, Nat.mod_eq_of_lt (by omega)] at HW
    rw [← ha, ← hp] at hvl ⊢
    rw [← hp] at hpl
    clear ha hp
    have w1 : IntKind.u64.wrap (3 * (a : Int)) = 3 * (a : Int) := by rw [IntKind.wrap_u64]; omega
    have w2 : IntKind.u64.wrap (2 * (p : Int)) = 2 * (p : Int) := by rw [IntKind.wrap_u64]; omega
    by_cases hd : 2 * p < 3 * a
    · rw [decide_eq_true hd]
      have d1 : (2 : Int) * (p : Int) < 3 * (a : Int) := by omega
      have d2 : decide ((2 : Int) * (p : Int) < 3 * (a : Int)) = true := decide_eq_true d1
      clear hd
      go_enter Tryz.func19, Tryz.ntmps19
      go_wp2_with fail
      refine HR.out.mono ?_
      rintro e w1 ⟨rfl, hb1⟩
      rw [hr]
      go_wp2_with fail
      refine (HV.out _ (hv.up (Nat.le_refl _) hb1) (hs.up (Nat.le_refl _) hb1)).mono ?_
      rintro e w2 ⟨rfl, hb2⟩
      have hb3 := below_chain hb1 hb1.size hb2
      go_wp2_with fail
      refine (HW.out _ (hv.up (Nat.le_refl _) hb3)).mono ?_
      rintro e w3 ⟨rfl, hb4⟩
      have hb5 := below_chain hb3 hb3.size hb4
      go_wp2
      go_ret
      exact ⟨rfl, hb5⟩
    · rw [decide_eq_false hd]
      have d1 : ¬ (2 : Int) * (p : Int) < 3 * (a : Int) := by omega
      have d2 : decide ((2 : Int) * (p : Int) < 3 * (a : Int)) = false := decide_eq_false d1
      clear hd
      go_enter Tryz.func19, Tryz.ntmps19
      go_wp2_with fail
      refine HR.out.mono ?_
      rintro e w1 ⟨rfl, hb1⟩
      rw [hr]
      go_wp2_with fail
      refine (HV.out _ (hv.up (Nat.le_refl _) hb1) (hs.up (Nat.le_refl _) hb1)).mono ?_
      rintro e w2 ⟨rfl, hb2⟩
      have hb3 := below_chain hb1 hb1.size hb2
      go_wp2_with fail
      refine (HW.out _ (hv.up (Nat.le_refl _) hb3)).mono ?_
      rintro e w3 ⟨rfl, hb4⟩
      have hb5 := below_chain hb3 hb3.size hb4
      go_wp2
      go_ret
      exact ⟨rfl, hb5⟩
end Go.Proofs.YtmphegeiclgjbaaGreatDoor
namespace Go.Proofs.YtmphegeiclgjbaaGreatDoor
set_option maxRecDepth 100000
open Go Go.RowKit

set_option maxHeartbeats 1000000 in
theorem third_any (v vs : Value) (l : List VD) (ss : List ByteArray) (w : World) (hv : ValsAt w w.heap.size v l) (hs : StrsAt w w.heap.size vs ss) :
    Calls Tryz.prog 20 #[v, vs] w fun e w' => e = .returned (.bool (thirdB l (keysOf ss))) ∧ Below w.heap.size w w' := by
  have HR := Lib.hid (vlright_any v l w hv)
  obtain ⟨A, c, rfl⟩ := hv.form
  obtain ⟨A', c', rfl⟩ := hs.form
  cases hr : rightB l with
  | false =>
    rw [third_no hr]
    go_enter Tryz.func20, Tryz.ntmps20
    go_wp2_with fail
    refine HR.out.mono ?_
    rintro e w1 ⟨rfl, hb1⟩
    rw [hr]
    go_wp2
    go_ret
    exact ⟨rfl, hb1⟩
  | true =>
    rw [third_is hr]
    have hpl := power_le hr
    have hvl := voted_le (l := l) (keysOf ss)
    obtain ⟨a, ha⟩ : ∃ a, a = votedN l (keysOf ss) := ⟨_, rfl⟩
    obtain ⟨p, hp⟩ : ∃ p, p = powerN l := ⟨_, rfl⟩
    have HV := Lib.hid (fun W h1 h2 => voted_any (.slice A l.length c) (.slice A' ss.length c') l ss W h1 h2)
    have HW := Lib.hid (fun W h1 => power_any (.slice A l.length c) l W h1)
    rw [← ha, Nat.mod_eq_of_lt (by omega)] at HV
    rw [← hp, Nat.mod_eq_of_lt (by omega)] at HW
    rw [← ha, ← hp] at hvl ⊢
    rw [← hp] at hpl
    clear ha hp
    have w1 : IntKind.u64.wrap (3 * (a : Int)) = 3 * (a : Int) := by rw [IntKind.wrap_u64]; omega
    by_cases hd : p < 3 * a
    · rw [decide_eq_true hd]
      have d1 : (p : Int) < 3 * (a : Int) := by omega
      have d2 : decide ((p : Int) < 3 * (a : Int)) = true := decide_eq_true d1
      clear hd
      go_enter Tryz.func20, Tryz.ntmps20
      go_wp2_with fail
      refine HR.out.mono ?_
      rintro e w1 ⟨rfl, hb1⟩
      rw [hr]
      go_wp2_with fail
      refine (HV.out _ (hv.up (Nat.le_refl _) hb1) (hs.up (Nat.le_refl _) hb1)).mono ?_
      rintro e w2 ⟨rfl, hb2⟩
      have hb3 := below_chain hb1 hb1.size hb2
      go_wp2_with fail
      refine (HW.out _ (hv.up (Nat.le_refl _) hb3)).mono ?_
      rintro e w3 ⟨rfl, hb4⟩
      have hb5 := below_chain hb3 hb3.size hb4
      go_wp2
      go_ret
      exact ⟨rfl, hb5⟩
    · rw [decide_eq_false hd]
      have d1 : ¬ (p : Int) < 3 * (a : Int) := by omega
      have d2 : decide ((p : Int) < 3 * (a : Int)) = false := decide_eq_false d1
      clear hd
      go_enter Tryz.func20, Tryz.ntmps20
      go_wp2_with fail
      refine HR.out.mono ?_
      rintro e w1 ⟨rfl, hb1⟩
      rw [hr]
      go_wp2_with fail
      refine (HV.out _ (hv.up (Nat.le_refl _) hb1) (hs.up (Nat.le_refl _) hb1)).mono ?_
      rintro e w2 ⟨rfl, hb2⟩
      have hb3 := below_chain hb1 hb1.size hb2
      go_wp2_with fail
      refine (HW.out _ (hv.up (Nat.le_refl _) hb3)).mono ?_
      rintro e w3 ⟨rfl, hb4⟩
      have hb5 := below_chain hb3 hb3.size hb4
      go_wp2
      go_ret
      exact ⟨rfl, hb5⟩
end Go.Proofs.YtmphegeiclgjbaaGreatDoor
