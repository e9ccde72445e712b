/- The walk of package vals: Right. -/
import Derived.Test.YtapfjkbbgamkoaaDoorValA
import Derived.Test.YtapfjkbbgamkoaaDoorNameI
import Derived.LoopTactic
import Derived.BigQuiet
import Derived.Deep.QuietTactic
import Derived.WalkLawsBesides
namespace Go.Proofs.YtapfjkbbgamkoaaDoor
open Go Go.RowKit

set_option maxHeartbeats 4000000 in
set_option maxRecDepth 100000 in
theorem right_any (v : Value) (l : List VD) (w : World) (hv : ValsAt w w.heap.size v l) :
    Calls Tryd.prog 11 #[v] w fun e w' => e = .returned (.bool (rightB l)) ∧ Below w.heap.size w w' := by
  obtain ⟨A, c, rfl, hc, hcm, hf, hp⟩ := hv
  unfold maxLen at hcm
  have HP := Lib.hid hp
  have HF := Lib.hid hf
  clear hp hf
  have hshort := @rightB_short l
  obtain ⟨n, hn⟩ : ∃ n, n = l.length := ⟨_, rfl⟩
  have HN := Lib.hid hn
  rw [← hn] at hc hshort ⊢
  clear hn
  by_cases h1 : n < 1
  · have hr := hshort (.inl h1)
    clear hshort
    have e1 : (n : Int) < 1 := by omega
    have d1 : decide ((n : Int) < 1) = true := decide_eq_true e1
    rw [hr]
    clear hr
    go_enter Tryd.func11, Tryd.ntmps11
    go_wp2
    go_ret
    exact ⟨rfl, Below.refl _ _⟩
  by_cases h8 : 8 < n
  · have hr := hshort (.inr h8)
    clear hshort
    have e1 : ¬ (n : Int) < 1 := by omega
    have d1 : decide ((n : Int) < 1) = false := decide_eq_false e1
    have e2 : (8 : Int) < (n : Int) := by omega
    rw [hr]
    clear hr
    go_enter Tryd.func11, Tryd.ntmps11
    go_wp2
    go_ret
    exact ⟨rfl, Below.refl _ _⟩
  have e1 : ¬ (n : Int) < 1 := by omega
  have d1 : decide ((n : Int) < 1) = false := decide_eq_false e1
  have e2 : ¬ (8 : Int) < (n : Int) := by omega
  clear hshort
  go_enter Tryd.func11, Tryd.ntmps11
  go_wp2
  go_loopw [15] (fun i wr => ∃ k : Nat, k ≤ n ∧ i = .int .i64 (k : Int) ∧ (∀ j, j < k → goodAt l j = true) ∧ Below w.heap.size w wr)
    (fun i _ => n - (intOf i).toNat)
  case atStart => exact ⟨0, Nat.zero_le _, rfl, fun j hj => absurd hj (by omega), Below.refl _ _⟩
  case round =>
    obtain ⟨k, hk, rfl, hgood, hb⟩ := hrel
    have HG := Lib.hid hgood
    clear hgood
    by_cases hlt : k < n
    · obtain ⟨b, o, rfl, hbl, hcell⟩ := HP.out (by have := HN.out; omega)
      have hkl : k < l.length := by have := HN.out; omega
      have hat := hcell k hkl
      have c0 := (hb.cell (p := ⟨b, o + k * 2, none⟩) hbl).trans hat.1
      have c1 := (hb.cell (p := ⟨b, o + k * 2 + 1, none⟩) hbl).trans hat.2
      have hfit := HF.out _ (List.getElem_mem hkl)
      have hbx := val_box hb l[k]
      have hsz := hfit.1
      have hpw := hfit.2
      have i1 : (0 : Int) ≤ (k : Int) := by omega
      have i2 : (k : Int) < (n : Int) := by omega
      cases hid : identL l[k].key with
      | false =>
        have HR := Lib.hid (rightB_not hkl (okV_name hid))
        have hid' : identL l[k].name.data.toList = false := hid
        clear hid hat hcell hfit HG
        generalize l[k] = x at *
        have HI := Lib.hid (ident_any x.name · hsz)
        clear hsz
        go_wp2_with (go_at_call 30; refine (HI.out _).mono ?_; rintro e w' ⟨rfl, rfl⟩; rw [hid'])
        go_ret
        exact ⟨by rw [HR.out]; rfl, hbx⟩
      | true =>
        have hid' : identL l[k].name.data.toList = true := hid
        by_cases p1 : l[k].power < 1
        · have HR := Lib.hid (rightB_not hkl (okV_low p1))
          have q1 : (l[k].power : Int) < 1 := by omega
          have d3 : decide ((l[k].power : Int) < 1) = true := decide_eq_true q1
          clear hid hat hcell hfit HG p1
          generalize l[k] = x at *
          have HI := Lib.hid (ident_any x.name · hsz)
          clear hsz
          go_wp2_with (go_at_call 30; refine (HI.out _).mono ?_; rintro e w' ⟨rfl, rfl⟩; rw [hid'])
          go_ret
          exact ⟨by rw [HR.out]; rfl, hbx⟩
        by_cases p2 : 4294967296 < l[k].power
        · have HR := Lib.hid (rightB_not hkl (okV_high p2))
          have q1 : ¬ (l[k].power : Int) < 1 := by omega
          have d3 : decide ((l[k].power : Int) < 1) = false := decide_eq_false q1
          have q2 : (4294967296 : Int) < (l[k].power : Int) := by omega
          have d4 : decide ((4294967296 : Int) < (l[k].power : Int)) = true := decide_eq_true q2
          clear hid hat hcell hfit HG p1 p2
          generalize l[k] = x at *
          have HI := Lib.hid (ident_any x.name · hsz)
          clear hsz
          go_wp2_with (go_at_call 30; refine (HI.out _).mono ?_; rintro e w' ⟨rfl, rfl⟩; rw [hid'])
          go_ret
          exact ⟨by rw [HR.out]; rfl, hbx⟩
        have hok := okV_yes hid p1 p2
        have q1 : ¬ (l[k].power : Int) < 1 := by omega
        have d3 : decide ((l[k].power : Int) < 1) = false := decide_eq_false q1
        have q2 : ¬ (4294967296 : Int) < (l[k].power : Int) := by omega
        have d4 : decide ((4294967296 : Int) < (l[k].power : Int)) = false := decide_eq_false q2
        clear p1 p2 hid
        by_cases hk0 : k = 0
        · subst hk0
          have HN0 := Lib.hid ((good_zero hkl).trans hok)
          rw [Nat.zero_mul, Nat.add_zero] at c0 c1
          clear hok hat hcell hfit HG
          generalize l[0] = x at *
          have HI := Lib.hid (ident_any x.name · hsz)
          clear hsz
          go_wp2_with (go_at_call 30; refine (HI.out _).mono ?_; rintro e w' ⟨rfl, rfl⟩; rw [hid'])
          go_quiet (fail)
          go_wp2
          go_roundw
          case rel => exact ⟨1, by omega, by go_num, (fun j hj => (show j = 0 by omega) ▸ HN0.out), below_drewN' hbx _⟩
          case measure => simp [intOf]; omega
        · obtain ⟨j, hj⟩ : ∃ j, k = j + 1 := ⟨k - 1, by omega⟩
          have hjl : j < l.length := by omega
          have hat2 := hcell j hjl
          have g0 := (hbx.cell (p := ⟨b, o + j * 2, none⟩) hbl).trans hat2.1
          have HO := Lib.hid (show lessV l[j] l[k] = false → rightB l = false from by subst hj; exact rightB_order hkl)
          have HN1 := Lib.hid (show lessV l[j] l[k] = true → goodAt l k = true from by subst hj; intro h; rw [good_succ hkl, hok, h]; rfl)
          have w1 : IntKind.i64.wrap ((k : Int) - 1) = (j : Int) := by rw [IntKind.wrap_i64]; omega
          have j1 : (0 : Int) ≤ (j : Int) := by omega
          have j2 : (j : Int) < (n : Int) := by omega
          have j3 : (0 : Int) < (k : Int) := by omega
          have j4 : decide ((0 : Int) < (k : Int)) = true := decide_eq_true j3
          have j5 : decide (0 < k) = true := decide_eq_true (by omega)
          clear hj hk0
          cases hle : lessV l[j] l[k] with
          | false =>
            have HR := Lib.hid (HO.out hle)
            have hle' : Op.bytesLess l[j].name.toList l[k].name.toList = false := hle
            clear hok hat hat2 hcell hfit HG hle HO HN1
            generalize l[k] = x at *
            generalize l[j] = y at *
            have HI := Lib.hid (ident_any x.name · hsz)
            clear hsz
            go_wp2_with (go_at_call 30; refine (HI.out _).mono ?_; rintro e w' ⟨rfl, rfl⟩; rw [hid'])
            go_quiet (fail)
            go_wp2
            go_ret
            exact ⟨by rw [HR.out]; rfl, below_drewN' hbx _⟩
          | true =>
            have HN0 := Lib.hid (HN1.out hle)
            have hle' : Op.bytesLess l[j].name.toList l[k].name.toList = true := hle
            clear hok hat hat2 hcell hfit hle HO HN1
            generalize l[k] = x at *
            generalize l[j] = y at *
            have HI := Lib.hid (ident_any x.name · hsz)
            clear hsz
            go_wp2_with (go_at_call 30; refine (HI.out _).mono ?_; rintro e w' ⟨rfl, rfl⟩; rw [hid'])
            go_quiet (fail)
            go_wp2
            go_roundw
            case rel => exact ⟨k + 1, by omega, by go_num, (fun i hi => (Nat.lt_or_eq_of_le (Nat.le_of_lt_succ hi)).elim (fun h => HG.out i h) (fun h => h ▸ HN0.out)), below_drewN' hbx _⟩
            case measure => simp [intOf]; omega
    · have i2 : ¬ (k : Int) < (n : Int) := by omega
      have HR := Lib.hid (rightB_yes (l := l) (by have := HN.out; omega) (by have := HN.out; omega) (fun i hi => HG.out i (by have := HN.out; omega)))
      clear HG
      go_wp2
      go_ret
      exact ⟨by rw [HR.out]; rfl, hb⟩
end Go.Proofs.YtapfjkbbgamkoaaDoor
