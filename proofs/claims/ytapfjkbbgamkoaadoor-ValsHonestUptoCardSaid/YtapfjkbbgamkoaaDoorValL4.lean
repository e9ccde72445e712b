/- The walk of the law: where less than a third is faulty, a quorum has somebody who is not. -/
import Derived.Test.YtapfjkbbgamkoaaDoorValF
import Derived.Test.YtapfjkbbgamkoaaDoorValS
import Derived.Test.YtapfjkbbgamkoaaDoorValK
import Derived.LoopTactic
namespace Go.Proofs.YtapfjkbbgamkoaaDoor
open Go Go.RowKit

/-- the texts behind the rounds: of the first i votes those that are not faulty -/
def HonS (a f : List ByteArray) (i : Nat) (C : List ByteArray) : Prop := ∀ k, k ∈ keysOf (a.take i) → k ∈ keysOf f ∨ k ∈ keysOf C
theorem HonS.bad {a f C : List ByteArray} {i : Nat} (hi : i < a.length) (h : HonS a f i C) (hb : a[i].data.toList ∈ keysOf f) : HonS a f (i + 1) C := by
  intro k h1
  rcases mem_take hi h1 with h1 | h1
  · exact h k h1
  · subst h1; exact .inl hb
theorem HonS.good {a f C : List ByteArray} {i : Nat} (hi : i < a.length) (h : HonS a f i C) : HonS a f (i + 1) (C ++ [a[i]]) := by
  intro k h1
  rcases mem_take hi h1 with h1 | h1
  · exact (h k h1).imp id fun h2 => mem_snoc C _ k (.inl h2)
  · exact .inr (mem_snoc C _ k (.inr h1))

set_option maxHeartbeats 4000000 in
set_option maxRecDepth 100000 in
theorem honest_walk (v va vb : Value) (l : List VD) (aa bb : List ByteArray) (w : World) (hv : ValsAt w w.heap.size v l) (ha : StrsAt w w.heap.size va aa) (hb0 : StrsAt w w.heap.size vb bb) (hla : aa.length ≤ 1048576) (hlb : bb.length ≤ 1048576)
    (fr : TypeId × Nat × Nat) (hk : w.heap[0]? = some (.cells kVals fr.1 fr.2)) :
    Calls Tryd.prog 8 #[v, va, vb] w fun e w' => e = .returned (.bool true) ∧ Below w.heap.size w w' := by
  have hn0 := blk_lt hk
  obtain ⟨i0, hi, hz, hsize, hby⟩ := info_parts Tryd.infoStr
  obtain ⟨q, hq⟩ : ∃ q, q = quorumB l (keysOf aa) := ⟨_, rfl⟩
  obtain ⟨a, hea⟩ : ∃ a, a = votedN l (keysOf bb) := ⟨_, rfl⟩
  obtain ⟨p, hep⟩ : ∃ p, p = powerN l := ⟨_, rfl⟩
  have hap : a ≤ p := by rw [hea, hep]; exact voted_le _
  have hpl : q = true → p ≤ 34359738368 := by
    intro h
    rw [hep]
    exact power_le (by rw [hq] at h; unfold quorumB at h; exact (Bool.and_eq_true _ _ ▸ h).1)
  have hQ1 : ∀ v v0 W, ValsAt W W.heap.size v l → StrsAt W W.heap.size v0 aa → Calls Tryd.prog 17 #[v, v0] W fun e w' => e = .returned (.bool q) ∧ Below W.heap.size W w' := by
    rw [hq]; exact fun v v0 W h h0 => quorum_any v v0 l aa W h h0
  have HQ1 := Lib.hid hQ1
  clear hQ1
  have hV1 : q = true → ∀ v v0 W, ValsAt W W.heap.size v l → StrsAt W W.heap.size v0 bb → Calls Tryd.prog 15 #[v, v0] W fun e w' => e = .returned (.int .u64 (a : Int)) ∧ Below W.heap.size W w' := by
    intro hrt; rw [← Nat.mod_eq_of_lt (show a < 18446744073709551616 from by have := hpl hrt; omega), hea]; exact fun v v0 W h h0 => voted_any v v0 l bb W h h0
  have HV1 := Lib.hid hV1
  clear hV1
  have hP : q = true → ∀ v W, ValsAt W W.heap.size v l → Calls Tryd.prog 13 #[v] W fun e w' => e = .returned (.int .u64 (p : Int)) ∧ Below W.heap.size W w' := by
    intro hrt; rw [← Nat.mod_eq_of_lt (show p < 18446744073709551616 from by have := hpl hrt; omega), hep]; exact fun v W h => power_any v l W h
  have HP := Lib.hid hP
  clear hP
  have hV2 : ∀ (C : List ByteArray), q = true → 3 * a < p → HonS aa bb aa.length C → ∃ c, c ≤ p ∧ p < 3 * c ∧ ∀ v v0 W, ValsAt W W.heap.size v l → StrsAt W W.heap.size v0 C → Calls Tryd.prog 15 #[v, v0] W fun e w' => e = .returned (.int .u64 (c : Int)) ∧ Below W.heap.size W w' := by
    intro C hqt hlt hC
    have hc := voted_le (l := l) (keysOf C)
    refine ⟨votedN l (keysOf C), by rw [hep]; exact hc, ?_, fun v v0 W h h0 => ?_⟩
    · rw [hep]
      exact honest_more (a := keysOf aa) (f := keysOf bb) (fun k h1 => hC k (by rw [List.take_length]; exact h1)) (hq.symm.trans hqt) (by rw [← hea, ← hep]; exact hlt)
    · have := voted_any v v0 l C W h h0
      rw [← hep] at hc
      rwa [Nat.mod_eq_of_lt (show votedN l (keysOf C) < 18446744073709551616 from by have := hpl hqt; omega)] at this
  have HV2 := Lib.hid hV2
  have HPL := Lib.hid hpl
  clear hV2 hq hea hep hpl
  have h1 := ha
  obtain ⟨A, ca, rfl, hca, hcam, hfa, hpa⟩ := h1
  have h2 := hb0
  obtain ⟨B, cb, rfl, hcb, hcbm, hfb, hpb⟩ := h2
  unfold maxLen at hcam hcbm
  have HPA := Lib.hid hpa
  have HFA := Lib.hid hfa
  have HPB := Lib.hid hpb
  clear hpa hfa hpb hfb
  obtain ⟨n, hn⟩ : ∃ n, n = aa.length := ⟨_, rfl⟩
  have HN := Lib.hid hn
  obtain ⟨m, hm⟩ : ∃ m, m = bb.length := ⟨_, rfl⟩
  have HMM := Lib.hid hm
  rw [← hn] at hca ha hla ⊢
  rw [← hm] at hcb hb0 hlb ⊢
  clear hn hm
  obtain ⟨AV, cv, rfl⟩ := hv.form
  cases q with
  | false =>
    go_enter Tryd.func8, Tryd.ntmps8
    go_wp2_with fail
    refine (fixed_any w fr hk).mono ?_
    rintro e w1 ⟨rfl, hb1⟩
    go_wp2_with fail
    refine (HQ1.out _ _ _ (hv.up (Nat.le_refl _) hb1) (ha.up (Nat.le_refl _) hb1)).mono ?_
    rintro e wc42 ⟨rfl, hc42⟩
    have hq42 := below_chain hb1 hb1.size hc42
    clear hc42 hb1
    go_wp2_with fail
    refine (fixed_any wc42 fr ((hq42.block 0 hn0).trans hk)).mono ?_
    rintro e wc43 ⟨rfl, hc43⟩
    have hq43 := below_chain hq42 hq42.size hc43
    clear hc43 hq42
    go_wp2_with fail
    go_ret
    exact ⟨rfl, hq43⟩
  | true =>
    have hpm := HPL.out rfl
    have m1 : IntKind.u64.wrap (3 * (a : Int)) = 3 * (a : Int) := by rw [IntKind.wrap_u64]; omega
    by_cases hd : p ≤ 3 * a
    · have d1 : (p : Int) ≤ 3 * (a : Int) := by omega
      have d2 : decide ((p : Int) ≤ 3 * (a : Int)) = true := decide_eq_true d1
      clear hd
      go_enter Tryd.func8, Tryd.ntmps8
      go_wp2_with fail
      refine (fixed_any w fr hk).mono ?_
      rintro e w1 ⟨rfl, hb1⟩
      go_wp2_with fail
      refine (HQ1.out _ _ _ (hv.up (Nat.le_refl _) hb1) (ha.up (Nat.le_refl _) hb1)).mono ?_
      rintro e wc44 ⟨rfl, hc44⟩
      have hq44 := below_chain hb1 hb1.size hc44
      clear hc44 hb1
      go_wp2_with fail
      refine (HV1.out (by first | trivial | rfl) _ _ _ (hv.up (Nat.le_refl _) hq44) (hb0.up (Nat.le_refl _) hq44)).mono ?_
      rintro e wc45 ⟨rfl, hc45⟩
      have hq45 := below_chain hq44 hq44.size hc45
      clear hc45 hq44
      go_wp2_with fail
      refine (HP.out (by first | trivial | rfl) _ _ (hv.up (Nat.le_refl _) hq45)).mono ?_
      rintro e wc46 ⟨rfl, hc46⟩
      have hq46 := below_chain hq45 hq45.size hc46
      clear hc46 hq45
      go_wp2_with fail
      refine (fixed_any wc46 fr ((hq46.block 0 hn0).trans hk)).mono ?_
      rintro e wc47 ⟨rfl, hc47⟩
      have hq47 := below_chain hq46 hq46.size hc47
      clear hc47 hq46
      go_wp2_with fail
      go_ret
      exact ⟨rfl, hq47⟩
    · have HLT := Lib.hid (show 3 * a < p by omega)
      have d1 : ¬ (p : Int) ≤ 3 * (a : Int) := by omega
      have d2 : decide ((p : Int) ≤ 3 * (a : Int)) = false := decide_eq_false d1
      clear hd
      go_enter Tryd.func8, Tryd.ntmps8
      go_wp2_with fail
      refine (fixed_any w fr hk).mono ?_
      rintro e w1 ⟨rfl, hb1⟩
      go_wp2_with fail
      refine (HQ1.out _ _ _ (hv.up (Nat.le_refl _) hb1) (ha.up (Nat.le_refl _) hb1)).mono ?_
      rintro e wc48 ⟨rfl, hc48⟩
      have hq48 := below_chain hb1 hb1.size hc48
      clear hc48 hb1
      go_wp2_with fail
      refine (HV1.out (by first | trivial | rfl) _ _ _ (hv.up (Nat.le_refl _) hq48) (hb0.up (Nat.le_refl _) hq48)).mono ?_
      rintro e wc49 ⟨rfl, hc49⟩
      have hq49 := below_chain hq48 hq48.size hc49
      clear hc49 hq48
      go_wp2_with fail
      refine (HP.out (by first | trivial | rfl) _ _ (hv.up (Nat.le_refl _) hq49)).mono ?_
      rintro e wc50 ⟨rfl, hc50⟩
      have hq50 := below_chain hq49 hq49.size hc50
      clear hc50 hq49
      go_wp2
      go_loopw [7, 33] (fun v7 i wr => ∃ (k : Nat) (C : List ByteArray), k ≤ n ∧ i = .int .i64 (k : Int) ∧ OwnS wr w.heap.size v7 C ∧ C.length ≤ k ∧ HonS aa bb k C ∧ Below w.heap.size w wr)
        (fun _ i _ => n - (intOf i).toNat)
      case atStart => exact ⟨0, [], Nat.zero_le _, rfl, OwnS.nil _ _, by simp, fun k h => absurd h (by simp [keysOf]), hq50⟩
      case round =>
        clear hq50
        obtain ⟨k, C, hkn, rfl, ho, hlen, hms, hb⟩ := hrel
        have HS := Lib.hid hms
        clear hms
        by_cases hlt : k < n
        · obtain ⟨b, o, rfl, hbl, hcell⟩ := HPA.out (by have := HN.out; omega)
          have hkl : k < aa.length := by have := HN.out; omega
          have c0 := (hb.cell (p := ⟨b, o + k, none⟩) hbl).trans (hcell k hkl)
          have hsx := HFA.out _ (List.getElem_mem hkl)
          have HB1 := Lib.hid (fun h => HonS.bad hkl HS.out h)
          have HG1 := Lib.hid (HonS.good hkl HS.out)
          clear hcell HS
          generalize aa[k] = s at *
          have i1 : (0 : Int) ≤ (k : Int) := by omega
          have i2 : (k : Int) < (n : Int) := by omega
          go_wp2
          obtain ⟨wo, rfl⟩ : ∃ wo : World, wo = wr := ⟨_, rfl⟩
          go_loop [10, 39] (fun v10 i => ∃ (j : Nat) (x : Bool), j ≤ m ∧ i = .int .i64 (j : Int) ∧ v10 = .bool x ∧ x = badB bb s j)
            (fun _ i => m - (intOf i).toNat)
          case atStart => exact ⟨0, false, Nat.zero_le _, rfl, rfl, (badB_zero bb s).symm⟩
          case round =>
            obtain ⟨j, x, hjm, rfl, rfl, hx⟩ := hrel
            have HX := Lib.hid hx
            clear hx
            by_cases hlj : j < m
            · obtain ⟨b', o', rfl, hbl', hcell'⟩ := HPB.out (by have := HMM.out; omega)
              have hjl : j < bb.length := by have := HMM.out; omega
              have d0 := (hb.cell (p := ⟨b', o' + j, none⟩) hbl').trans (hcell' j hjl)
              have HY1 := Lib.hid (badB_more (f := bb) (s := s) hjl)
              have HY2 := Lib.hid (badB_hit (f := bb) (s := s) hjl)
              have HY3 := Lib.hid (badB_miss (f := bb) (s := s) hjl)
              clear hcell'
              generalize bb[j] = u at *
              have j1 : (0 : Int) ≤ (j : Int) := by omega
              have j2 : (j : Int) < (m : Int) := by omega
              cases x with
              | true =>
                go_wp2
                go_round
                case rel => exact ⟨j + 1, true, by omega, by go_num, rfl, (HY1.out HX.out.symm).symm⟩
                case measure => simp [intOf]; omega
              | false =>
                by_cases heq : s.data.toList = u.data.toList
                · have e1 := str_eq heq.symm
                  have e2 : u.toList = s.toList := by simpa using e1
                  have HE := Lib.hid heq
                  clear heq
                  go_wp2
                  go_round
                  case rel => exact ⟨j + 1, true, by omega, by go_num, rfl, (HY2.out HE.out).symm⟩
                  case measure => simp [intOf]; omega
                · have e1 := str_ne (Ne.symm heq)
                  have e2 : ¬ u.toList = s.toList := by simpa using e1
                  have HE := Lib.hid heq
                  clear heq
                  go_wp2
                  go_round
                  case rel => exact ⟨j + 1, false, by omega, by go_num, rfl, (HY3.out HX.out.symm HE.out).symm⟩
                  case measure => simp [intOf]; omega
            · have j2 : ¬ (j : Int) < (m : Int) := by omega
              have hjm2 : j = bb.length := by have := HMM.out; omega
              cases x with
              | true =>
                have HM2 := Lib.hid (badB_all (f := bb) (s := s) (by rw [← hjm2]; exact HX.out.symm))
                clear hjm2
                go_wp2
                go_roundw
                case rel => exact ⟨k + 1, C, by omega, by go_num, ho, by omega, HB1.out HM2.out, hb⟩
                case measure => simp [intOf]; omega
              | false =>
                have hst := strs_one wo s hsx
                have hox := ho.alloc (.cells #[.string s] 9)
                have hbx := hb.alloc hb.size (.cells #[.string s] 9)
                have HST := Lib.hid hst
                clear hst hjm2 ho hb
                go_wp2_with (at_builtin; refine wpList_append_strs rfl (.tmp 52) (.tmp 54) 23 rfl i0 Tryd.underlying23 hi hz hsize hby rfl hox rfl HST.out (by simp only [List.length_cons, List.length_nil]; omega) hbx.size ?_; intro v4 w4 ho4 hg4 _)
                have hb4 : Below w.heap.size w w4 := OwnS.below_grown hbx hox (Nat.le_refl _) hbx.size hg4
                clear hg4 hox hbx HST
                go_roundw
                case rel => exact ⟨k + 1, C ++ [s], by omega, by go_num, ho4, by simp only [List.length_append, List.length_cons, List.length_nil]; omega, HG1.out, hb4⟩
                case measure => simp [intOf]; omega
        · have i2 : ¬ (k : Int) < (n : Int) := by omega
          obtain ⟨cc, hcp, hcc, hV3⟩ := HV2.out C (by first | trivial | rfl) HLT.out (by have h1 := HS.out; have h2 := HN.out; rwa [show k = aa.length by omega] at h1)
          have HV3 := Lib.hid hV3
          have m2 : IntKind.u64.wrap (3 * (cc : Int)) = 3 * (cc : Int) := by rw [IntKind.wrap_u64]; omega
          have d3 : (p : Int) < 3 * (cc : Int) := by omega
          have d4 : decide ((p : Int) < 3 * (cc : Int)) = true := decide_eq_true d3
          have hs0 := ho.strs
          obtain ⟨A7, c7, rfl⟩ := ho.form
          clear ho HS hV3 hcc
          go_wp2_with fail
          refine (HV3.out _ _ _ (hv.up (Nat.le_refl _) hb) hs0).mono ?_
          rintro e wc51 ⟨rfl, hc51⟩
          have hq51 := below_chain hb hb.size hc51
          have hs51x := hs0.up (Nat.le_refl _) hc51
          clear hc51 hb hs0
          go_wp2_with fail
          refine (HP.out (by first | trivial | rfl) _ _ (hv.up (Nat.le_refl _) hq51)).mono ?_
          rintro e wc52 ⟨rfl, hc52⟩
          have hq52 := below_chain hq51 hq51.size hc52
          have hs52x := hs51x.up (Nat.le_refl _) hc52
          clear hc52 hq51 hs51x
          go_wp2_with fail
          go_ret
          exact ⟨rfl, hq52⟩
end Go.Proofs.YtapfjkbbgamkoaaDoor
