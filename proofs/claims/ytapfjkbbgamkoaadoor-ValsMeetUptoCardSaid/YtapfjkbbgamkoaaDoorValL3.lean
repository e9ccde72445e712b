/- The walk of the law: two quorums of one set have in common members that have more than a third; a vote more takes no quorum away. -/
import Derived.Test.YtapfjkbbgamkoaaDoorValF
import Derived.Test.YtapfjkbbgamkoaaDoorValS
import Derived.Test.YtapfjkbbgamkoaaDoorValK
import Derived.LoopTactic
namespace Go.Proofs.YtapfjkbbgamkoaaDoor
open Go Go.RowKit

/-- the texts behind the rounds: those of the first i of a that b has, too -/
def MeetS (a b : List ByteArray) (i : Nat) (C : List ByteArray) : Prop := ∀ k, k ∈ keysOf (a.take i) → k ∈ keysOf b → k ∈ keysOf C
/-- and within a round -/
def MeetT (b : List ByteArray) (s : ByteArray) (j : Nat) (C : List ByteArray) : Prop := s.data.toList ∈ keysOf (b.take j) → s.data.toList ∈ keysOf C
theorem MeetS.snoc {a b C : List ByteArray} {i : Nat} (h : MeetS a b i C) (s : ByteArray) : MeetS a b i (C ++ [s]) := fun k h1 h2 => mem_snoc C s k (.inl (h k h1 h2))
theorem MeetS.next {a b C : List ByteArray} {i : Nat} (hi : i < a.length) (h : MeetS a b i C) (ht : MeetT b a[i] b.length C) : MeetS a b (i + 1) C := by
  intro k h1 h2
  rcases mem_take hi h1 with h1 | h1
  · exact h k h1 h2
  · subst h1
    exact ht (by rw [List.take_length]; exact h2)
theorem MeetT.hit {b C : List ByteArray} {s : ByteArray} {j : Nat} : MeetT b s j (C ++ [s]) := fun _ => mem_snoc C s _ (.inr rfl)
theorem MeetT.miss {b C : List ByteArray} {s : ByteArray} {j : Nat} (hj : j < b.length) (h : MeetT b s j C) (hne : ¬ s.data.toList = b[j].data.toList) : MeetT b s (j + 1) C := by
  intro h1
  rcases mem_take hj h1 with h1 | h1
  · exact h h1
  · exact absurd h1 hne

set_option maxHeartbeats 4000000 in
set_option maxRecDepth 100000 in
theorem meet_walk (v va vb : Value) (l : List VD) (aa bb : List ByteArray) (w : World) (hv : ValsAt w w.heap.size v l) (ha : StrsAt w w.heap.size va aa) (hb0 : StrsAt w w.heap.size vb bb) (hla : aa.length ≤ 1048576) (hlb : bb.length ≤ 1048576)
    (fr : TypeId × Nat × Nat) (hk : w.heap[0]? = some (.cells kVals fr.1 fr.2)) :
    Calls Tryd.prog 5 #[v, va, vb] w fun e w' => e = .returned (.bool true) ∧ Below w.heap.size w w' := by
  have hn0 := blk_lt hk
  obtain ⟨i0, hi, hz, hsize, hby⟩ := info_parts Tryd.infoStr
  obtain ⟨M, hM⟩ : ∃ M, M = bb ++ aa := ⟨_, rfl⟩
  have hin : ∀ k, k ∈ keysOf aa → k ∈ keysOf M := by rw [hM]; exact mem_behind aa bb
  obtain ⟨q, hq⟩ : ∃ q, q = quorumB l (keysOf aa) := ⟨_, rfl⟩
  obtain ⟨r, hr⟩ : ∃ r, r = quorumB l (keysOf bb) := ⟨_, rfl⟩
  have hQ1 : ∀ v v0 W, ValsAt W W.heap.size v l → StrsAt W W.heap.size v0 aa → Calls Tryd.prog 17 #[v, v0] W fun e w' => e = .returned (.bool q) ∧ Below W.heap.size W w' := by
    rw [hq]; exact fun v v0 W h h0 => quorum_any v v0 l aa W h h0
  have HQ1 := Lib.hid hQ1
  clear hQ1
  have hQ2 : q = true → ∀ v v0 W, ValsAt W W.heap.size v l → StrsAt W W.heap.size v0 M → Calls Tryd.prog 17 #[v, v0] W fun e w' => e = .returned (.bool true) ∧ Below W.heap.size W w' := by
    intro hqt; rw [← quorum_mono hin (hq.symm.trans hqt)]; exact fun v v0 W h h0 => quorum_any v v0 l M W h h0
  have HQ2 := Lib.hid hQ2
  clear hQ2
  have hQ3 : ∀ v v0 W, ValsAt W W.heap.size v l → StrsAt W W.heap.size v0 bb → Calls Tryd.prog 17 #[v, v0] W fun e w' => e = .returned (.bool r) ∧ Below W.heap.size W w' := by
    rw [hr]; exact fun v v0 W h h0 => quorum_any v v0 l bb W h h0
  have HQ3 := Lib.hid hQ3
  clear hQ3
  have hT : ∀ C : List ByteArray, q = true → r = true → MeetS aa bb aa.length C → ∀ v v0 W, ValsAt W W.heap.size v l → StrsAt W W.heap.size v0 C → Calls Tryd.prog 19 #[v, v0] W fun e w' => e = .returned (.bool true) ∧ Below W.heap.size W w' := by
    intro C hqt hrt hC; rw [← quorum_meet (c := keysOf C) (fun k h1 h2 => hC k (by rw [List.take_length]; exact h1) h2) (hq.symm.trans hqt) (hr.symm.trans hrt)]; exact fun v v0 W h h0 => third_any v v0 l C W h h0
  have HT := Lib.hid hT
  clear hT
  have HM := Lib.hid hM
  clear hq hr hin hM
  have h1 := ha
  obtain ⟨A, ca, rfl, hca, hcam, hfa, hpa⟩ := h1
  have h2 := hb0
  obtain ⟨B, cb, rfl, hcb, hcbm, hfb, hpb⟩ := h2
  unfold maxLen at hcam hcbm
  have HPA := Lib.hid hpa
  have HFA := Lib.hid hfa
  have HPB := Lib.hid hpb
  have HFB := Lib.hid hfb
  clear hpa hfa hpb hfb
  obtain ⟨n, hn⟩ : ∃ n, n = aa.length := ⟨_, rfl⟩
  have HN := Lib.hid hn
  obtain ⟨m, hm⟩ : ∃ m, m = bb.length := ⟨_, rfl⟩
  have HMM := Lib.hid hm
  rw [← hn] at hca ha hla ⊢
  rw [← hm] at hcb hb0 hlb ⊢
  clear hn hm
  obtain ⟨AV, cv, rfl⟩ := hv.form
  go_enter Tryd.func5, Tryd.ntmps5
  go_wp2_with fail
  refine (fixed_any w fr hk).mono ?_
  rintro e w1 ⟨rfl, hb1⟩
  go_wp2
  go_loopw [7, 16] (fun v7 i wr => ∃ (k : Nat) (C : List ByteArray), k ≤ n ∧ i = .int .i64 (k : Int) ∧ OwnS wr w.heap.size v7 C ∧ C.length ≤ k * m ∧ MeetS aa bb k C ∧ Below w.heap.size w wr)
    (fun _ i _ => n - (intOf i).toNat)
  case atStart => exact ⟨0, [], Nat.zero_le _, rfl, OwnS.nil _ _, by simp, fun k h => absurd h (by simp [keysOf]), hb1⟩
  case round =>
    clear hb1
    obtain ⟨k, C, hkn, rfl, ho, hlen, hms, hb⟩ := hrel
    have HS := Lib.hid hms
    clear hms
    by_cases hlt : k < n
    · obtain ⟨b, o, rfl, hbl, hcell⟩ := HPA.out (by have := HN.out; omega)
      have hkl : k < aa.length := by have := HN.out; omega
      have c0 := (hb.cell (p := ⟨b, o + k, none⟩) hbl).trans (hcell k hkl)
      have hsx := HFA.out _ (List.getElem_mem hkl)
      obtain ⟨X, hX⟩ : ∃ X, X = k * m := ⟨_, rfl⟩
      have hXl : X ≤ 1099511627776 := by rw [hX]; exact Nat.mul_le_mul (show k ≤ 1048576 by omega) hlb
      have hXs : X + m = (k + 1) * m := by rw [hX, Nat.succ_mul]
      rw [← hX] at hlen
      have HX := Lib.hid hXs
      have HNX := Lib.hid (fun (D : List ByteArray) h ht => MeetS.next (b := bb) (C := D) hkl h ht)
      clear hcell hX hXs
      generalize aa[k] = s at *
      have i1 : (0 : Int) ≤ (k : Int) := by omega
      have i2 : (k : Int) < (n : Int) := by omega
      go_wp2
      obtain ⟨wo, rfl⟩ : ∃ wo : World, wo = wr := ⟨_, rfl⟩
      go_loopw [7, 22] (fun v7 i wr => ∃ (j : Nat) (D : List ByteArray), j ≤ m ∧ i = .int .i64 (j : Int) ∧ OwnS wr w.heap.size v7 D ∧ D.length ≤ X + j ∧ MeetS aa bb k D ∧ MeetT bb s j D ∧ Below w.heap.size w wr)
        (fun _ i _ => m - (intOf i).toNat)
      case atStart => exact ⟨0, C, Nat.zero_le _, rfl, ho, by omega, HS.out, fun h => absurd h (by simp [keysOf]), hb⟩
      case round =>
        clear ho hb hlen HS
        obtain ⟨j, D, hjm, rfl, ho, hlen, hms, hmt, hb⟩ := hrel
        have HS := Lib.hid hms
        have HT2 := Lib.hid hmt
        clear hms hmt
        by_cases hlj : j < m
        · obtain ⟨b', o', rfl, hbl', hcell'⟩ := HPB.out (by have := HMM.out; omega)
          have hjl : j < bb.length := by have := HMM.out; omega
          have d0 := (hb.cell (p := ⟨b', o' + j, none⟩) hbl').trans (hcell' j hjl)
          have HMS := Lib.hid (fun hne => MeetT.miss hjl HT2.out hne)
          clear hcell'
          generalize bb[j] = u at *
          have j1 : (0 : Int) ≤ (j : Int) := by omega
          have j2 : (j : Int) < (m : Int) := by omega
          by_cases heq : s.data.toList = u.data.toList
          · have e1 := str_eq heq
            have e2 : s.toList = u.toList := by simpa using e1
            have hst := strs_one wr s hsx
            have hox := ho.alloc (.cells #[.string s] 9)
            have hbx := hb.alloc hb.size (.cells #[.string s] 9)
            have HST := Lib.hid hst
            clear hst heq ho hb
            go_wp2_with (at_builtin; refine wpList_append_strs rfl (.tmp 29) (.tmp 31) 23 rfl i0 Tryd.underlying23 hi hz hsize hby rfl hox rfl HST.out (by simp only [List.length_cons, List.length_nil]; omega) hbx.size ?_; intro v4 w4 ho4 hg4 _)
            have hb4 : Below w.heap.size w w4 := OwnS.below_grown hbx hox (Nat.le_refl _) hbx.size hg4
            clear hg4 hox hbx HST
            go_roundw
            case rel => exact ⟨j + 1, D ++ [s], by omega, by go_num, ho4, by simp only [List.length_append, List.length_cons, List.length_nil]; omega, HS.out.snoc s, MeetT.hit, hb4⟩
            case measure => simp [intOf]; omega
          · have e1 := str_ne heq
            have e2 : ¬ s.toList = u.toList := by simpa using e1
            have HE := Lib.hid heq
            clear heq
            go_wp2
            go_roundw
            case rel => exact ⟨j + 1, D, by omega, by go_num, ho, by omega, HS.out, HMS.out HE.out, hb⟩
            case measure => simp [intOf]; omega
        · have j2 : ¬ (j : Int) < (m : Int) := by omega
          go_wp2
          go_roundw
          case rel => exact ⟨k + 1, D, by omega, by go_num, ho, by have := HX.out; omega, HNX.out D HS.out (by have h1 := HT2.out; have h2 := HMM.out; rwa [show j = bb.length by omega] at h1), hb⟩
          case measure => simp [intOf]; omega
    · have i2 : ¬ (k : Int) < (n : Int) := by omega
      have HSC := Lib.hid (show MeetS aa bb aa.length C from by have h1 := HS.out; have h2 := HN.out; rwa [show k = aa.length by omega] at h1)
      have hs0 := ho.strs
      obtain ⟨A7, c7, rfl⟩ := ho.form
      clear ho HS
      go_wp2_with fail
      refine (HQ1.out _ _ _ (hv.up (Nat.le_refl _) hb) (ha.up (Nat.le_refl _) hb)).mono ?_
      rintro e wc36 ⟨rfl, hc36⟩
      have hq36 := below_chain hb hb.size hc36
      have hs36x := hs0.up (Nat.le_refl _) hc36
      clear hc36 hb hs0
      cases q with
      | true =>
        have ho0 := owns_empty wc36
        have hbe : Below wc36.heap.size wc36 (wc36.alloc (.cells #[] 9)) := (Below.refl _ _).alloc (Nat.le_refl _) _
        have hsb := (hb0.up (Nat.le_refl _) hq36).up (Nat.le_refl _) hbe
        have haw := ha.up (Nat.le_refl _) hq36
        go_wp2_with (at_builtin; first
          | (refine wpList_append_strs rfl (.tmp 40) (.tmp 41) 23 rfl i0 Tryd.underlying23 hi hz hsize hby rfl ho0 rfl hsb (by have := HMM.out; simp only [List.length_nil]; omega) hbe.size ?_; intro v1 w1 ho1 hg1 _
             rw [List.nil_append] at ho1
             have hb1 : Below wc36.heap.size wc36 w1 := OwnS.below_grown hbe ho0 (Nat.le_refl _) hbe.size hg1
             have ha1 := haw.up (Nat.le_refl _) hb1
             obtain ⟨A1, c1, rfl⟩ := ho1.form
             clear hg1 ho0 hbe hsb)
          | (refine wpList_append_strs rfl (.tmp 42) (.tmp 43) 23 rfl i0 Tryd.underlying23 hi hz hsize hby rfl ho1 rfl ha1 (by have := HMM.out; have := HN.out; omega) hb1.size ?_; intro v2 w2 ho3 hg2 _
             have hb3 : Below wc36.heap.size wc36 w2 := OwnS.below_grown hb1 ho1 (Nat.le_refl _) hb1.size hg2
             rw [← HM.out] at ho3
             have hm3 := ho3.strs
             obtain ⟨A2, c2, rfl⟩ := ho3.form
             clear hg2 ho1 hb1 ha1 ho3))
        have hqz := below_chain hq36 hq36.size hb3
        have hsz := hs36x.up (Nat.le_refl _) hb3
        clear hb3 haw hq36 hs36x
        go_wp2_with fail
        refine (HQ2.out (by first | trivial | rfl) _ _ _ (hv.up (Nat.le_refl _) hqz) hm3).mono ?_
        rintro e wc37 ⟨rfl, hc37⟩
        have hq37 := below_chain hqz hqz.size hc37
        have hs37x := hsz.up (Nat.le_refl _) hc37
        have hs37m := hm3.up (Nat.le_refl _) hc37
        clear hc37 hqz hsz hm3
        go_wp2_with fail
        refine (HQ1.out _ _ _ (hv.up (Nat.le_refl _) hq37) (ha.up (Nat.le_refl _) hq37)).mono ?_
        rintro e wc38 ⟨rfl, hc38⟩
        have hq38 := below_chain hq37 hq37.size hc38
        have hs38x := hs37x.up (Nat.le_refl _) hc38
        clear hc38 hq37 hs37x
        go_wp2_with fail
        refine (HQ3.out _ _ _ (hv.up (Nat.le_refl _) hq38) (hb0.up (Nat.le_refl _) hq38)).mono ?_
        rintro e wc39 ⟨rfl, hc39⟩
        have hq39 := below_chain hq38 hq38.size hc39
        have hs39x := hs38x.up (Nat.le_refl _) hc39
        clear hc39 hq38 hs38x
        cases r with
        | true =>
          go_wp2_with fail
          refine (HT.out C (by first | trivial | rfl) (by first | trivial | rfl) HSC.out _ _ _ (hv.up (Nat.le_refl _) hq39) hs39x).mono ?_
          rintro e wc40 ⟨rfl, hc40⟩
          have hq40 := below_chain hq39 hq39.size hc40
          have hs40x := hs39x.up (Nat.le_refl _) hc40
          clear hc40 hq39 hs39x
          go_wp2_with fail
          go_ret
          exact ⟨rfl, hq40⟩
        | false =>
          go_wp2_with fail
          go_ret
          exact ⟨rfl, hq39⟩
      | false =>
        go_wp2_with fail
        refine (HQ1.out _ _ _ (hv.up (Nat.le_refl _) hq36) (ha.up (Nat.le_refl _) hq36)).mono ?_
        rintro e wc41 ⟨rfl, hc41⟩
        have hq41 := below_chain hq36 hq36.size hc41
        have hs41x := hs36x.up (Nat.le_refl _) hc41
        clear hc41 hq36 hs36x
        go_wp2_with fail
        go_ret
        exact ⟨rfl, hq41⟩
end Go.Proofs.YtapfjkbbgamkoaaDoor
