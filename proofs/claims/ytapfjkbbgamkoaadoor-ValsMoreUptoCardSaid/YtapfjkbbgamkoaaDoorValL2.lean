/- The walk of the law: a vote more never takes any away. -/
import Derived.Test.YtapfjkbbgamkoaaDoorValF
import Derived.Test.YtapfjkbbgamkoaaDoorValS
import Derived.Test.YtapfjkbbgamkoaaDoorValK
import Derived.LoopTactic
namespace Go.Proofs.YtapfjkbbgamkoaaDoor
open Go Go.RowKit

theorem mem_more (ss : List ByteArray) (s : ByteArray) (k : List UInt8) (h : k ∈ keysOf ss) : k ∈ keysOf (ss ++ [s]) := by
  simp only [keysOf, List.map_append, List.mem_append] at h ⊢
  exact .inl h
theorem mod_small {a p : Nat} (h : a ≤ p) (hp : p ≤ 34359738368) : a % 18446744073709551616 = a := Nat.mod_eq_of_lt (by omega)

set_option maxHeartbeats 4000000 in
set_option maxRecDepth 100000 in
theorem more_walk (v va : Value) (l : List VD) (ss : List ByteArray) (s : ByteArray) (w : World) (hv : ValsAt w w.heap.size v l) (ha : StrsAt w w.heap.size va ss) (hsz : s.size ≤ maxLen) (hl : ss.length ≤ 1048576)
    (fr : TypeId × Nat × Nat) (hk : w.heap[0]? = some (.cells kVals fr.1 fr.2)) :
    Calls Tryd.prog 7 #[v, va, .string s] w fun e w' => e = .returned (.bool true) ∧ Below w.heap.size w w' := by
  have hn0 := blk_lt hk
  obtain ⟨i0, hi, hz, hsize, hby⟩ := info_parts Tryd.infoStr
  obtain ⟨M, hM⟩ : ∃ M, M = ss ++ [s] := ⟨_, rfl⟩
  have hin : ∀ k, k ∈ keysOf ss → k ∈ keysOf M := by rw [hM]; exact mem_more ss s
  obtain ⟨q, hq⟩ : ∃ q, q = quorumB l (keysOf ss) := ⟨_, rfl⟩
  obtain ⟨t, ht⟩ : ∃ t, t = thirdB l (keysOf ss) := ⟨_, rfl⟩
  obtain ⟨r, hr⟩ : ∃ r, r = rightB l := ⟨_, rfl⟩
  obtain ⟨a, hea⟩ : ∃ a, a = votedN l (keysOf ss) := ⟨_, rfl⟩
  obtain ⟨b, heb⟩ : ∃ b, b = votedN l (keysOf M) := ⟨_, rfl⟩
  obtain ⟨p, hep⟩ : ∃ p, p = powerN l := ⟨_, rfl⟩
  have hab : a ≤ b := by rw [hea, heb]; exact voted_mono hin l
  have hbp : b ≤ p := by rw [heb, hep]; exact voted_le _
  have hpl : r = true → p ≤ 34359738368 := by rw [hr, hep]; exact power_le
  have hQ1 : ∀ v v0 W, ValsAt W W.heap.size v l → StrsAt W W.heap.size v0 ss → Calls Tryd.prog 17 #[v, v0] W fun e w' => e = .returned (.bool q) ∧ Below W.heap.size W w' := by
    rw [hq]; exact fun v v0 W h h0 => quorum_any v v0 l ss W h h0
  have HQ1 := Lib.hid hQ1
  clear hQ1
  have hQ2 : q = true → ∀ v v0 W, ValsAt W W.heap.size v l → StrsAt W W.heap.size v0 M → Calls Tryd.prog 17 #[v, v0] W fun e w' => e = .returned (.bool true) ∧ Below W.heap.size W w' := by
    intro hqt; rw [← quorum_mono hin (hq.symm.trans hqt)]; exact fun v v0 W h h0 => quorum_any v v0 l M W h h0
  have HQ2 := Lib.hid hQ2
  clear hQ2
  have hT1 : ∀ v v0 W, ValsAt W W.heap.size v l → StrsAt W W.heap.size v0 ss → Calls Tryd.prog 19 #[v, v0] W fun e w' => e = .returned (.bool t) ∧ Below W.heap.size W w' := by
    rw [ht]; exact fun v v0 W h h0 => third_any v v0 l ss W h h0
  have HT1 := Lib.hid hT1
  clear hT1
  have hT2 : t = true → ∀ v v0 W, ValsAt W W.heap.size v l → StrsAt W W.heap.size v0 M → Calls Tryd.prog 19 #[v, v0] W fun e w' => e = .returned (.bool true) ∧ Below W.heap.size W w' := by
    intro hqt; rw [← third_mono hin (ht.symm.trans hqt)]; exact fun v v0 W h h0 => third_any v v0 l M W h h0
  have HT2 := Lib.hid hT2
  clear hT2
  have hR : ∀ v W, ValsAt W W.heap.size v l → Calls Tryd.prog 11 #[v] W fun e w' => e = .returned (.bool r) ∧ Below W.heap.size W w' := by
    rw [hr]; exact fun v W h => right_any v l W h
  have HR := Lib.hid hR
  clear hR
  have hV1 : r = true → ∀ v v0 W, ValsAt W W.heap.size v l → StrsAt W W.heap.size v0 ss → Calls Tryd.prog 15 #[v, v0] W fun e w' => e = .returned (.int .u64 (a : Int)) ∧ Below W.heap.size W w' := by
    intro hrt; rw [← mod_small (Nat.le_trans hab hbp) (hpl hrt), hea]; exact fun v v0 W h h0 => voted_any v v0 l ss W h h0
  have HV1 := Lib.hid hV1
  clear hV1
  have hV2 : r = true → ∀ v v0 W, ValsAt W W.heap.size v l → StrsAt W W.heap.size v0 M → Calls Tryd.prog 15 #[v, v0] W fun e w' => e = .returned (.int .u64 (b : Int)) ∧ Below W.heap.size W w' := by
    intro hrt; rw [← mod_small hbp (hpl hrt), heb]; exact fun v v0 W h h0 => voted_any v v0 l M W h h0
  have HV2 := Lib.hid hV2
  clear hV2
  have hP : r = true → ∀ v W, ValsAt W W.heap.size v l → Calls Tryd.prog 13 #[v] W fun e w' => e = .returned (.int .u64 (p : Int)) ∧ Below W.heap.size W w' := by
    intro hrt; rw [← mod_small (Nat.le_refl _) (hpl hrt), hep]; exact fun v W h => power_any v l W h
  have HP := Lib.hid hP
  clear hP
  have d1 : decide (a ≤ b) = true := decide_eq_true hab
  have d2 : decide (b ≤ p) = true := decide_eq_true hbp
  have HM := Lib.hid hM
  clear hq ht hr hea heb hep hpl hin hM
  have ho0 := owns_empty w
  have hb0 : Below w.heap.size w (w.alloc (.cells #[] 9)) := (Below.refl _ _).alloc (Nat.le_refl _) _
  have ha0 := ha.below hb0
  obtain ⟨A', c', rfl⟩ := ha.form
  obtain ⟨A, c, rfl⟩ := hv.form
  go_enter Tryd.func7, Tryd.ntmps7
  go_wp2_with (at_builtin; first
    | (refine wpList_append_strs rfl (.tmp 8) (.tmp 9) 23 rfl i0 Tryd.underlying23 hi hz hsize hby rfl ho0 rfl ha0 (by simp only [List.length_nil]; omega) hb0.size ?_; intro v1 w1 ho1 hg1 _
       rw [List.nil_append] at ho1
       have hb1 : Below w.heap.size w w1 := OwnS.below_grown hb0 ho0 (Nat.le_refl _) hb0.size hg1
       have hst := strs_one w1 s hsz
       have ho2 := ho1.alloc (.cells #[.string s] 9)
       have hb2 := hb1.alloc hb1.size (.cells #[.string s] 9)
       obtain ⟨A1, c1, rfl⟩ := ho1.form
       clear hg1 ho0 hb0 ha0 ho1 hb1)
    | (refine wpList_append_strs rfl (.tmp 10) (.tmp 12) 23 rfl i0 Tryd.underlying23 hi hz hsize hby rfl ho2 rfl hst (by simp only [List.length_cons, List.length_nil]; omega) hb2.size ?_; intro v2 w2 ho3 hg2 _
       have hb3 : Below w.heap.size w w2 := OwnS.below_grown hb2 ho2 (Nat.le_refl _) hb2.size hg2
       rw [← HM.out] at ho3
       have hm3 := ho3.strs
       obtain ⟨A2, c2, rfl⟩ := ho3.form
       clear hg2 ho2 hb2 hst ho3))
  go_wp2_with fail
  refine (fixed_any w2 fr ((hb3.block 0 hn0).trans hk)).mono ?_
  rintro e wc9 ⟨rfl, hc9⟩
  have hq9 := below_chain hb3 hb3.size hc9
  have hs9m := hm3.up (Nat.le_refl _) hc9
  clear hc9 hb3 hm3
  go_wp2_with fail
  refine (HQ1.out _ _ _ (hv.up (Nat.le_refl _) hq9) (ha.up (Nat.le_refl _) hq9)).mono ?_
  rintro e wc10 ⟨rfl, hc10⟩
  have hq10 := below_chain hq9 hq9.size hc10
  have hs10m := hs9m.up (Nat.le_refl _) hc10
  clear hc10 hq9 hs9m
  cases q with
  | true =>
    go_wp2_with fail
    refine (HQ2.out (by first | trivial | rfl) _ _ _ (hv.up (Nat.le_refl _) hq10) hs10m).mono ?_
    rintro e wc11 ⟨rfl, hc11⟩
    have hq11 := below_chain hq10 hq10.size hc11
    have hs11m := hs10m.up (Nat.le_refl _) hc11
    clear hc11 hq10 hs10m
    go_wp2_with fail
    refine (HT1.out _ _ _ (hv.up (Nat.le_refl _) hq11) (ha.up (Nat.le_refl _) hq11)).mono ?_
    rintro e wc12 ⟨rfl, hc12⟩
    have hq12 := below_chain hq11 hq11.size hc12
    have hs12m := hs11m.up (Nat.le_refl _) hc12
    clear hc12 hq11 hs11m
    cases t with
    | true =>
      go_wp2_with fail
      refine (HT2.out (by first | trivial | rfl) _ _ _ (hv.up (Nat.le_refl _) hq12) hs12m).mono ?_
      rintro e wc13 ⟨rfl, hc13⟩
      have hq13 := below_chain hq12 hq12.size hc13
      have hs13m := hs12m.up (Nat.le_refl _) hc13
      clear hc13 hq12 hs12m
      go_wp2_with fail
      refine (HR.out _ _ (hv.up (Nat.le_refl _) hq13)).mono ?_
      rintro e wc14 ⟨rfl, hc14⟩
      have hq14 := below_chain hq13 hq13.size hc14
      have hs14m := hs13m.up (Nat.le_refl _) hc14
      clear hc14 hq13 hs13m
      cases r with
      | true =>
        go_wp2_with fail
        refine (HV1.out (by first | trivial | rfl) _ _ _ (hv.up (Nat.le_refl _) hq14) (ha.up (Nat.le_refl _) hq14)).mono ?_
        rintro e wc15 ⟨rfl, hc15⟩
        have hq15 := below_chain hq14 hq14.size hc15
        have hs15m := hs14m.up (Nat.le_refl _) hc15
        clear hc15 hq14 hs14m
        go_wp2_with fail
        refine (HV2.out (by first | trivial | rfl) _ _ _ (hv.up (Nat.le_refl _) hq15) hs15m).mono ?_
        rintro e wc16 ⟨rfl, hc16⟩
        have hq16 := below_chain hq15 hq15.size hc16
        have hs16m := hs15m.up (Nat.le_refl _) hc16
        clear hc16 hq15 hs15m
        go_wp2_with fail
        refine (HV2.out (by first | trivial | rfl) _ _ _ (hv.up (Nat.le_refl _) hq16) hs16m).mono ?_
        rintro e wc17 ⟨rfl, hc17⟩
        have hq17 := below_chain hq16 hq16.size hc17
        have hs17m := hs16m.up (Nat.le_refl _) hc17
        clear hc17 hq16 hs16m
        go_wp2_with fail
        refine (HP.out (by first | trivial | rfl) _ _ (hv.up (Nat.le_refl _) hq17)).mono ?_
        rintro e wc18 ⟨rfl, hc18⟩
        have hq18 := below_chain hq17 hq17.size hc18
        have hs18m := hs17m.up (Nat.le_refl _) hc18
        clear hc18 hq17 hs17m
        go_wp2_with fail
        go_ret
        exact ⟨rfl, hq18⟩
      | false =>
        go_wp2_with fail
        go_ret
        exact ⟨rfl, hq14⟩
    | false =>
      go_wp2_with fail
      refine (HR.out _ _ (hv.up (Nat.le_refl _) hq12)).mono ?_
      rintro e wc19 ⟨rfl, hc19⟩
      have hq19 := below_chain hq12 hq12.size hc19
      have hs19m := hs12m.up (Nat.le_refl _) hc19
      clear hc19 hq12 hs12m
      cases r with
      | true =>
        go_wp2_with fail
        refine (HV1.out (by first | trivial | rfl) _ _ _ (hv.up (Nat.le_refl _) hq19) (ha.up (Nat.le_refl _) hq19)).mono ?_
        rintro e wc20 ⟨rfl, hc20⟩
        have hq20 := below_chain hq19 hq19.size hc20
        have hs20m := hs19m.up (Nat.le_refl _) hc20
        clear hc20 hq19 hs19m
        go_wp2_with fail
        refine (HV2.out (by first | trivial | rfl) _ _ _ (hv.up (Nat.le_refl _) hq20) hs20m).mono ?_
        rintro e wc21 ⟨rfl, hc21⟩
        have hq21 := below_chain hq20 hq20.size hc21
        have hs21m := hs20m.up (Nat.le_refl _) hc21
        clear hc21 hq20 hs20m
        go_wp2_with fail
        refine (HV2.out (by first | trivial | rfl) _ _ _ (hv.up (Nat.le_refl _) hq21) hs21m).mono ?_
        rintro e wc22 ⟨rfl, hc22⟩
        have hq22 := below_chain hq21 hq21.size hc22
        have hs22m := hs21m.up (Nat.le_refl _) hc22
        clear hc22 hq21 hs21m
        go_wp2_with fail
        refine (HP.out (by first | trivial | rfl) _ _ (hv.up (Nat.le_refl _) hq22)).mono ?_
        rintro e wc23 ⟨rfl, hc23⟩
        have hq23 := below_chain hq22 hq22.size hc23
        have hs23m := hs22m.up (Nat.le_refl _) hc23
        clear hc23 hq22 hs22m
        go_wp2_with fail
        go_ret
        exact ⟨rfl, hq23⟩
      | false =>
        go_wp2_with fail
        go_ret
        exact ⟨rfl, hq19⟩
  | false =>
    go_wp2_with fail
    refine (HT1.out _ _ _ (hv.up (Nat.le_refl _) hq10) (ha.up (Nat.le_refl _) hq10)).mono ?_
    rintro e wc24 ⟨rfl, hc24⟩
    have hq24 := below_chain hq10 hq10.size hc24
    have hs24m := hs10m.up (Nat.le_refl _) hc24
    clear hc24 hq10 hs10m
    cases t with
    | true =>
      go_wp2_with fail
      refine (HT2.out (by first | trivial | rfl) _ _ _ (hv.up (Nat.le_refl _) hq24) hs24m).mono ?_
      rintro e wc25 ⟨rfl, hc25⟩
      have hq25 := below_chain hq24 hq24.size hc25
      have hs25m := hs24m.up (Nat.le_refl _) hc25
      clear hc25 hq24 hs24m
      go_wp2_with fail
      refine (HR.out _ _ (hv.up (Nat.le_refl _) hq25)).mono ?_
      rintro e wc26 ⟨rfl, hc26⟩
      have hq26 := below_chain hq25 hq25.size hc26
      have hs26m := hs25m.up (Nat.le_refl _) hc26
      clear hc26 hq25 hs25m
      cases r with
      | true =>
        go_wp2_with fail
        refine (HV1.out (by first | trivial | rfl) _ _ _ (hv.up (Nat.le_refl _) hq26) (ha.up (Nat.le_refl _) hq26)).mono ?_
        rintro e wc27 ⟨rfl, hc27⟩
        have hq27 := below_chain hq26 hq26.size hc27
        have hs27m := hs26m.up (Nat.le_refl _) hc27
        clear hc27 hq26 hs26m
        go_wp2_with fail
        refine (HV2.out (by first | trivial | rfl) _ _ _ (hv.up (Nat.le_refl _) hq27) hs27m).mono ?_
        rintro e wc28 ⟨rfl, hc28⟩
        have hq28 := below_chain hq27 hq27.size hc28
        have hs28m := hs27m.up (Nat.le_refl _) hc28
        clear hc28 hq27 hs27m
        go_wp2_with fail
        refine (HV2.out (by first | trivial | rfl) _ _ _ (hv.up (Nat.le_refl _) hq28) hs28m).mono ?_
        rintro e wc29 ⟨rfl, hc29⟩
        have hq29 := below_chain hq28 hq28.size hc29
        have hs29m := hs28m.up (Nat.le_refl _) hc29
        clear hc29 hq28 hs28m
        go_wp2_with fail
        refine (HP.out (by first | trivial | rfl) _ _ (hv.up (Nat.le_refl _) hq29)).mono ?_
        rintro e wc30 ⟨rfl, hc30⟩
        have hq30 := below_chain hq29 hq29.size hc30
        have hs30m := hs29m.up (Nat.le_refl _) hc30
        clear hc30 hq29 hs29m
        go_wp2_with fail
        go_ret
        exact ⟨rfl, hq30⟩
      | false =>
        go_wp2_with fail
        go_ret
        exact ⟨rfl, hq26⟩
    | false =>
      go_wp2_with fail
      refine (HR.out _ _ (hv.up (Nat.le_refl _) hq24)).mono ?_
      rintro e wc31 ⟨rfl, hc31⟩
      have hq31 := below_chain hq24 hq24.size hc31
      have hs31m := hs24m.up (Nat.le_refl _) hc31
      clear hc31 hq24 hs24m
      cases r with
      | true =>
        go_wp2_with fail
        refine (HV1.out (by first | trivial | rfl) _ _ _ (hv.up (Nat.le_refl _) hq31) (ha.up (Nat.le_refl _) hq31)).mono ?_
        rintro e wc32 ⟨rfl, hc32⟩
        have hq32 := below_chain hq31 hq31.size hc32
        have hs32m := hs31m.up (Nat.le_refl _) hc32
        clear hc32 hq31 hs31m
        go_wp2_with fail
        refine (HV2.out (by first | trivial | rfl) _ _ _ (hv.up (Nat.le_refl _) hq32) hs32m).mono ?_
        rintro e wc33 ⟨rfl, hc33⟩
        have hq33 := below_chain hq32 hq32.size hc33
        have hs33m := hs32m.up (Nat.le_refl _) hc33
        clear hc33 hq32 hs32m
        go_wp2_with fail
        refine (HV2.out (by first | trivial | rfl) _ _ _ (hv.up (Nat.le_refl _) hq33) hs33m).mono ?_
        rintro e wc34 ⟨rfl, hc34⟩
        have hq34 := below_chain hq33 hq33.size hc34
        have hs34m := hs33m.up (Nat.le_refl _) hc34
        clear hc34 hq33 hs33m
        go_wp2_with fail
        refine (HP.out (by first | trivial | rfl) _ _ (hv.up (Nat.le_refl _) hq34)).mono ?_
        rintro e wc35 ⟨rfl, hc35⟩
        have hq35 := below_chain hq34 hq34.size hc35
        have hs35m := hs34m.up (Nat.le_refl _) hc35
        clear hc35 hq34 hs34m
        go_wp2_with fail
        go_ret
        exact ⟨rfl, hq35⟩
      | false =>
        go_wp2_with fail
        go_ret
        exact ⟨rfl, hq31⟩
end Go.Proofs.YtapfjkbbgamkoaaDoor
