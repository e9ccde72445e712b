
/- What the law of sums reckons with: keys by their prefixes, sums of the first so many. -/
import Derived.Test.YtgiciaeaibonbaaGreatDoorBankV
namespace Go.Proofs.YtgiciaeaibonbaaGreatDoor
set_option maxRecDepth 100000
open Go
set_option linter.unusedVariables false

theorem beg_iff {p s : ByteArray} : begB p s = true ↔ ∃ r, s.data.toList = p.data.toList ++ r := hasPrefix_iff
theorem beg_bal (a d : ByteArray) : begB balP (kBal a d) = true := beg_iff.2 ⟨_, kBal_list a d⟩
theorem beg_sup (d : ByteArray) : begB supP (kSup d) = true := beg_iff.2 ⟨_, kSup_list d⟩
theorem beg_bal_sup (d : ByteArray) : begB balP (kSup d) = false := by
  cases h : begB balP (kSup d) with
  | false => rfl
  | true =>
    obtain ⟨r, e⟩ := beg_iff.1 h
    rw [kSup_list] at e
    injection e with e _
    exact absurd e (by decide)
theorem beg_sup_bal (a d : ByteArray) : begB supP (kBal a d) = false := by
  cases h : begB supP (kBal a d) with
  | false => rfl
  | true =>
    obtain ⟨r, e⟩ := beg_iff.1 h
    rw [kBal_list] at e
    injection e with e _
    exact absurd e (by decide)
theorem sup_cut (d : ByteArray) : (kSup d).extract 4 (kSup d).size = d := by
  apply bytes_ext
  rw [← Lib.toList_data, Lib.extract_toList, kSup_list, Lib.size_eq, kSup_list]
  simp
  exact List.take_of_length_le (by rw [← Lib.size_eq]; exact Nat.le_refl _)
theorem slash_list (X : ByteArray) : (slB ++ X).data.toList = 47 :: X.data.toList := by
  rw [data_list]; rfl
open Classical in
theorem isB_iff {d key : ByteArray} : isB d key = true ↔ ∃ a, identB a = true ∧ key = kBal a d := by
  unfold isB
  exact decide_eq_true_iff
section
variable {R : List Pr} {X : ByteArray}
/-- the test of the law, of a balance's key -/
theorem test_bal {a d : ByteArray} (ha : identB a = true) (hd : denomB d = true) (hX : denomB X = true) :
    (endsL (kBal a d).data.toList (slB ++ X).data.toList = false ∧ decide (d = X) = false) ∨
    (endsL (kBal a d).data.toList (slB ++ X).data.toList = true ∧ 4 ≤ (kBal a d).size - X.size - 1 ∧ X.size + 1 ≤ (kBal a d).size ∧ decide ((47 : UInt8) ∉ ((kBal a d).extract 4 ((kBal a d).size - X.size - 1)).data.toList) = decide (d = X)) := by
  rw [slash_list]
  cases h : endsL (kBal a d).data.toList (47 :: X.data.toList) with
  | false =>
    refine .inl ⟨rfl, decide_eq_false fun e => ?_⟩
    rw [← e, kBal_list, ends_yes ha] at h
    cases h
  | true =>
    refine .inr ⟨rfl, ?_⟩
    rw [kBal_list] at h
    obtain ⟨u, e1, e2⟩ := ends_bal ha hd hX h
    have e0 : (kBal a d).data.toList = [98, 97, 108, 47] ++ u ++ 47 :: X.data.toList := by rw [kBal_list]; exact e1
    have hs := congrArg List.length e0
    rw [← Lib.size_eq] at hs
    simp only [List.length_append, List.length_cons, List.length_nil, ← Lib.size_eq X] at hs
    have hm : ((kBal a d).extract 4 ((kBal a d).size - X.size - 1)).data.toList = u := by
      rw [← Lib.toList_data, Lib.extract_toList, e0]
      have h4 : ([98, 97, 108, 47] ++ u ++ 47 :: X.data.toList).drop 4 = u ++ 47 :: X.data.toList := by simp
      have h5 : (kBal a d).size - X.size - 1 - 4 = u.length := by omega
      rw [h4, h5, List.take_left]
    refine ⟨by omega, by omega, ?_⟩
    rw [hm]
    rcases e2 with ⟨e3, e4⟩ | ⟨e3, e4⟩
    · have h6 : (47 : UInt8) ∉ u := by rw [e3]; exact identL_no47 ha
      have h7 : d = X := bytes_ext e4.symm
      simp [h6, h7]
    · have h7 : ¬ d = X := fun e => e4 (by rw [e])
      simp [e3, h7]
/-- what the rows of balances come to -/
noncomputable def partK (X : ByteArray) (R : List Pr) (j : Nat) : Nat := sumF (isB X) ((R.filter (fun p => begB balP p.1)).take j)
theorem part_zero : partK X R 0 = 0 := rfl
theorem part_next {j : Nat} (h : j < (R.filter (fun p => begB balP p.1)).length) : partK X R (j + 1) = partK X R j + (if isB X ((R.filter (fun p => begB balP p.1))[j]).1 = true then (fromU ((R.filter (fun p => begB balP p.1))[j]).2).1.nat else 0) := by
  unfold partK
  rw [← List.take_append_getElem h, sumF_append]
  congr 1
  unfold sumF
  by_cases e : isB X ((R.filter (fun p => begB balP p.1))[j]).1 = true <;> simp [e]
theorem sumF_take_le (f : ByteArray → Bool) : ∀ (j : Nat) (l : List Pr), sumF f (l.take j) ≤ sumF f l := fun j l => by
  conv => rhs; rw [← List.take_append_drop j l]
  rw [sumF_append]
  omega
theorem sumF_bal : sumF (isB X) (R.filter (fun p => begB balP p.1)) = sumF (isB X) R := by
  unfold sumF
  rw [List.filter_filter]
  congr 2
  refine List.filter_congr fun p _ => ?_
  cases h : isB X p.1 with
  | false => rfl
  | true =>
    obtain ⟨a, _, e⟩ := isB_iff.1 h
    rw [e, beg_bal]; rfl
theorem Books.part_le (h : Books R) (hX : denomB X = true) (j : Nat) : partK X R j ≤ (supM R X).nat := by
  rw [← h.sums X hX, ← sumF_bal]
  exact sumF_take_le _ _ _
theorem Books.part_all (h : Books R) (hX : denomB X = true) : partK X R (R.filter (fun p => begB balP p.1)).length = (supM R X).nat := by
  unfold partK
  rw [List.take_length, sumF_bal]
  exact h.sums X hX
theorem Books.bal_row (h : Books R) {p : Pr} (hp : p ∈ R.filter (fun p => begB balP p.1)) : ∃ a d, identB a = true ∧ denomB d = true ∧ p.1 = kBal a d := by
  obtain ⟨h1, h2⟩ := List.mem_filter.1 hp
  rcases h.keys p h1 with h | ⟨d, _, e⟩
  · exact h
  · rw [e, beg_bal_sup] at h2; cases h2
theorem Books.sup_row (h : Books R) {p : Pr} (hp : p ∈ R.filter (fun p => begB supP p.1)) : ∃ d, denomB d = true ∧ p.1 = kSup d ∧ p ∈ R := by
  obtain ⟨h1, h2⟩ := List.mem_filter.1 hp
  rcases h.keys p h1 with ⟨a, d, _, _, e⟩ | ⟨d, hd, e⟩
  · rw [e, beg_sup_bal] at h2; cases h2
  · exact ⟨d, hd, e, h1⟩
theorem sumF_mem {f : ByteArray → Bool} : ∀ {l : List Pr} {p : Pr}, p ∈ l → f p.1 = true → (fromU p.2).1.nat ≤ sumF f l
  | q :: l, p, hp, hf => by
    have h1 : sumF f (q :: l) = sumF f [q] + sumF f l := sumF_append f [q] l
    rcases List.mem_cons.1 hp with rfl | hp
    · have h2 : sumF f [p] = (fromU p.2).1.nat := by unfold sumF; simp [hf]
      omega
    · have := sumF_mem hp hf
      omega
/-- where nothing is supplied, nobody has anything -/
theorem Books.none (h : Books R) (hs : R.filter (fun p => begB supP p.1) = []) : R.filter (fun p => begB balP p.1) = [] := by
  refine List.eq_nil_iff_forall_not_mem.2 fun p hp => ?_
  obtain ⟨a, d, ha, hd, e⟩ := h.bal_row hp
  have hpR := (List.mem_filter.1 hp).1
  obtain ⟨y, h1, h2, h3⟩ := h.canon p hpR
  have h4 := sumF_mem (f := isB d) hpR (by rw [e, isB_bal ha]; simp)
  rw [h.sums d hd, h3, fromU_be h1] at h4
  dsimp only at h4
  have h5 : y.nat ≠ 0 := fun k => by rw [nat_zero.1 k, eqB_refl] at h2; cases h2
  have h6 : (supM R d).nat ≠ 0 := by omega
  unfold supM at h6
  rw [if_pos hd] at h6
  unfold amtU at h6
  cases hg : getL R (kSup d) with
  | none => rw [hg] at h6; exact h6 rfl
  | some v =>
    have hm : (kSup d, v) ∈ R.filter (fun p => begB supP p.1) := List.mem_filter.2 ⟨getL_mem hg, beg_sup d⟩
    rw [hs] at hm; cases hm
end
end Go.Proofs.YtgiciaeaibonbaaGreatDoor
