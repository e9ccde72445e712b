
/- The bank's mathematics: supplies are the sums of balances. -/
import Derived.Test.YtgiciaeaibonbaaGreatDoorBankU0
import Derived.Test.YtgiciaeaibonbaaGreatDoorNameG0
import Derived.Test.YtgiciaeaibonbaaGreatDoorStoA1
namespace Go.Proofs.YtgiciaeaibonbaaGreatDoor
set_option maxRecDepth 100000
open Go
set_option linter.unusedVariables false

theorem words_count (l : List UInt8) : (wordsL l).length = l.count 47 + 1 := by
  induction l with
  | nil => rfl
  | cons c l ih =>
    unfold wordsL
    by_cases h : c = 47
    · rw [if_pos h, h, List.count_cons_self, List.length_cons, ih]
    · rw [if_neg h, List.count_cons_of_ne h]
      cases hw : wordsL l with
      | nil => exact absurd hw (wordsL_ne l)
      | cons x r => rw [hw] at ih; simpa using ih
theorem denom_even {l : List UInt8} (h : denomL l = true) : ∃ k, l.count 47 = 2 * k := by
  have h1 := (words_denom l.length l (Nat.le_refl _) (denom_ident h)).1
  rw [words_count] at h1
  exact ⟨hopsL l, by omega⟩
theorem split47 : ∀ {p u v r : List UInt8}, (47 : UInt8) ∉ p → u ++ 47 :: v = p ++ 47 :: r → (u = p ∧ v = r) ∨ ∃ u', u = p ++ 47 :: u' ∧ u' ++ 47 :: v = r
  | [], [], v, r, _, h => .inl ⟨rfl, by simpa using h⟩
  | [], c :: u, v, r, _, h => by
    injection h with h1 h2
    exact .inr ⟨u, by rw [h1]; rfl, h2⟩
  | c :: p, [], v, r, hp, h => by
    injection h with h1 h2
    exact absurd (by rw [h1]; simp) hp
  | c :: p, c' :: u, v, r, hp, h => by
    injection h with h1 h2
    rcases split47 (p := p) (u := u) (fun k => hp (by simp [k])) h2 with ⟨e1, e2⟩ | ⟨u', e1, e2⟩
    · exact .inl ⟨by rw [h1, e1], e2⟩
    · exact .inr ⟨u', by rw [h1, e1]; rfl, e2⟩
/-- does the text end so? -/
def endsL (s e : List UInt8) : Bool := decide (e.length < s.length) && decide (s.drop (s.length - e.length) = e)
/-- where a key ends in a slash and a denomination -/
theorem ends_bal {a d X : List UInt8} (ha : identL a = true) (hd : denomL d = true) (hX : denomL X = true) (h : endsL ([98, 97, 108, 47] ++ (a ++ 47 :: d)) (47 :: X) = true) :
    ∃ u, [98, 97, 108, 47] ++ (a ++ 47 :: d) = [98, 97, 108, 47] ++ u ++ 47 :: X ∧ ((u = a ∧ X = d) ∨ ((47 : UInt8) ∈ u ∧ d ≠ X)) := by
  simp only [endsL, Bool.and_eq_true, decide_eq_true_eq] at h
  have h1 : [98, 97, 108, 47] ++ (a ++ 47 :: d) = ([98, 97, 108, 47] ++ (a ++ 47 :: d)).take (([98, 97, 108, 47] ++ (a ++ 47 :: d)).length - (47 :: X).length) ++ 47 :: X := by
    conv => lhs; rw [← List.take_append_drop (([98, 97, 108, 47] ++ (a ++ 47 :: d)).length - (47 :: X).length) ([98, 97, 108, 47] ++ (a ++ 47 :: d))]
    rw [h.2]
  generalize ([98, 97, 108, 47] ++ (a ++ 47 :: d)).take (([98, 97, 108, 47] ++ (a ++ 47 :: d)).length - (47 :: X).length) = pre at h1
  have h2 : pre ++ 47 :: X = [98, 97, 108] ++ 47 :: (a ++ 47 :: d) := h1.symm
  rcases split47 (by decide) h2 with ⟨-, e⟩ | ⟨u, e1, e2⟩
  · obtain ⟨k1, c1⟩ := denom_even hX
    obtain ⟨k2, c2⟩ := denom_even hd
    have c3 := congrArg (List.count 47) e
    rw [List.count_append, List.count_eq_zero.2 (identL_no47 ha), List.count_cons_self] at c3
    omega
  · refine ⟨u, ?_, ?_⟩
    · rw [h1, e1]; rfl
    · rcases split47 (identL_no47 ha) e2 with ⟨e3, e4⟩ | ⟨u', e3, e4⟩
      · exact .inl ⟨e3, e4⟩
      · refine .inr ⟨by rw [e3]; simp, fun e5 => ?_⟩
        have := congrArg List.length e4
        rw [e5] at this
        simp at this
        omega
theorem ends_yes {a d : List UInt8} (ha : identL a = true) : endsL ([98, 97, 108, 47] ++ (a ++ 47 :: d)) (47 :: d) = true := by
  simp only [endsL, Bool.and_eq_true, decide_eq_true_eq]
  refine ⟨by simp; omega, ?_⟩
  have h1 : [98, 97, 108, 47] ++ (a ++ 47 :: d) = ([98, 97, 108, 47] ++ a) ++ (47 :: d) := by simp
  rw [h1, List.length_append, Nat.add_sub_cancel, List.drop_left]

/-! ### the books -/
open Classical in
/-- is it where an address has something of this denomination? -/
noncomputable def isB (d key : ByteArray) : Bool := decide (∃ a, identB a = true ∧ key = kBal a d)
theorem isB_bal {a d0 d : ByteArray} (ha : identB a = true) : isB d (kBal a d0) = decide (d0 = d) := by
  unfold isB
  congr 1
  refine propext ⟨fun ⟨a', h1, h2⟩ => (kBal_inj ha h1 h2).2, fun e => ⟨a, ha, by rw [e]⟩⟩
theorem isB_sup (d0 d : ByteArray) : isB d (kSup d0) = false := by
  unfold isB
  rw [decide_eq_false_iff_not]
  rintro ⟨a, _, h⟩
  exact kBal_ne_kSup a d d0 h.symm
structure Books (R : List Pr) : Prop where
  rise : Rise R
  canon : CanonL R
  keys : ∀ p ∈ R, (∃ a d, identB a = true ∧ denomB d = true ∧ p.1 = kBal a d) ∨ (∃ d, denomB d = true ∧ p.1 = kSup d)
  sums : ∀ d, denomB d = true → sumF (isB d) R = (supM R d).nat
theorem Books.nil : Books [] where
  rise := by unfold Rise; simp
  canon := CanonL.nil
  keys := fun p hp => by cases hp
  sums := fun d hd => by
    unfold supM
    rw [if_pos hd]
    rfl
section
variable {R : List Pr} {a b d : ByteArray} {x y z : U4}
theorem keys_keep {key : ByteArray} (h : ∀ p ∈ R, (∃ a d, identB a = true ∧ denomB d = true ∧ p.1 = kBal a d) ∨ (∃ d, denomB d = true ∧ p.1 = kSup d)) (hk : (∃ a d, identB a = true ∧ denomB d = true ∧ key = kBal a d) ∨ (∃ d, denomB d = true ∧ key = kSup d)) :
    ∀ p ∈ keepL key x R, (∃ a d, identB a = true ∧ denomB d = true ∧ p.1 = kBal a d) ∨ (∃ d, denomB d = true ∧ p.1 = kSup d) := fun p hp => by
  unfold keepL at hp
  rcases List.mem_append.1 ((putL_perm key _ R).mem_iff.1 hp) with hp | hp
  · split at hp
    · cases hp
    · rw [List.mem_singleton.1 hp]; exact hk
  · exact h p (List.mem_filter.1 hp).1
/-- a balance and its supply, reckoned on -/
theorem Books.both (h : Books R) (ha : identB a = true) (hd : denomB d = true) (hy : y.ok) (hz : z.ok) (e : z.nat + (supM R d).nat = y.nat + (balM R a d).nat) : Books (keepL (kBal a d) z (keepL (kSup d) y R)) where
  rise := h.rise.keep.keep
  canon := (h.canon.keep _ hy).keep _ hz
  keys := keys_keep (keys_keep h.keys (.inr ⟨d, hd, rfl⟩)) (.inl ⟨a, d, ha, hd, rfl⟩)
  sums := fun d0 hd0 => by
    have h1 := sumF_keep (f := isB d0) h.rise (kSup d) hy
    have h2 := sumF_keep (f := isB d0) h.rise.keep (key := kBal a d) (l := keepL (kSup d) y R) hz
    have e2 : balM R a d = amtU R (kBal a d) := by unfold balM; rw [ha, hd]; rfl
    rw [isB_sup] at h1
    rw [isB_bal ha, amt_keep hy, if_neg (kBal_ne_kSup _ _ _), ← e2] at h2
    rw [supM_keep_bal hz, supM_keep_sup hy hd]
    have h3 := h.sums d0 hd0
    by_cases e0 : d = d0
    · subst e0
      simp only [decide_true, if_true, Bool.false_eq_true, if_false] at h1 h2 ⊢
      omega
    · have e1 : ¬ d0 = d := fun k => e0 k.symm
      simp only [e0, decide_false, Bool.false_eq_true, if_false] at h1 h2
      rw [if_neg e1]
      omega
theorem Books.mint (h : Books R) : Books (mintM R a d x).2 := by
  by_cases e : (mintM R a d x).1 = 0
  · obtain ⟨q1, q2, q3, q4, q5, q6⟩ := change_yes (op := addU) (u := 10) e (by decide)
    have hs := addU_yes q4
    have hb := addU_yes q5
    show Books (changeM addU 10 R a d x).2
    rw [q6]
    exact h.both q1 q2 hs.2 hb.2 (by omega)
  · have h1 : (mintM R a d x).2 = R := change_no (u := 10) (by decide) e
    rw [h1]; exact h
theorem Books.burn (h : Books R) : Books (burnM R a d x).2 := by
  by_cases e : (burnM R a d x).1 = 0
  · obtain ⟨q1, q2, q3, q4, q5, q6⟩ := change_yes (op := subU) (u := 71) e (by decide)
    have hs := subU_yes q4 (supM_ok R d)
    have hb := subU_yes q5 (balM_ok R a d)
    show Books (changeM subU 71 R a d x).2
    rw [q6]
    exact h.both q1 q2 hs.2 hb.2 (by omega)
  · have h1 : (burnM R a d x).2 = R := change_no (u := 71) (by decide) e
    rw [h1]; exact h
theorem Books.send (h : Books R) : Books (sendM R a b d x).2 := by
  by_cases e : (sendM R a b d x).1 = 0
  · by_cases hne : a = b
    · subst hne
      rw [send_self]; exact h
    · obtain ⟨q1, q2, q3, q4, q5, q6⟩ := send_yes e hne
      have hs := subU_yes q4 (balM_ok R a d)
      have hb := addU_yes q5
      rw [q6]
      refine ⟨h.rise.keep.keep, (h.canon.keep _ hs.2).keep _ hb.2, keys_keep (keys_keep h.keys (.inl ⟨a, d, q1, q3, rfl⟩)) (.inl ⟨b, d, q2, q3, rfl⟩), fun d0 hd0 => ?_⟩
      have h1 := sumF_keep (f := isB d0) h.rise (kBal a d) hs.2
      have h2 := sumF_keep (f := isB d0) h.rise.keep (key := kBal b d) (l := keepL (kBal a d) (subU (balM R a d) x).1 R) hb.2
      have e2 : balM R a d = amtU R (kBal a d) := by unfold balM; rw [q1, q3]; rfl
      have e3 : balM R b d = amtU R (kBal b d) := by unfold balM; rw [q2, q3]; rfl
      have hkk : kBal b d ≠ kBal a d := fun k => hne (kBal_inj q2 q1 k).1.symm
      rw [isB_bal q1, ← e2] at h1
      rw [isB_bal q2, amt_keep hs.2, if_neg hkk, ← e3] at h2
      rw [supM_keep_bal hb.2, supM_keep_bal hs.2]
      have h3 := h.sums d0 hd0
      by_cases e0 : d = d0
      · simp only [e0, decide_true, if_true] at h1 h2 h3 hs hb ⊢
        omega
      · simp only [e0, decide_false, Bool.false_eq_true, if_false] at h1 h2
        omega
  · rw [send_no e]; exact h
theorem Books.step (h : Books R) (kd : Int) : Books (stepM R kd a b d x) := by
  unfold stepM
  split
  · exact h.mint
  · split
    · exact h.burn
    · split
      · exact h.send
      · exact h
/-- a supply that is kept isn't 0 -/
theorem Books.pos (h : Books R) {p : Pr} (hp : p ∈ R) (hk : p.1 = kSup d) (hd : denomB d = true) : eqB (supM R d) U4.zero = false := by
  obtain ⟨s, v⟩ := p
  dsimp only at hk
  subst hk
  obtain ⟨y, h1, h2, h3⟩ := h.canon _ hp
  dsimp only at h3
  have hg := h.rise.get hp
  dsimp only at hg
  unfold supM
  rw [if_pos hd]
  unfold amtU
  rw [hg, h3]
  show eqB (fromU (be y.nat 32)).1 U4.zero = false
  rw [fromU_be h1]
  exact h2
end
end Go.Proofs.YtgiciaeaibonbaaGreatDoor
