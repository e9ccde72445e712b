/- Names as lists of bytes: identifiers, hops, bases: plain mathematics, nothing of the program. -/
import Derived.Lib.Bytealg
import Derived.Lib.Strings
namespace Go.Proofs.YtapfjkbbgamkoaaDoor
open Go

def smB (c : UInt8) : Bool := decide (97 ≤ c.toNat ∧ c.toNat ≤ 122)
def dgB (c : UInt8) : Bool := decide (48 ≤ c.toNat ∧ c.toNat ≤ 57)
def okB (c : UInt8) : Bool := smB c || dgB c || decide (c.toNat = 45) || decide (c.toNat = 46)
/-- is it an identifier? -/
def identL : List UInt8 → Bool
  | [] => false
  | c :: r => decide (r.length ≤ 31) && smB c && r.all okB
/-- what stands ahead of each hop -/
def trL : List UInt8 := [116, 114, 97, 110, 115, 102, 101, 114, 47]
def splitL (l : List UInt8) : Option (List UInt8 × List UInt8) :=
  if Lib.hasPrefix l trL = true then
    if Lib.indexByte (l.drop 9) 47 = -1 then none
    else if identL ((l.drop 9).take (Lib.indexByte (l.drop 9) 47).toNat) = true then
      some ((l.drop 9).take (Lib.indexByte (l.drop 9) 47).toNat, (l.drop 9).drop ((Lib.indexByte (l.drop 9) 47).toNat + 1))
    else none
  else none

theorem okB_of_sm {c : UInt8} (h : smB c = true) : okB c = true := by simp [okB, h]
theorem okB_47 : okB 47 = false := by decide
theorem identL_all {l : List UInt8} (h : identL l = true) : ∀ c ∈ l, okB c = true := by
  cases l with
  | nil => cases h
  | cons a r =>
    simp only [identL, Bool.and_eq_true, List.all_eq_true] at h
    intro c hc
    rcases List.mem_cons.1 hc with rfl | hc
    · exact okB_of_sm h.1.2
    · exact h.2 c hc
theorem identL_no47 {l : List UInt8} (h : identL l = true) : (47 : UInt8) ∉ l := by
  intro hc
  have := identL_all h 47 hc
  rw [okB_47] at this
  cases this
theorem identL_len {l : List UInt8} (h : identL l = true) : 1 ≤ l.length ∧ l.length ≤ 32 := by
  cases l with
  | nil => cases h
  | cons a r =>
    simp only [identL, Bool.and_eq_true, decide_eq_true_eq] at h
    simp only [List.length_cons]; omega

theorem indexByte_miss {l : List UInt8} {c : UInt8} : Lib.indexByte l c = -1 ↔ c ∉ l := by
  induction l with
  | nil => simp [Lib.indexByte]
  | cons b l ih =>
    have hg := Lib.indexByte_ge l c
    unfold Lib.indexByte
    by_cases hb : b = c
    · subst hb; simp
    · have hb' : (b == c) = false := by simpa using hb
      rw [hb']
      simp only [Bool.false_eq_true, if_false, List.mem_cons, not_or]
      by_cases hi : Lib.indexByte l c = -1
      · rw [hi]
        simp only [beq_self_eq_true, if_true, true_iff]
        exact ⟨fun e => hb e.symm, ih.1 hi⟩
      · have h2 : (Lib.indexByte l c == -1) = false := by simpa using hi
        rw [h2]
        simp only [Bool.false_eq_true, if_false]
        constructor
        · intro h; omega
        · rintro ⟨_, h⟩; exact absurd (ih.2 h) hi
theorem indexByte_app {h r : List UInt8} {c : UInt8} (hc : c ∉ h) : Lib.indexByte (h ++ c :: r) c = h.length := by
  induction h with
  | nil => simp [Lib.indexByte]
  | cons b l ih =>
    have h1 : ¬ c = b := fun e => hc (by simp [e])
    have h2 : c ∉ l := fun e => hc (by simp [e])
    have hb' : (b == c) = false := by simpa using fun e => h1 e.symm
    have ih := ih h2
    simp only [List.cons_append]
    unfold Lib.indexByte
    rw [hb', ih]
    have h3 : (((l.length : Nat) : Int) == -1) = false := by rw [beq_eq_false_iff_ne]; omega
    rw [h3]
    simp
/-- where a byte is found: the bytes ahead of it and behind it -/
theorem indexByte_hit {l : List UInt8} {c : UInt8} (h : Lib.indexByte l c ≠ -1) :
    l = l.take (Lib.indexByte l c).toNat ++ c :: l.drop ((Lib.indexByte l c).toNat + 1) ∧ c ∉ l.take (Lib.indexByte l c).toNat ∧ (Lib.indexByte l c).toNat < l.length := by
  have hm : c ∈ l := Classical.byContradiction fun hn => h (indexByte_miss.2 hn)
  obtain ⟨a, b, rfl, hn⟩ : ∃ a b, l = a ++ c :: b ∧ c ∉ a := by
    clear h
    induction l with
    | nil => cases hm
    | cons x l ih =>
      by_cases e : c = x
      · exact ⟨[], l, by rw [e]; rfl, by simp⟩
      · rcases List.mem_cons.1 hm with h | h
        · exact absurd h e
        · obtain ⟨a, b, rfl, hn⟩ := ih h
          exact ⟨x :: a, b, rfl, by simp [e, hn]⟩
  rw [indexByte_app hn]
  simp [hn]

theorem hasPrefix_iff {l p : List UInt8} : Lib.hasPrefix l p = true ↔ ∃ r, l = p ++ r := by
  unfold Lib.hasPrefix
  rw [List.isPrefixOf_iff_prefix]
  constructor
  · rintro ⟨r, h⟩; exact ⟨r, h.symm⟩
  · rintro ⟨r, h⟩; exact ⟨r, h.symm⟩

theorem trL_len : trL.length = 9 := rfl
theorem splitL_iff {l h r : List UInt8} : splitL l = some (h, r) ↔ l = trL ++ h ++ 47 :: r ∧ identL h = true := by
  constructor
  · intro e
    unfold splitL at e
    split at e
    case isFalse => cases e
    case isTrue hp =>
      obtain ⟨t, rfl⟩ := hasPrefix_iff.1 hp
      have ht : (trL ++ t).drop 9 = t := by rw [← trL_len]; simp
      rw [ht] at e
      split at e
      · cases e
      · rename_i hne
        split at e
        case isFalse => cases e
        case isTrue hid =>
          obtain ⟨h1, h2, h3⟩ := indexByte_hit hne
          simp only [Option.some.injEq, Prod.mk.injEq] at e
          rw [e.1, e.2] at h1
          rw [e.1] at hid
          exact ⟨by rw [List.append_assoc, ← h1], hid⟩
  · rintro ⟨rfl, hid⟩
    unfold splitL
    have hp : Lib.hasPrefix (trL ++ h ++ 47 :: r) trL = true := hasPrefix_iff.2 ⟨h ++ 47 :: r, by rw [List.append_assoc]⟩
    have ht : (trL ++ h ++ 47 :: r).drop 9 = h ++ 47 :: r := by rw [List.append_assoc, ← trL_len]; simp
    rw [if_pos hp, ht, indexByte_app (identL_no47 hid), if_neg (by omega)]
    simp [hid]

/-- the base, and how many hops stand ahead of it -/
def baseN : Nat → List UInt8 → List UInt8 × Nat
  | 0, l => (l, 0)
  | n + 1, l => match splitL l with
    | none => (l, 0)
    | some (_, r) => ((baseN n r).1, (baseN n r).2 + 1)
def baseL (l : List UInt8) : List UInt8 := (baseN l.length l).1
def hopsL (l : List UInt8) : Nat := (baseN l.length l).2
def denomL (l : List UInt8) : Bool := decide (l.length ≤ 160) && identL (baseL l)

theorem splitL_len {l h r : List UInt8} (e : splitL l = some (h, r)) : l.length = 9 + h.length + 1 + r.length := by
  obtain ⟨rfl, _⟩ := splitL_iff.1 e
  simp [trL_len]; omega
theorem baseN_more : ∀ (n : Nat) (l : List UInt8), l.length ≤ n → baseN n l = baseN l.length l
  | 0, l, h => by
    obtain rfl : l = [] := List.eq_nil_of_length_eq_zero (by omega)
    rfl
  | n + 1, l, h => by
    cases l with
    | nil => rfl
    | cons a m =>
      simp only [List.length_cons, baseN]
      cases hs : splitL (a :: m) with
      | none => rfl
      | some p =>
        obtain ⟨x, r⟩ := p
        have hl := splitL_len hs
        simp only [List.length_cons] at hl h
        simp only
        rw [baseN_more n r (by omega), baseN_more m.length r (by omega)]
theorem base_none {l : List UInt8} (h : splitL l = none) : baseL l = l ∧ hopsL l = 0 := by
  unfold baseL hopsL
  cases l with
  | nil => exact ⟨rfl, rfl⟩
  | cons a m => simp [List.length_cons, baseN, h]
theorem base_some {l x r : List UInt8} (h : splitL l = some (x, r)) : baseL l = baseL r ∧ hopsL l = hopsL r + 1 := by
  have hl := splitL_len h
  unfold baseL hopsL
  cases l with
  | nil => simp at hl; omega
  | cons a m =>
    simp only [List.length_cons] at hl
    simp only [List.length_cons, baseN, h]
    rw [baseN_more m.length r (by omega)]
    exact ⟨rfl, rfl⟩
theorem ident_nosplit {l : List UInt8} (h : identL l = true) : splitL l = none := by
  cases e : splitL l with
  | none => rfl
  | some p =>
    obtain ⟨x, r⟩ := p
    obtain ⟨rfl, _⟩ := splitL_iff.1 e
    exact absurd (by simp) (identL_no47 h)
theorem ident_denom {l : List UInt8} (h : identL l = true) : denomL l = true ∧ baseL l = l ∧ hopsL l = 0 := by
  obtain ⟨h1, h2⟩ := base_none (ident_nosplit h)
  have := identL_len h
  refine ⟨?_, h1, h2⟩
  unfold denomL
  rw [h1, h]
  simp; omega
theorem base_len : ∀ (n : Nat) (l : List UInt8), l.length ≤ n → (baseL l).length + 10 * hopsL l ≤ l.length
  | 0, l, h => by
    obtain rfl : l = [] := List.eq_nil_of_length_eq_zero (by omega)
    simp [baseL, hopsL, baseN]
  | n + 1, l, h => by
    cases e : splitL l with
    | none => obtain ⟨h1, h2⟩ := base_none e; rw [h1, h2]; omega
    | some p =>
      obtain ⟨x, r⟩ := p
      obtain ⟨h1, h2⟩ := base_some e
      have hl := splitL_len e
      have := base_len n r (by omega)
      rw [h1, h2]
      omega
theorem hops_zero {l : List UInt8} : hopsL l = 0 ↔ baseL l = l := by
  cases e : splitL l with
  | none => obtain ⟨h1, h2⟩ := base_none e; simp [h1, h2]
  | some p =>
    obtain ⟨x, r⟩ := p
    obtain ⟨h1, h2⟩ := base_some e
    have hl := splitL_len e
    have hb := base_len r.length r (Nat.le_refl _)
    constructor
    · intro h; omega
    · intro h
      rw [h1] at h
      have := congrArg List.length h
      omega
theorem denom_ident {l : List UInt8} (h : denomL l = true) : identL (baseL l) = true := by
  unfold denomL at h; simp only [Bool.and_eq_true] at h; exact h.2
theorem denom_len {l : List UInt8} (h : denomL l = true) : l.length ≤ 160 := by
  unfold denomL at h; simp only [Bool.and_eq_true, decide_eq_true_eq] at h; exact h.1

/-- one hop more -/
def overL (hop s : List UInt8) : List UInt8 × Int :=
  if identL hop = true then
    if denomL s = true ∧ hop.length + s.length + 10 ≤ 160 then (trL ++ hop ++ 47 :: s, 0) else ([], 41)
  else ([], 40)
theorem over_ok {hop s : List UInt8} (h : (overL hop s).2 = 0) : identL hop = true ∧ denomL s = true ∧ hop.length + s.length + 10 ≤ 160 ∧ (overL hop s).1 = trL ++ hop ++ 47 :: s := by
  unfold overL at h ⊢
  by_cases h1 : identL hop = true
  · rw [if_pos h1] at h ⊢
    by_cases h2 : denomL s = true ∧ hop.length + s.length + 10 ≤ 160
    · rw [if_pos h2] at h ⊢; exact ⟨h1, h2.1, h2.2, rfl⟩
    · rw [if_neg h2] at h; cases h
  · rw [if_neg h1] at h; cases h
theorem over_bad {hop s : List UInt8} (h : (overL hop s).2 ≠ 0) : (overL hop s).1 = [] := by
  unfold overL at h ⊢
  by_cases h1 : identL hop = true
  · rw [if_pos h1] at h ⊢
    by_cases h2 : denomL s = true ∧ hop.length + s.length + 10 ≤ 160
    · rw [if_pos h2] at h; exact absurd rfl h
    · rw [if_neg h2]
  · rw [if_neg h1]
theorem over_more {hop s : List UInt8} (hi : identL hop = true) (hd : denomL s = true) (hl : hop.length + s.length + 10 ≤ 160) :
    splitL (trL ++ hop ++ 47 :: s) = some (hop, s) ∧ denomL (trL ++ hop ++ 47 :: s) = true ∧ baseL (trL ++ hop ++ 47 :: s) = baseL s ∧ hopsL (trL ++ hop ++ 47 :: s) = hopsL s + 1 := by
  have h1 := splitL_iff.2 ⟨(rfl : trL ++ hop ++ 47 :: s = trL ++ hop ++ 47 :: s), hi⟩
  obtain ⟨h2, h3⟩ := base_some h1
  refine ⟨h1, ?_, h2, h3⟩
  unfold denomL
  rw [h2, denom_ident hd, splitL_len h1]
  simp; omega
theorem over_back {l h r : List UInt8} (e : splitL l = some (h, r)) (hd : denomL l = true) : overL h r = (l, 0) := by
  obtain ⟨h1, _⟩ := base_some e
  have hl := splitL_len e
  have hdl := denom_len hd
  obtain ⟨h3, h4⟩ := splitL_iff.1 e
  have hr : denomL r = true := by
    unfold denomL
    rw [← h1, denom_ident hd]
    simp; omega
  unfold overL
  rw [if_pos h4, if_pos ⟨hr, by omega⟩, h3]
end Go.Proofs.YtapfjkbbgamkoaaDoor
