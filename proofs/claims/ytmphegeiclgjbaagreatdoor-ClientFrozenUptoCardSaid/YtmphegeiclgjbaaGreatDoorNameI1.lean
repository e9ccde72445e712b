
/- Names as lists of bytes: identifiers, hops, bases: plain mathematics, nothing of the program. The walks of package name: small, digit, Ident. The walk of package name: Ident. The walks of the library's CutPrefix and Cut, as package name calls them. The walks of package name: Denom, Hop, Over, Base, Hops. -/
import Derived.Lib.Bytealg
import Derived.Lib.Strings
import Derived.Test.YtmphegeiclgjbaaGreatDoorProg
import Derived.WalkKit
import Derived.WalkSpells
import Derived.Deep.QuietTactic
import Derived.BigQuiet
import Derived.Deep.Draws
import Derived.Lib.Hide
import Derived.LoopTactic
import Derived.Laws.Externs
import Derived.Lib.CutLaws
import Derived.Lib.Walk
import Derived.Laws.Strings3
namespace Go.Proofs.YtmphegeiclgjbaaGreatDoor
set_option maxRecDepth 100000
open Go

def smB (c : UInt8) : Bool := decide (97 ≤ c.toNat ∧ c.toNat ≤ 122)
def dgB (c : UInt8) : Bool := decide (48 ≤ c.toNat ∧ c.toNat ≤ 57)
def okB (c : UInt8) : Bool := smB c || dgB c || decide (c.toNat = 45) || decide (c.toNat = 46)
/-- is it an identifier? -/
def identL : List UInt8 → Bool
  | [] => false
  | c :: r => decide (r.length ≤ 31) && smB c && r.all okB
/-- what stands ahead of each hop -/
def trL : List UInt8 := [116, 114, 97, 110, 115, 102, 101, 114, 47]
def splitL (l : List UInt8) : Option (List UInt8 × List UInt8) :=
  if Lib.hasPrefix l trL = true then
    if Lib.indexByte (l.drop 9) 47 = -1 then none
    else if identL ((l.drop 9).take (Lib.indexByte (l.drop 9) 47).toNat) = true then
      some ((l.drop 9).take (Lib.indexByte (l.drop 9) 47).toNat, (l.drop 9).drop ((Lib.indexByte (l.drop 9) 47).toNat + 1))
    else none
  else none

theorem okB_of_sm {c : UInt8} (h : smB c = true) : okB c = true := by simp [okB, h]
theorem okB_47 : okB 47 = false := by decide
theorem identL_all {l : List UInt8} (h : identL l = true) : ∀ c ∈ l, okB c = true := by
  cases l with
  | nil => cases h
  | cons a r =>
    simp only [identL, Bool.and_eq_true, List.all_eq_true] at h
    intro c hc
    rcases List.mem_cons.1 hc with rfl | hc
    · exact okB_of_sm h.1.2
    · exact h.2 c hc
theorem identL_no47 {l : List UInt8} (h : identL l = true) : (47 : UInt8) ∉ l := by
  intro hc
  have := identL_all h 47 hc
  rw [okB_47] at this
  cases this
theorem identL_len {l : List UInt8} (h : identL l = true) : 1 ≤ l.length ∧ l.length ≤ 32 := by
  cases l with
  | nil => cases h
  | cons a r =>
    simp only [identL, Bool.and_eq_true, decide_eq_true_eq] at h
    simp only [List.length_cons]; omega

theorem indexByte_miss {l : List UInt8} {c : UInt8} : Lib.indexByte l c = -1 ↔ c ∉ l := by
  induction l with
  | nil => simp [Lib.indexByte]
  | cons b l ih =>
    have hg := Lib.indexByte_ge l c
    unfold Lib.indexByte
    by_cases hb : b = c
    · subst hb; simp
    · have hb' : (b == c) = false := by simpa using hb
      rw [hb']
      simp only [Bool.false_eq_true, if_false, List.mem_cons, not_or]
      by_cases hi : Lib.indexByte l c = -1
      · rw [hi]
        simp only [beq_self_eq_true, if_true, true_iff]
        exact ⟨fun e => hb e.symm, ih.1 hi⟩
      · have h2 : (Lib.indexByte l c == -1) = false := by simpa using hi
        rw [h2]
        simp only [Bool.false_eq_true, if_false]
        constructor
        · intro h; omega
        · rintro ⟨_, h⟩; exact absurd (ih.2 h) hi
theorem indexByte_app {h r : List UInt8} {c : UInt8} (hc : c ∉ h) : Lib.indexByte (h ++ c :: r) c = h.length := by
  induction h with
  | nil => simp [Lib.indexByte]
  | cons b l ih =>
    have h1 : ¬ c = b := fun e => hc (by simp [e])
    have h2 : c ∉ l := fun e => hc (by simp [e])
    have hb' : (b == c) = false := by simpa using fun e => h1 e.symm
    have ih := ih h2
    simp only [List.cons_append]
    unfold Lib.indexByte
    rw [hb', ih]
    have h3 : (((l.length : Nat) : Int) == -1) = false := by rw [beq_eq_false_iff_ne]; omega
    rw [h3]
    simp
/-- where a byte is found: the bytes ahead of it and behind it -/
theorem indexByte_hit {l : List UInt8} {c : UInt8} (h : Lib.indexByte l c ≠ -1) :
    l = l.take (Lib.indexByte l c).toNat ++ c :: l.drop ((Lib.indexByte l c).toNat + 1) ∧ c ∉ l.take (Lib.indexByte l c).toNat ∧ (Lib.indexByte l c).toNat < l.length := by
  have hm : c ∈ l := Classical.byContradiction fun hn => h (indexByte_miss.2 hn)
  obtain ⟨a, b, rfl, hn⟩ : ∃ a b, l = a ++ c :: b ∧ c ∉ a := by
    clear h
    induction l with
    | nil => cases hm
    | cons x l ih =>
      by_cases e : c = x
      · exact ⟨[], l, by rw [e]; rfl, by simp⟩
      · rcases List.mem_cons.1 hm with h | h
        · exact absurd h e
        · obtain ⟨a, b, rfl, hn⟩ := ih h
          exact ⟨x :: a, b, rfl, by simp [e, hn]⟩
  rw [indexByte_app hn]
  simp [hn]

theorem hasPrefix_iff {l p : List UInt8} : Lib.hasPrefix l p = true ↔ ∃ r, l = p ++ r := by
  unfold Lib.hasPrefix
  rw [List.isPrefixOf_iff_prefix]
  constructor
  · rintro ⟨r, h⟩; exact ⟨r, h.symm⟩
  · rintro ⟨r, h⟩; exact ⟨r, h.symm⟩

theorem trL_len : trL.length = 9 := rfl
theorem splitL_iff {l h r : List UInt8} : splitL l = some (h, r) ↔ l = trL ++ h ++ 47 :: r ∧ identL h = true := by
  constructor
  · intro e
    unfold splitL at e
    split at e
    case isFalse => cases e
    case isTrue hp =>
      obtain ⟨t, rfl⟩ := hasPrefix_iff.1 hp
      have ht : (trL ++ t).drop 9 = t := by rw [← trL_len]; simp
      rw [ht] at e
      split at e
      · cases e
      · rename_i hne
        split at e
        case isFalse => cases e
        case isTrue hid =>
          obtain ⟨h1, h2, h3⟩ := indexByte_hit hne
          simp only [Option.some.injEq, Prod.mk.injEq] at e
          rw [e.1, e.2] at h1
          rw [e.1] at hid
          exact ⟨by rw [List.append_assoc, ← h1], hid⟩
  · rintro ⟨rfl, hid⟩
    unfold splitL
    have hp : Lib.hasPrefix (trL ++ h ++ 47 :: r) trL = true := hasPrefix_iff.2 ⟨h ++ 47 :: r, by rw [List.append_assoc]⟩
    have ht : (trL ++ h ++ 47 :: r).drop 9 = h ++ 47 :: r := by rw [List.append_assoc, ← trL_len]; simp
    rw [if_pos hp, ht, indexByte_app (identL_no47 hid), if_neg (by omega)]
    simp [hid]

/-- the base, and how many hops stand ahead of it -/
def baseN : Nat → List UInt8 → List UInt8 × Nat
  | 0, l => (l, 0)
  | n + 1, l => match splitL l with
    | none => (l, 0)
    | some (_, r) => ((baseN n r).1, (baseN n r).2 + 1)
def baseL (l : List UInt8) : List UInt8 := (baseN l.length l).1
def hopsL (l : List UInt8) : Nat := (baseN l.length l).2
def denomL (l : List UInt8) : Bool := decide (l.length ≤ 160) && identL (baseL l)

theorem splitL_len {l h r : List UInt8} (e : splitL l = some (h, r)) : l.length = 9 + h.length + 1 + r.length := by
  obtain ⟨rfl, _⟩ := splitL_iff.1 e
  simp [trL_len]; omega
theorem baseN_more : ∀ (n : Nat) (l : List UInt8), l.length ≤ n → baseN n l = baseN l.length l
  | 0, l, h => by
    obtain rfl : l = [] := List.eq_nil_of_length_eq_zero (by omega)
    rfl
  | n + 1, l, h => by
    cases l with
    | nil => rfl
    | cons a m =>
      simp only [List.length_cons, baseN]
      cases hs : splitL (a :: m) with
      | none => rfl
      | some p =>
        obtain ⟨x, r⟩ := p
        have hl := splitL_len hs
        simp only [List.length_cons] at hl h
        simp only
        rw [baseN_more n r (by omega), baseN_more m.length r (by omega)]
theorem base_none {l : List UInt8} (h : splitL l = none) : baseL l = l ∧ hopsL l = 0 := by
  unfold baseL hopsL
  cases l with
  | nil => exact ⟨rfl, rfl⟩
  | cons a m => simp [List.length_cons, baseN, h]
theorem base_some {l x r : List UInt8} (h : splitL l = some (x, r)) : baseL l = baseL r ∧ hopsL l = hopsL r + 1 := by
  have hl := splitL_len h
  unfold baseL hopsL
  cases l with
  | nil => simp at hl; omega
  | cons a m =>
    simp only [List.length_cons] at hl
    simp only [List.length_cons, baseN, h]
    rw [baseN_more m.length r (by omega)]
    exact ⟨rfl, rfl⟩
theorem ident_nosplit {l : List UInt8} (h : identL l = true) : splitL l = none := by
  cases e : splitL l with
  | none => rfl
  | some p =>
    obtain ⟨x, r⟩ := p
    obtain ⟨rfl, _⟩ := splitL_iff.1 e
    exact absurd (by simp) (identL_no47 h)
theorem ident_denom {l : List UInt8} (h : identL l = true) : denomL l = true ∧ baseL l = l ∧ hopsL l = 0 := by
  obtain ⟨h1, h2⟩ := base_none (ident_nosplit h)
  have := identL_len h
  refine ⟨?_, h1, h2⟩
  unfold denomL
  rw [h1, h]
  simp; omega
theorem base_len : ∀ (n : Nat) (l : List UInt8), l.length ≤ n → (baseL l).length + 10 * hopsL l ≤ l.length
  | 0, l, h => by
    obtain rfl : l = [] := List.eq_nil_of_length_eq_zero (by omega)
    simp [baseL, hopsL, baseN]
  | n + 1, l, h => by
    cases e : splitL l with
    | none => obtain ⟨h1, h2⟩ := base_none e; rw [h1, h2]; omega
    | some p =>
      obtain ⟨x, r⟩ := p
      obtain ⟨h1, h2⟩ := base_some e
      have hl := splitL_len e
      have := base_len n r (by omega)
      rw [h1, h2]
      omega
theorem hops_zero {l : List UInt8} : hopsL l = 0 ↔ baseL l = l := by
  cases e : splitL l with
  | none => obtain ⟨h1, h2⟩ := base_none e; simp [h1, h2]
  | some p =>
    obtain ⟨x, r⟩ := p
    obtain ⟨h1, h2⟩ := base_some e
    have hl := splitL_len e
    have hb := base_len r.length r (Nat.le_refl _)
    constructor
    · intro h; omega
    · intro h
      rw [h1] at h
      have := congrArg List.length h
      omega
theorem denom_ident {l : List UInt8} (h : denomL l = true) : identL (baseL l) = true := by
  unfold denomL at h; simp only [Bool.and_eq_true] at h; exact h.2
theorem denom_len {l : List UInt8} (h : denomL l = true) : l.length ≤ 160 := by
  unfold denomL at h; simp only [Bool.and_eq_true, decide_eq_true_eq] at h; exact h.1

/-- one hop more -/
def overL (hop s : List UInt8) : List UInt8 × Int :=
  if identL hop = true then
    if denomL s = true ∧ hop.length + s.length + 10 ≤ 160 then (trL ++ hop ++ 47 :: s, 0) else ([], 41)
  else ([], 40)
theorem over_ok {hop s : List UInt8} (h : (overL hop s).2 = 0) : identL hop = true ∧ denomL s = true ∧ hop.length + s.length + 10 ≤ 160 ∧ (overL hop s).1 = trL ++ hop ++ 47 :: s := by
  unfold overL at h ⊢
  by_cases h1 : identL hop = true
  · rw [if_pos h1] at h ⊢
    by_cases h2 : denomL s = true ∧ hop.length + s.length + 10 ≤ 160
    · rw [if_pos h2] at h ⊢; exact ⟨h1, h2.1, h2.2, rfl⟩
    · rw [if_neg h2] at h; cases h
  · rw [if_neg h1] at h; cases h
theorem over_bad {hop s : List UInt8} (h : (overL hop s).2 ≠ 0) : (overL hop s).1 = [] := by
  unfold overL at h ⊢
  by_cases h1 : identL hop = true
  · rw [if_pos h1] at h ⊢
    by_cases h2 : denomL s = true ∧ hop.length + s.length + 10 ≤ 160
    · rw [if_pos h2] at h; exact absurd rfl h
    · rw [if_neg h2]
  · rw [if_neg h1]
theorem over_more {hop s : List UInt8} (hi : identL hop = true) (hd : denomL s = true) (hl : hop.length + s.length + 10 ≤ 160) :
    splitL (trL ++ hop ++ 47 :: s) = some (hop, s) ∧ denomL (trL ++ hop ++ 47 :: s) = true ∧ baseL (trL ++ hop ++ 47 :: s) = baseL s ∧ hopsL (trL ++ hop ++ 47 :: s) = hopsL s + 1 := by
  have h1 := splitL_iff.2 ⟨(rfl : trL ++ hop ++ 47 :: s = trL ++ hop ++ 47 :: s), hi⟩
  obtain ⟨h2, h3⟩ := base_some h1
  refine ⟨h1, ?_, h2, h3⟩
  unfold denomL
  rw [h2, denom_ident hd, splitL_len h1]
  simp; omega
theorem over_back {l h r : List UInt8} (e : splitL l = some (h, r)) (hd : denomL l = true) : overL h r = (l, 0) := by
  obtain ⟨h1, _⟩ := base_some e
  have hl := splitL_len e
  have hdl := denom_len hd
  obtain ⟨h3, h4⟩ := splitL_iff.1 e
  have hr : denomL r = true := by
    unfold denomL
    rw [← h1, denom_ident hd]
    simp; omega
  unfold overL
  rw [if_pos h4, if_pos ⟨hr, by omega⟩, h3]
end Go.Proofs.YtmphegeiclgjbaaGreatDoor
namespace Go.Proofs.YtmphegeiclgjbaaGreatDoor
set_option maxRecDepth 100000
open Go Go.RowKit

theorem small_any (c : UInt8) (w : World) : Calls Tryz.prog 97 #[.int .u8 (c.toNat : Int)] w fun e w' => e = .returned (.bool (smB c)) ∧ w = w' := by
  have hc := c.toNat_lt
  unfold smB
  by_cases h1 : 97 ≤ c.toNat
  · by_cases h2 : c.toNat ≤ 122
    · rw [decide_eq_true ⟨h1, h2⟩]
      have i1 : (97 : Int) ≤ (c.toNat : Int) := by omega
      have i2 : (c.toNat : Int) ≤ 122 := by omega
      go_enter Tryz.func97, Tryz.ntmps97
      go_wp2
      go_ret
      exact ⟨rfl, rfl⟩
    · rw [decide_eq_false (fun h => h2 h.2)]
      have i1 : (97 : Int) ≤ (c.toNat : Int) := by omega
      have i2 : ¬ (c.toNat : Int) ≤ 122 := by omega
      go_enter Tryz.func97, Tryz.ntmps97
      go_wp2
      go_ret
      exact ⟨rfl, rfl⟩
  · rw [decide_eq_false (fun h => h1 h.1)]
    have i1 : ¬ (97 : Int) ≤ (c.toNat : Int) := by omega
    go_enter Tryz.func97, Tryz.ntmps97
    go_wp2
    go_ret
    exact ⟨rfl, rfl⟩
theorem digit_any (c : UInt8) (w : World) : Calls Tryz.prog 98 #[.int .u8 (c.toNat : Int)] w fun e w' => e = .returned (.bool (dgB c)) ∧ w = w' := by
  have hc := c.toNat_lt
  unfold dgB
  by_cases h1 : 48 ≤ c.toNat
  · by_cases h2 : c.toNat ≤ 57
    · rw [decide_eq_true ⟨h1, h2⟩]
      have i1 : (48 : Int) ≤ (c.toNat : Int) := by omega
      have i2 : (c.toNat : Int) ≤ 57 := by omega
      go_enter Tryz.func98, Tryz.ntmps98
      go_wp2
      go_ret
      exact ⟨rfl, rfl⟩
    · rw [decide_eq_false (fun h => h2 h.2)]
      have i1 : (48 : Int) ≤ (c.toNat : Int) := by omega
      have i2 : ¬ (c.toNat : Int) ≤ 57 := by omega
      go_enter Tryz.func98, Tryz.ntmps98
      go_wp2
      go_ret
      exact ⟨rfl, rfl⟩
  · rw [decide_eq_false (fun h => h1 h.1)]
    have i1 : ¬ (48 : Int) ≤ (c.toNat : Int) := by omega
    go_enter Tryz.func98, Tryz.ntmps98
    go_wp2
    go_ret
    exact ⟨rfl, rfl⟩
end Go.Proofs.YtmphegeiclgjbaaGreatDoor
namespace Go.Proofs.YtmphegeiclgjbaaGreatDoor
set_option maxRecDepth 100000
open Go Go.RowKit

theorem identL_of (l : List UInt8) (h0 : 0 < l.length) (h32 : l.length ≤ 32) (hs : smB (l.getD 0 0) = true) : identL l = (l.drop 1).all okB := by
  cases l with
  | nil => simp at h0
  | cons c r =>
    simp only [List.length_cons] at h32
    simp only [List.getD_cons_zero] at hs
    simp only [identL, hs, List.drop_one, List.tail_cons, Bool.and_true]
    rw [decide_eq_true (by omega)]
    rfl
theorem identL_no (l : List UInt8) (h : l.length = 0 ∨ 32 < l.length ∨ smB (l.getD 0 0) = false) : identL l = false := by
  cases l with
  | nil => rfl
  | cons c r =>
    simp only [List.length_cons, List.getD_cons_zero] at h
    show (decide (r.length ≤ 31) && smB c && r.all okB) = false
    rcases h with h | h | h
    · omega
    · rw [decide_eq_false (by omega)]; rfl
    · rw [h]; simp
theorem data_get (s : ByteArray) (k : Nat) (h : k < s.size) : s.data.toList.getD k 0 = s[k] := by
  have hl : k < s.data.toList.length := by have := Lib.size_eq s; omega
  rw [List.getD_eq_getElem?_getD, List.getElem?_eq_getElem hl]; rfl
theorem all_more (l : List UInt8) (k : Nat) (h1 : 1 ≤ k) (h : k < l.length) : ((l.take (k + 1)).drop 1).all okB = (((l.take k).drop 1).all okB && okB (l.getD k 0)) := by
  have e : l.getD k 0 = l[k] := by rw [List.getD_eq_getElem?_getD, List.getElem?_eq_getElem h]; rfl
  rw [List.take_succ_eq_append_getElem h, List.drop_append_of_le_length (by rw [List.length_take]; omega), List.all_append, e]
  simp
theorem all_stop (l : List UInt8) (k : Nat) (h1 : 1 ≤ k) (h : k < l.length) (hn : okB (l.getD k 0) = false) : (l.drop 1).all okB = false := by
  have e : l.getD k 0 = l[k] := by rw [List.getD_eq_getElem?_getD, List.getElem?_eq_getElem h]; rfl
  rw [List.all_eq_false]
  refine ⟨l[k], ?_, by rw [← e, hn]; simp⟩
  rw [List.mem_iff_getElem?]
  exact ⟨k - 1, by rw [List.getElem?_drop, show 1 + (k - 1) = k by omega, List.getElem?_eq_getElem h]⟩

set_option maxHeartbeats 1000000 in
theorem ident_any (s : ByteArray) (w : World) (hs : s.size ≤ maxLen) : Calls Tryz.prog 49 #[.string s] w fun e w' => e = .returned (.bool (identL s.data.toList)) ∧ w = w' := by
  unfold maxLen at hs
  have hsz := Lib.size_eq s
  by_cases h0 : s.size = 0
  · have hl : s.data.toList = [] := List.eq_nil_of_length_eq_zero (by omega)
    have hl2 : s.toList = [] := by rw [Lib.toList_data]; exact hl
    rw [identL_no s.data.toList (.inl (by omega))]
    have H0 := Lib.hid h0
    clear h0 hsz
    go_enter Tryz.func49, Tryz.ntmps49
    go_wp2_with fail
    go_ret
    exact ⟨rfl, rfl⟩
  · have hne : ¬ s.toList = [] := by
      intro e
      rw [Lib.toList_data] at e
      rw [e] at hsz
      exact h0 hsz
    have hne2 : (!s.toList.isEmpty) = true := by
      cases h : s.toList with
      | nil => exact absurd h hne
      | cons a r => rfl
    have hne3 : (s.toList == []) = false := by simpa using hne
    by_cases h32 : s.size ≤ 32
    · have hpos : 0 < s.size := Nat.pos_of_ne_zero h0
      have g0 := data_get s 0 hpos
      cases hsm : smB s[0] with
      | false =>
        rw [identL_no s.data.toList (.inr (.inr (by rw [g0]; exact hsm)))]
        have H1 := Lib.hid g0
        have H2 := Lib.hid hsz
        clear g0 hsz
        go_enter Tryz.func49, Tryz.ntmps49
        go_wp2_with (go_at_call 97; refine (small_any _ _).mono ?_; rintro e w' ⟨rfl, rfl⟩)
        go_ret
        exact ⟨rfl, rfl⟩
      | true =>
        rw [identL_of s.data.toList (by omega) (by omega) (by rw [g0]; exact hsm)]
        have H1 := Lib.hid g0
        have H2 := Lib.hid hsz
        clear g0 hsz
        go_enter Tryz.func49, Tryz.ntmps49
        go_wp2_with (go_at_call 97; refine (small_any _ _).mono ?_; rintro e w' ⟨rfl, rfl⟩)
        clear hne hne2 hne3 hsm
        go_loop [3] (fun i => ∃ k : Nat, 1 ≤ k ∧ k ≤ s.size ∧ i = .int .i64 k ∧ ((s.data.toList.take k).drop 1).all okB = true) (fun i => s.size - (intOf i).toNat)
        case atStart => exact ⟨1, by omega, by omega, rfl, by rw [List.drop_of_length_le (by rw [List.length_take]; omega)]; rfl⟩
        case round =>
          obtain ⟨k, hk1, hk, rfl, hall⟩ := hrel
          have HA := Lib.hid hall
          clear hall
          by_cases hlt : k < s.size
          · have HG := Lib.hid (data_get s k hlt)
            have HM := Lib.hid (all_more s.data.toList k hk1 (by have := H2.out; omega))
            cases e1 : smB s[k] with
            | true =>
              go_wp2_with (first | (go_at_call 97; refine (small_any _ _).mono ?_; rintro e w' ⟨rfl, rfl⟩) | (go_at_call 98; refine (digit_any _ _).mono ?_; rintro e w' ⟨rfl, rfl⟩))
              go_round
              case rel => exact ⟨k + 1, by omega, by omega, by go_num, by rw [HM.out, HA.out, HG.out]; unfold okB; rw [e1]; rfl⟩
              case measure => simp [intOf]; omega
            | false =>
              cases e2 : dgB s[k] with
              | true =>
                go_wp2_with (first | (go_at_call 97; refine (small_any _ _).mono ?_; rintro e w' ⟨rfl, rfl⟩) | (go_at_call 98; refine (digit_any _ _).mono ?_; rintro e w' ⟨rfl, rfl⟩))
                go_round
                case rel => exact ⟨k + 1, by omega, by omega, by go_num, by rw [HM.out, HA.out, HG.out]; unfold okB; rw [e2]; cases smB s[k] <;> rfl⟩
                case measure => simp [intOf]; omega
              | false =>
                by_cases c45 : s[k].toNat = 45
                · have b1 : ((s[k].toNat : Int) == 45) = true := by rw [c45]; rfl
                  have b2 : ((s[k].toNat : Int) != 45) = false := by rw [c45]; rfl
                  have HC := Lib.hid c45
                  clear c45
                  go_wp2_with (first | (go_at_call 97; refine (small_any _ _).mono ?_; rintro e w' ⟨rfl, rfl⟩) | (go_at_call 98; refine (digit_any _ _).mono ?_; rintro e w' ⟨rfl, rfl⟩))
                  go_round
                  case rel => exact ⟨k + 1, by omega, by omega, by go_num, by rw [HM.out, HA.out, HG.out]; unfold okB; rw [HC.out]; cases smB s[k] <;> cases dgB s[k] <;> rfl⟩
                  case measure => simp [intOf]; omega
                · have b1 : ((s[k].toNat : Int) == 45) = false := by rw [beq_eq_false_iff_ne]; omega
                  have b2 : ((s[k].toNat : Int) != 45) = true := by rw [bne_iff_ne]; omega
                  by_cases c46 : s[k].toNat = 46
                  · have b3 : ((s[k].toNat : Int) == 46) = true := by rw [c46]; rfl
                    have b4 : ((s[k].toNat : Int) != 46) = false := by rw [c46]; rfl
                    have HC := Lib.hid c46
                    clear c46
                    go_wp2_with (first | (go_at_call 97; refine (small_any _ _).mono ?_; rintro e w' ⟨rfl, rfl⟩) | (go_at_call 98; refine (digit_any _ _).mono ?_; rintro e w' ⟨rfl, rfl⟩))
                    go_round
                    case rel => exact ⟨k + 1, by omega, by omega, by go_num, by rw [HM.out, HA.out, HG.out]; unfold okB; rw [HC.out]; cases smB s[k] <;> cases dgB s[k] <;> rfl⟩
                    case measure => simp [intOf]; omega
                  · have b3 : ((s[k].toNat : Int) == 46) = false := by rw [beq_eq_false_iff_ne]; omega
                    have b4 : ((s[k].toNat : Int) != 46) = true := by rw [bne_iff_ne]; omega
                    have HS := Lib.hid (all_stop s.data.toList k hk1 (by have := H2.out; omega) (by rw [HG.out]; unfold okB; rw [e1, e2, decide_eq_false c45, decide_eq_false c46]; rfl))
                    clear c45 c46
                    go_wp2_with (first | (go_at_call 97; refine (small_any _ _).mono ?_; rintro e w' ⟨rfl, rfl⟩) | (go_at_call 98; refine (digit_any _ _).mono ?_; rintro e w' ⟨rfl, rfl⟩))
                    go_ret
                    refine ⟨?_, rfl⟩
                    rw [HS.out]
                    rfl
          · have hk2 : k = s.size := by omega
            have HK := Lib.hid hk2
            clear hk2
            go_wp2
            go_ret
            refine ⟨?_, rfl⟩
            have := HA.out
            rw [List.take_of_length_le (by have := H2.out; have := HK.out; omega)] at this
            rw [List.drop_one] at this
            rw [this]
            rfl
    · rw [identL_no s.data.toList (.inr (.inl (by omega)))]
      have H2 := Lib.hid hsz
      clear hsz
      go_enter Tryz.func49, Tryz.ntmps49
      go_wp2_with fail
      go_ret
      exact ⟨rfl, rfl⟩
end Go.Proofs.YtmphegeiclgjbaaGreatDoor
namespace Go.Proofs.YtmphegeiclgjbaaGreatDoor
set_option maxRecDepth 100000
open Go Go.RowKit

set_option maxHeartbeats 1000000 in
theorem hasPrefix_any (s p : ByteArray) (w : World) :
    Calls Tryz.prog 137 #[.string s, .string p] w fun e w' => e = .returned (.bool (Lib.hasPrefix s.data.toList p.data.toList)) ∧ w = w' := by
  rw [← Lib.hasPrefix_of_take, ← Lib.size_eq, ← Lib.size_eq]
  go_enter Tryz.func137, Tryz.ntmps137
  go_wp2
  · rename_i h
    go_ret
    refine ⟨?_, rfl⟩
    show Ending.returned (Value.bool ((s.extract 0 p.size).toList == p.toList)) = _
    rw [Lib.extract_toList, Lib.toList_data]
    simp [h]
  · rename_i h
    go_ret
    refine ⟨?_, rfl⟩
    show Ending.returned (Value.bool false) = _
    simp [h]

/-- what Cut hands back at a slash -/
def cutL (l : List UInt8) : List UInt8 × List UInt8 × Bool :=
  if Lib.indexByte l 47 = -1 then (l, [], false) else (l.take (Lib.indexByte l 47).toNat, l.drop ((Lib.indexByte l 47).toNat + 1), true)

/-- what split hands back -/
def splitV (l : List UInt8) : Value := match splitL l with
  | some (h, r) => .tuple #[.string ⟨h.toArray⟩, .string ⟨r.toArray⟩, .bool true]
  | none => .tuple #[.string ByteArray.empty, .string ByteArray.empty, .bool false]
theorem splitV_miss {l : List UInt8} (h : Lib.hasPrefix l trL = false) : splitV l = .tuple #[.string ByteArray.empty, .string ByteArray.empty, .bool false] := by
  unfold splitV splitL; rw [if_neg (by rw [h]; simp)]

end Go.Proofs.YtmphegeiclgjbaaGreatDoor
namespace Go.Proofs.YtmphegeiclgjbaaGreatDoor
set_option maxRecDepth 100000
open Go Go.RowKit

theorem size_mk (l : List UInt8) : (⟨l.toArray⟩ : ByteArray).size = l.length := by rw [Lib.size_eq]
theorem splitV_some {l h r : List UInt8} (e : splitL l = some (h, r)) : splitV l = .tuple #[.string ⟨h.toArray⟩, .string ⟨r.toArray⟩, .bool true] := by unfold splitV; rw [e]
theorem splitV_none {l : List UInt8} (e : splitL l = none) : splitV l = .tuple #[.string ByteArray.empty, .string ByteArray.empty, .bool false] := by unfold splitV; rw [e]
/-- the base is an identifier -/
def endsB (l : List UInt8) : Bool := identL (baseL l)

end Go.Proofs.YtmphegeiclgjbaaGreatDoor
