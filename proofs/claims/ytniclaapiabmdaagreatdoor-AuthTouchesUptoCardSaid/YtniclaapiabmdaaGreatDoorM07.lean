/- Texts joined: NameI1, BankM0, PrX. -/
import Derived.Lib.Bytealg
import Derived.Lib.Strings
import Derived.Test.YtniclaapiabmdaaGreatDoorProg
import Derived.WalkKit
import Derived.WalkSpells
import Derived.Deep.QuietTactic
import Derived.BigQuiet
import Derived.Deep.Draws
import Derived.Lib.Hide
import Derived.LoopTactic
import Derived.Laws.Externs
import Derived.Lib.CutLaws
import Derived.Lib.Walk
import Derived.Laws.Strings3
import Derived.Test.YtniclaapiabmdaaGreatDoorM05
import Derived.Test.YtniclaapiabmdaaGreatDoorM06
import Derived.Test.YtniclaapiabmdaaGreatDoorM03
import Derived.Test.YtniclaapiabmdaaGreatDoorM04
namespace Go.Proofs.YtniclaapiabmdaaGreatDoor
set_option maxRecDepth 100000
open Go

def smB (c : UInt8) : Bool := decide (97 ≤ c.toNat ∧ c.toNat ≤ 122)
def dgB (c : UInt8) : Bool := decide (48 ≤ c.toNat ∧ c.toNat ≤ 57)
def okB (c : UInt8) : Bool := smB c || dgB c || decide (c.toNat = 45) || decide (c.toNat = 46)
/-- is it an identifier? -/
def identL : List UInt8 → Bool
  | [] => false
  | c :: r => decide (r.length ≤ 31) && smB c && r.all okB
/-- what stands ahead of each hop -/
def trL : List UInt8 := [116, 114, 97, 110, 115, 102, 101, 114, 47]
def splitL (l : List UInt8) : Option (List UInt8 × List UInt8) :=
  if Lib.hasPrefix l trL = true then
    if Lib.indexByte (l.drop 9) 47 = -1 then none
    else if identL ((l.drop 9).take (Lib.indexByte (l.drop 9) 47).toNat) = true then
      some ((l.drop 9).take (Lib.indexByte (l.drop 9) 47).toNat, (l.drop 9).drop ((Lib.indexByte (l.drop 9) 47).toNat + 1))
    else none
  else none

theorem okB_of_sm {c : UInt8} (h : smB c = true) : okB c = true := by simp [okB, h]
theorem okB_47 : okB 47 = false := by decide
theorem identL_all {l : List UInt8} (h : identL l = true) : ∀ c ∈ l, okB c = true := by
  cases l with
  | nil => cases h
  | cons a r =>
    simp only [identL, Bool.and_eq_true, List.all_eq_true] at h
    intro c hc
    rcases List.mem_cons.1 hc with rfl | hc
    · exact okB_of_sm h.1.2
    · exact h.2 c hc
theorem identL_no47 {l : List UInt8} (h : identL l = true) : (47 : UInt8) ∉ l := by
  intro hc
  have := identL_all h 47 hc
  rw [okB_47] at this
  cases this
theorem indexByte_miss {l : List UInt8} {c : UInt8} : Lib.indexByte l c = -1 ↔ c ∉ l := by
  induction l with
  | nil => simp [Lib.indexByte]
  | cons b l ih =>
    have hg := Lib.indexByte_ge l c
    unfold Lib.indexByte
    by_cases hb : b = c
    · subst hb; simp
    · have hb' : (b == c) = false := by simpa using hb
      rw [hb']
      simp only [Bool.false_eq_true, if_false, List.mem_cons, not_or]
      by_cases hi : Lib.indexByte l c = -1
      · rw [hi]
        simp only [beq_self_eq_true, if_true, true_iff]
        exact ⟨fun e => hb e.symm, ih.1 hi⟩
      · have h2 : (Lib.indexByte l c == -1) = false := by simpa using hi
        rw [h2]
        simp only [Bool.false_eq_true, if_false]
        constructor
        · intro h; omega
        · rintro ⟨_, h⟩; exact absurd (ih.2 h) hi
theorem indexByte_app {h r : List UInt8} {c : UInt8} (hc : c ∉ h) : Lib.indexByte (h ++ c :: r) c = h.length := by
  induction h with
  | nil => simp [Lib.indexByte]
  | cons b l ih =>
    have h1 : ¬ c = b := fun e => hc (by simp [e])
    have h2 : c ∉ l := fun e => hc (by simp [e])
    have hb' : (b == c) = false := by simpa using fun e => h1 e.symm
    have ih := ih h2
    simp only [List.cons_append]
    unfold Lib.indexByte
    rw [hb', ih]
    have h3 : (((l.length : Nat) : Int) == -1) = false := by rw [beq_eq_false_iff_ne]; omega
    rw [h3]
    simp
/-- where a byte is found: the bytes ahead of it and behind it -/
theorem indexByte_hit {l : List UInt8} {c : UInt8} (h : Lib.indexByte l c ≠ -1) :
    l = l.take (Lib.indexByte l c).toNat ++ c :: l.drop ((Lib.indexByte l c).toNat + 1) ∧ c ∉ l.take (Lib.indexByte l c).toNat ∧ (Lib.indexByte l c).toNat < l.length := by
  have hm : c ∈ l := Classical.byContradiction fun hn => h (indexByte_miss.2 hn)
  obtain ⟨a, b, rfl, hn⟩ : ∃ a b, l = a ++ c :: b ∧ c ∉ a := by
    clear h
    induction l with
    | nil => cases hm
    | cons x l ih =>
      by_cases e : c = x
      · exact ⟨[], l, by rw [e]; rfl, by simp⟩
      · rcases List.mem_cons.1 hm with h | h
        · exact absurd h e
        · obtain ⟨a, b, rfl, hn⟩ := ih h
          exact ⟨x :: a, b, rfl, by simp [e, hn]⟩
  rw [indexByte_app hn]
  simp [hn]

theorem hasPrefix_iff {l p : List UInt8} : Lib.hasPrefix l p = true ↔ ∃ r, l = p ++ r := by
  unfold Lib.hasPrefix
  rw [List.isPrefixOf_iff_prefix]
  constructor
  · rintro ⟨r, h⟩; exact ⟨r, h.symm⟩
  · rintro ⟨r, h⟩; exact ⟨r, h.symm⟩

theorem trL_len : trL.length = 9 := rfl
theorem splitL_iff {l h r : List UInt8} : splitL l = some (h, r) ↔ l = trL ++ h ++ 47 :: r ∧ identL h = true := by
  constructor
  · intro e
    unfold splitL at e
    split at e
    case isFalse => cases e
    case isTrue hp =>
      obtain ⟨t, rfl⟩ := hasPrefix_iff.1 hp
      have ht : (trL ++ t).drop 9 = t := by rw [← trL_len]; simp
      rw [ht] at e
      split at e
      · cases e
      · rename_i hne
        split at e
        case isFalse => cases e
        case isTrue hid =>
          obtain ⟨h1, h2, h3⟩ := indexByte_hit hne
          simp only [Option.some.injEq, Prod.mk.injEq] at e
          rw [e.1, e.2] at h1
          rw [e.1] at hid
          exact ⟨by rw [List.append_assoc, ← h1], hid⟩
  · rintro ⟨rfl, hid⟩
    unfold splitL
    have hp : Lib.hasPrefix (trL ++ h ++ 47 :: r) trL = true := hasPrefix_iff.2 ⟨h ++ 47 :: r, by rw [List.append_assoc]⟩
    have ht : (trL ++ h ++ 47 :: r).drop 9 = h ++ 47 :: r := by rw [List.append_assoc, ← trL_len]; simp
    rw [if_pos hp, ht, indexByte_app (identL_no47 hid), if_neg (by omega)]
    simp [hid]

/-- the base, and how many hops stand ahead of it -/
def baseN : Nat → List UInt8 → List UInt8 × Nat
  | 0, l => (l, 0)
  | n + 1, l => match splitL l with
    | none => (l, 0)
    | some (_, r) => ((baseN n r).1, (baseN n r).2 + 1)
def baseL (l : List UInt8) : List UInt8 := (baseN l.length l).1
def hopsL (l : List UInt8) : Nat := (baseN l.length l).2
def denomL (l : List UInt8) : Bool := decide (l.length ≤ 160) && identL (baseL l)

theorem splitL_len {l h r : List UInt8} (e : splitL l = some (h, r)) : l.length = 9 + h.length + 1 + r.length := by
  obtain ⟨rfl, _⟩ := splitL_iff.1 e
  simp [trL_len]; omega
theorem baseN_more : ∀ (n : Nat) (l : List UInt8), l.length ≤ n → baseN n l = baseN l.length l
  | 0, l, h => by
    obtain rfl : l = [] := List.eq_nil_of_length_eq_zero (by omega)
    rfl
  | n + 1, l, h => by
    cases l with
    | nil => rfl
    | cons a m =>
      simp only [List.length_cons, baseN]
      cases hs : splitL (a :: m) with
      | none => rfl
      | some p =>
        obtain ⟨x, r⟩ := p
        have hl := splitL_len hs
        simp only [List.length_cons] at hl h
        simp only
        rw [baseN_more n r (by omega), baseN_more m.length r (by omega)]
theorem base_none {l : List UInt8} (h : splitL l = none) : baseL l = l ∧ hopsL l = 0 := by
  unfold baseL hopsL
  cases l with
  | nil => exact ⟨rfl, rfl⟩
  | cons a m => simp [List.length_cons, baseN, h]
theorem base_some {l x r : List UInt8} (h : splitL l = some (x, r)) : baseL l = baseL r ∧ hopsL l = hopsL r + 1 := by
  have hl := splitL_len h
  unfold baseL hopsL
  cases l with
  | nil => simp at hl; omega
  | cons a m =>
    simp only [List.length_cons] at hl
    simp only [List.length_cons, baseN, h]
    rw [baseN_more m.length r (by omega)]
    exact ⟨rfl, rfl⟩
/-- one hop more -/
def overL (hop s : List UInt8) : List UInt8 × Int :=
  if identL hop = true then
    if denomL s = true ∧ hop.length + s.length + 10 ≤ 160 then (trL ++ hop ++ 47 :: s, 0) else ([], 41)
  else ([], 40)
end Go.Proofs.YtniclaapiabmdaaGreatDoor
namespace Go.Proofs.YtniclaapiabmdaaGreatDoor
set_option maxRecDepth 100000
open Go Go.RowKit

theorem small_any (c : UInt8) (w : World) : Calls Tryz.prog 96 #[.int .u8 (c.toNat : Int)] w fun e w' => e = .returned (.bool (smB c)) ∧ w = w' := by
  have hc := c.toNat_lt
  unfold smB
  by_cases h1 : 97 ≤ c.toNat
  · by_cases h2 : c.toNat ≤ 122
    · rw [decide_eq_true ⟨h1, h2⟩]
      have i1 : (97 : Int) ≤ (c.toNat : Int) := by omega
      have i2 : (c.toNat : Int) ≤ 122 := by omega
      go_enter Tryz.func96, Tryz.ntmps96
      go_wp2
      go_ret
      exact ⟨rfl, rfl⟩
    · rw [decide_eq_false (fun h => h2 h.2)]
      have i1 : (97 : Int) ≤ (c.toNat : Int) := by omega
      have i2 : ¬ (c.toNat : Int) ≤ 122 := by omega
      go_enter Tryz.func96, Tryz.ntmps96
      go_wp2
      go_ret
      exact ⟨rfl, rfl⟩
  · rw [decide_eq_false (fun h => h1 h.1)]
    have i1 : ¬ (97 : Int) ≤ (c.toNat : Int) := by omega
    go_enter Tryz.func96, Tryz.ntmps96
    go_wp2
    go_ret
    exact ⟨rfl, rfl⟩
theorem digit_any (c : UInt8) (w : World) : Calls Tryz.prog 97 #[.int .u8 (c.toNat : Int)] w fun e w' => e = .returned (.bool (dgB c)) ∧ w = w' := by
  have hc := c.toNat_lt
  unfold dgB
  by_cases h1 : 48 ≤ c.toNat
  · by_cases h2 : c.toNat ≤ 57
    · rw [decide_eq_true ⟨h1, h2⟩]
      have i1 : (48 : Int) ≤ (c.toNat : Int) := by omega
      have i2 : (c.toNat : Int) ≤ 57 := by omega
      go_enter Tryz.func97, Tryz.ntmps97
      go_wp2
      go_ret
      exact ⟨rfl, rfl⟩
    · rw [decide_eq_false (fun h => h2 h.2)]
      have i1 : (48 : Int) ≤ (c.toNat : Int) := by omega
      have i2 : ¬ (c.toNat : Int) ≤ 57 := by omega
      go_enter Tryz.func97, Tryz.ntmps97
      go_wp2
      go_ret
      exact ⟨rfl, rfl⟩
  · rw [decide_eq_false (fun h => h1 h.1)]
    have i1 : ¬ (48 : Int) ≤ (c.toNat : Int) := by omega
    go_enter Tryz.func97, Tryz.ntmps97
    go_wp2
    go_ret
    exact ⟨rfl, rfl⟩
end Go.Proofs.YtniclaapiabmdaaGreatDoor
namespace Go.Proofs.YtniclaapiabmdaaGreatDoor
set_option maxRecDepth 100000
open Go Go.RowKit

theorem identL_of (l : List UInt8) (h0 : 0 < l.length) (h32 : l.length ≤ 32) (hs : smB (l.getD 0 0) = true) : identL l = (l.drop 1).all okB := by
  cases l with
  | nil => simp at h0
  | cons c r =>
    simp only [List.length_cons] at h32
    simp only [List.getD_cons_zero] at hs
    simp only [identL, hs, List.drop_one, List.tail_cons, Bool.and_true]
    rw [decide_eq_true (by omega)]
    rfl
theorem identL_no (l : List UInt8) (h : l.length = 0 ∨ 32 < l.length ∨ smB (l.getD 0 0) = false) : identL l = false := by
  cases l with
  | nil => rfl
  | cons c r =>
    simp only [List.length_cons, List.getD_cons_zero] at h
    show (decide (r.length ≤ 31) && smB c && r.all okB) = false
    rcases h with h | h | h
    · omega
    · rw [decide_eq_false (by omega)]; rfl
    · rw [h]; simp
theorem data_get (s : ByteArray) (k : Nat) (h : k < s.size) : s.data.toList.getD k 0 = s[k] := by
  have hl : k < s.data.toList.length := by have := Lib.size_eq s; omega
  rw [List.getD_eq_getElem?_getD, List.getElem?_eq_getElem hl]; rfl
theorem all_more (l : List UInt8) (k : Nat) (h1 : 1 ≤ k) (h : k < l.length) : ((l.take (k + 1)).drop 1).all okB = (((l.take k).drop 1).all okB && okB (l.getD k 0)) := by
  have e : l.getD k 0 = l[k] := by rw [List.getD_eq_getElem?_getD, List.getElem?_eq_getElem h]; rfl
  rw [List.take_succ_eq_append_getElem h, List.drop_append_of_le_length (by rw [List.length_take]; omega), List.all_append, e]
  simp
theorem all_stop (l : List UInt8) (k : Nat) (h1 : 1 ≤ k) (h : k < l.length) (hn : okB (l.getD k 0) = false) : (l.drop 1).all okB = false := by
  have e : l.getD k 0 = l[k] := by rw [List.getD_eq_getElem?_getD, List.getElem?_eq_getElem h]; rfl
  rw [List.all_eq_false]
  refine ⟨l[k], ?_, by rw [← e, hn]; simp⟩
  rw [List.mem_iff_getElem?]
  exact ⟨k - 1, by rw [List.getElem?_drop, show 1 + (k - 1) = k by omega, List.getElem?_eq_getElem h]⟩

set_option maxHeartbeats 1000000 in
theorem ident_any (s : ByteArray) (w : World) (hs : s.size ≤ maxLen) : Calls Tryz.prog 43 #[.string s] w fun e w' => e = .returned (.bool (identL s.data.toList)) ∧ w = w' := by
  unfold maxLen at hs
  have hsz := Lib.size_eq s
  by_cases h0 : s.size = 0
  · have hl : s.data.toList = [] := List.eq_nil_of_length_eq_zero (by omega)
    have hl2 : s.toList = [] := by rw [Lib.toList_data]; exact hl
    rw [identL_no s.data.toList (.inl (by omega))]
    have H0 := Lib.hid h0
    clear h0 hsz
    go_enter Tryz.func43, Tryz.ntmps43
    go_wp2_with fail
    go_ret
    exact ⟨rfl, rfl⟩
  · have hne : ¬ s.toList = [] := by
      intro e
      rw [Lib.toList_data] at e
      rw [e] at hsz
      exact h0 hsz
    have hne2 : (!s.toList.isEmpty) = true := by
      cases h : s.toList with
      | nil => exact absurd h hne
      | cons a r => rfl
    have hne3 : (s.toList == []) = false := by simpa using hne
    by_cases h32 : s.size ≤ 32
    · have hpos : 0 < s.size := Nat.pos_of_ne_zero h0
      have g0 := data_get s 0 hpos
      cases hsm : smB s[0] with
      | false =>
        rw [identL_no s.data.toList (.inr (.inr (by rw [g0]; exact hsm)))]
        have H1 := Lib.hid g0
        have H2 := Lib.hid hsz
        clear g0 hsz
        go_enter Tryz.func43, Tryz.ntmps43
        go_wp2_with (go_at_call 96; refine (small_any _ _).mono ?_; rintro e w' ⟨rfl, rfl⟩)
        go_ret
        exact ⟨rfl, rfl⟩
      | true =>
        rw [identL_of s.data.toList (by omega) (by omega) (by rw [g0]; exact hsm)]
        have H1 := Lib.hid g0
        have H2 := Lib.hid hsz
        clear g0 hsz
        go_enter Tryz.func43, Tryz.ntmps43
        go_wp2_with (go_at_call 96; refine (small_any _ _).mono ?_; rintro e w' ⟨rfl, rfl⟩)
        clear hne hne2 hne3 hsm
        go_loop [3] (fun i => ∃ k : Nat, 1 ≤ k ∧ k ≤ s.size ∧ i = .int .i64 k ∧ ((s.data.toList.take k).drop 1).all okB = true) (fun i => s.size - (intOf i).toNat)
        case atStart => exact ⟨1, by omega, by omega, rfl, by rw [List.drop_of_length_le (by rw [List.length_take]; omega)]; rfl⟩
        case round =>
          obtain ⟨k, hk1, hk, rfl, hall⟩ := hrel
          have HA := Lib.hid hall
          clear hall
          by_cases hlt : k < s.size
          · have HG := Lib.hid (data_get s k hlt)
            have HM := Lib.hid (all_more s.data.toList k hk1 (by have := H2.out; omega))
            cases e1 : smB s[k] with
            | true =>
              go_wp2_with (first | (go_at_call 96; refine (small_any _ _).mono ?_; rintro e w' ⟨rfl, rfl⟩) | (go_at_call 97; refine (digit_any _ _).mono ?_; rintro e w' ⟨rfl, rfl⟩))
              go_round
              case rel => exact ⟨k + 1, by omega, by omega, by go_num, by rw [HM.out, HA.out, HG.out]; unfold okB; rw [e1]; rfl⟩
              case measure => simp [intOf]; omega
            | false =>
              cases e2 : dgB s[k] with
              | true =>
                go_wp2_with (first | (go_at_call 96; refine (small_any _ _).mono ?_; rintro e w' ⟨rfl, rfl⟩) | (go_at_call 97; refine (digit_any _ _).mono ?_; rintro e w' ⟨rfl, rfl⟩))
                go_round
                case rel => exact ⟨k + 1, by omega, by omega, by go_num, by rw [HM.out, HA.out, HG.out]; unfold okB; rw [e2]; cases smB s[k] <;> rfl⟩
                case measure => simp [intOf]; omega
              | false =>
                by_cases c45 : s[k].toNat = 45
                · have b1 : ((s[k].toNat : Int) == 45) = true := by rw [c45]; rfl
                  have b2 : ((s[k].toNat : Int) != 45) = false := by rw [c45]; rfl
                  have HC := Lib.hid c45
                  clear c45
                  go_wp2_with (first | (go_at_call 96; refine (small_any _ _).mono ?_; rintro e w' ⟨rfl, rfl⟩) | (go_at_call 97; refine (digit_any _ _).mono ?_; rintro e w' ⟨rfl, rfl⟩))
                  go_round
                  case rel => exact ⟨k + 1, by omega, by omega, by go_num, by rw [HM.out, HA.out, HG.out]; unfold okB; rw [HC.out]; cases smB s[k] <;> cases dgB s[k] <;> rfl⟩
                  case measure => simp [intOf]; omega
                · have b1 : ((s[k].toNat : Int) == 45) = false := by rw [beq_eq_false_iff_ne]; omega
                  have b2 : ((s[k].toNat : Int) != 45) = true := by rw [bne_iff_ne]; omega
                  by_cases c46 : s[k].toNat = 46
                  · have b3 : ((s[k].toNat : Int) == 46) = true := by rw [c46]; rfl
                    have b4 : ((s[k].toNat : Int) != 46) = false := by rw [c46]; rfl
                    have HC := Lib.hid c46
                    clear c46
                    go_wp2_with (first | (go_at_call 96; refine (small_any _ _).mono ?_; rintro e w' ⟨rfl, rfl⟩) | (go_at_call 97; refine (digit_any _ _).mono ?_; rintro e w' ⟨rfl, rfl⟩))
                    go_round
                    case rel => exact ⟨k + 1, by omega, by omega, by go_num, by rw [HM.out, HA.out, HG.out]; unfold okB; rw [HC.out]; cases smB s[k] <;> cases dgB s[k] <;> rfl⟩
                    case measure => simp [intOf]; omega
                  · have b3 : ((s[k].toNat : Int) == 46) = false := by rw [beq_eq_false_iff_ne]; omega
                    have b4 : ((s[k].toNat : Int) != 46) = true := by rw [bne_iff_ne]; omega
                    have HS := Lib.hid (all_stop s.data.toList k hk1 (by have := H2.out; omega) (by rw [HG.out]; unfold okB; rw [e1, e2, decide_eq_false c45, decide_eq_false c46]; rfl))
                    clear c45 c46
                    go_wp2_with (first | (go_at_call 96; refine (small_any _ _).mono ?_; rintro e w' ⟨rfl, rfl⟩) | (go_at_call 97; refine (digit_any _ _).mono ?_; rintro e w' ⟨rfl, rfl⟩))
                    go_ret
                    refine ⟨?_, rfl⟩
                    rw [HS.out]
                    rfl
          · have hk2 : k = s.size := by omega
            have HK := Lib.hid hk2
            clear hk2
            go_wp2
            go_ret
            refine ⟨?_, rfl⟩
            have := HA.out
            rw [List.take_of_length_le (by have := H2.out; have := HK.out; omega)] at this
            rw [List.drop_one] at this
            rw [this]
            rfl
    · rw [identL_no s.data.toList (.inr (.inl (by omega)))]
      have H2 := Lib.hid hsz
      clear hsz
      go_enter Tryz.func43, Tryz.ntmps43
      go_wp2_with fail
      go_ret
      exact ⟨rfl, rfl⟩
end Go.Proofs.YtniclaapiabmdaaGreatDoor
namespace Go.Proofs.YtniclaapiabmdaaGreatDoor
set_option maxRecDepth 100000
open Go Go.RowKit

set_option maxHeartbeats 1000000 in
theorem hasPrefix_any (s p : ByteArray) (w : World) :
    Calls Tryz.prog 123 #[.string s, .string p] w fun e w' => e = .returned (.bool (Lib.hasPrefix s.data.toList p.data.toList)) ∧ w = w' := by
  rw [← Lib.hasPrefix_of_take, ← Lib.size_eq, ← Lib.size_eq]
  go_enter Tryz.func123, Tryz.ntmps123
  go_wp2
  · rename_i h
    go_ret
    refine ⟨?_, rfl⟩
    show Ending.returned (Value.bool ((s.extract 0 p.size).toList == p.toList)) = _
    rw [Lib.extract_toList, Lib.toList_data]
    simp [h]
  · rename_i h
    go_ret
    refine ⟨?_, rfl⟩
    show Ending.returned (Value.bool false) = _
    simp [h]

set_option maxHeartbeats 1000000 in
theorem litecut_any (s p : ByteArray) (w : World) :
    Calls Tryz.prog 176 #[.string s, .string p] w fun e w' => e = .returned (.tuple #[.string ⟨(Lib.trimPrefix s.data.toList p.data.toList).toArray⟩, .bool (Lib.hasPrefix s.data.toList p.data.toList)]) ∧ w = w' := by
  by_cases h1 : p.size ≤ s.size
  · cases h2 : ((s.extract 0 p.size).toList == p.toList)
    · have hh : Lib.hasPrefix s.data.toList p.data.toList = false := by rw [← Lib.hasPrefix_raw, h2]; simp
      go_enter Tryz.func176, Tryz.ntmps176
      go_wp2_with (go_at_call 123; refine (hasPrefix_any _ _ _).mono ?_; rintro e w' ⟨rfl, rfl⟩; rw [hh])
      go_ret2
      refine ⟨?_, rfl⟩
      rw [Lib.trimPrefix_miss s p (by rw [h2]; simp), hh]
      rfl
    · have hh : Lib.hasPrefix s.data.toList p.data.toList = true := by rw [← Lib.hasPrefix_raw, h2]; simp [h1]
      go_enter Tryz.func176, Tryz.ntmps176
      go_wp2_with (go_at_call 123; refine (hasPrefix_any _ _ _).mono ?_; rintro e w' ⟨rfl, rfl⟩; rw [hh])
      go_ret2
      refine ⟨?_, rfl⟩
      rw [Lib.trimPrefix_hit s p h1 h2, hh]
      rfl
  · have hh : Lib.hasPrefix s.data.toList p.data.toList = false := by rw [← Lib.hasPrefix_raw]; simp [h1]
    go_enter Tryz.func176, Tryz.ntmps176
    go_wp2_with (go_at_call 123; refine (hasPrefix_any _ _ _).mono ?_; rintro e w' ⟨rfl, rfl⟩; rw [hh])
    go_ret2
    refine ⟨?_, rfl⟩
    rw [Lib.trimPrefix_miss s p (by simp [h1]), hh]
    rfl

set_option maxHeartbeats 1000000 in
theorem cutPrefix_any (s p : ByteArray) (w : World) :
    Calls Tryz.prog 143 #[.string s, .string p] w fun e w' => e = .returned (.tuple #[.string ⟨(Lib.trimPrefix s.data.toList p.data.toList).toArray⟩, .bool (Lib.hasPrefix s.data.toList p.data.toList)]) ∧ w = w' := by
  go_enter Tryz.func143, Tryz.ntmps143
  go_wp2_with (go_at_call 176; refine (litecut_any _ _ _).mono ?_; rintro e w' ⟨rfl, rfl⟩)
  go_ret2
  exact ⟨rfl, rfl⟩

set_option maxHeartbeats 1000000 in
theorem indexByte_any (s : ByteArray) (c : Int) (w : World) :
    Calls Tryz.prog 200 #[.string s, .int .u8 c] w fun e w' => e = .returned (.int .i64 (Lib.indexByte s.data.toList c.toNat.toUInt8)) ∧ w = w' := by
  go_enter Tryz.func200, Tryz.ntmps200
  go_wp2
  rw [run_callFunc_extern Tryz.func204 (by kernel_rfl) (by kernel_rfl) (by kernel_rfl) (e := Extern.BytealgIndexByte.indexByte) (by kernel_rfl), Lib.run_indexByteString]
  simp only [Result.andThen]
  rw [Oper.upon_value]
  go_wp2
  go_ret
  exact ⟨rfl, rfl⟩

set_option maxHeartbeats 1000000 in
theorem index_one_any (s : ByteArray) (w : World) :
    Calls Tryz.prog 197 #[.string s, .string ⟨#[47]⟩] w fun e w' => e = .returned (.int .i64 (Lib.indexByte s.data.toList 47)) ∧ w = w' := by
  go_enter Tryz.func197, Tryz.ntmps197
  go_wp2_with (go_at_call 200; refine (indexByte_any _ _ _).mono ?_; rintro e w' ⟨rfl, rfl⟩)
  · have h : ([47] == s.toList) = true := by assumption
    go_ret
    refine ⟨?_, rfl⟩
    have e : s.data.toList = [47] := by rw [← Lib.toList_data]; exact (beq_iff_eq.1 h).symm
    rw [e]
    rfl
  · go_ret
    exact ⟨rfl, rfl⟩

/-- what Cut hands back at a slash -/
def cutL (l : List UInt8) : List UInt8 × List UInt8 × Bool :=
  if Lib.indexByte l 47 = -1 then (l, [], false) else (l.take (Lib.indexByte l 47).toNat, l.drop ((Lib.indexByte l 47).toNat + 1), true)

set_option maxHeartbeats 2000000 in
theorem lcut_any (s : ByteArray) (w : World) (hs : s.size ≤ maxLen) :
    Calls Tryz.prog 177 #[.string s, .string ⟨#[47]⟩] w fun e w' => e = .returned (.tuple #[.string ⟨(cutL s.data.toList).1.toArray⟩, .string ⟨(cutL s.data.toList).2.1.toArray⟩, .bool (cutL s.data.toList).2.2]) ∧ ∃ n, w' = w.drewN n := by
  unfold maxLen at hs
  have hsz := Lib.size_eq s
  by_cases hm : Lib.indexByte s.data.toList 47 = -1
  · have e : cutL s.data.toList = (s.data.toList, [], false) := by unfold cutL; rw [if_pos hm]
    have HE := Lib.hid e
    have HZ := Lib.hid hsz
    clear e hsz
    go_enter Tryz.func177, Tryz.ntmps177
    go_wp2_with (go_at_call 197; refine (index_one_any _ _).mono ?_; rintro e w' ⟨rfl, rfl⟩; rw [hm])
    go_ret3
    refine ⟨?_, 0, rfl⟩
    rw [HE.out, Lib.mk_data]
    rfl
  · obtain ⟨_, _, h3⟩ := indexByte_hit hm
    have hg := Lib.indexByte_ge s.data.toList 47
    obtain ⟨i, hi⟩ : ∃ i : Nat, Lib.indexByte s.data.toList 47 = (i : Int) := ⟨(Lib.indexByte s.data.toList 47).toNat, by omega⟩
    have e : cutL s.data.toList = (s.data.toList.take i, s.data.toList.drop (i + 1), true) := by
      unfold cutL; rw [if_neg hm, hi]; rfl
    rw [hi] at h3
    have hlt : i < s.size := by omega
    have HE := Lib.hid e
    have HZ := Lib.hid hsz
    clear e hsz h3 hg hm
    have c1 : (0 : Int) ≤ (i : Int) := by omega
    have c2 : (i : Int) ≤ (s.size : Int) := by omega
    have c3 : (0 : Int) ≤ (i : Int) + 1 := by omega
    have c4 : ((i : Int) + 1) ≤ (s.size : Int) := by omega
    go_enter Tryz.func177, Tryz.ntmps177
    go_wp2_with (go_at_call 197; refine (index_one_any _ _).mono ?_; rintro e w' ⟨rfl, rfl⟩; rw [hi])
    go_quiet (fail)
    go_wp2
    go_ret3
    refine ⟨?_, _, rfl⟩
    have hz : s.data.toList.length - (i + 1) = (s.data.toList.drop (i + 1)).length := by rw [List.length_drop]
    rw [HE.out, Lib.extract_eq, Lib.extract_eq, HZ.out, hz, List.take_of_length_le (Nat.le_refl _), Nat.sub_zero, List.drop_zero]
    rfl

set_option maxHeartbeats 1000000 in
theorem cut_any (s : ByteArray) (w : World) (hs : s.size ≤ maxLen) :
    Calls Tryz.prog 144 #[.string s, .string ⟨#[47]⟩] w fun e w' => e = .returned (.tuple #[.string ⟨(cutL s.data.toList).1.toArray⟩, .string ⟨(cutL s.data.toList).2.1.toArray⟩, .bool (cutL s.data.toList).2.2]) ∧ ∃ n, w' = w.drewN n := by
  go_enter Tryz.func144, Tryz.ntmps144
  go_wp2_with (go_at_call 177; refine (lcut_any _ _ hs).mono ?_; rintro e w' ⟨rfl, n, rfl⟩)
  go_ret3
  exact ⟨rfl, n, rfl⟩

/-- what split hands back -/
def splitV (l : List UInt8) : Value := match splitL l with
  | some (h, r) => .tuple #[.string ⟨h.toArray⟩, .string ⟨r.toArray⟩, .bool true]
  | none => .tuple #[.string ByteArray.empty, .string ByteArray.empty, .bool false]
theorem splitV_miss {l : List UInt8} (h : Lib.hasPrefix l trL = false) : splitV l = .tuple #[.string ByteArray.empty, .string ByteArray.empty, .bool false] := by
  unfold splitV splitL; rw [if_neg (by rw [h]; simp)]

set_option maxHeartbeats 2000000 in
theorem split_any (s : ByteArray) (w : World) (hs : s.size ≤ maxLen) :
    Calls Tryz.prog 98 #[.string s] w fun e w' => e = .returned (splitV s.data.toList) ∧ ∃ n, w' = w.drewN n := by
  cases hp : Lib.hasPrefix s.data.toList trL with
  | false =>
    rw [splitV_miss hp]
    have hp2 : Lib.hasPrefix s.data.toList (⟨#[116, 114, 97, 110, 115, 102, 101, 114, 47]⟩ : ByteArray).data.toList = false := hp
    go_enter Tryz.func98, Tryz.ntmps98
    go_wp2_with (go_at_call 143; refine (cutPrefix_any _ _ _).mono ?_; rintro e w' ⟨rfl, rfl⟩; rw [hp2])
    go_ret3
    exact ⟨rfl, 0, rfl⟩
  | true =>
    have hp2 : Lib.hasPrefix s.data.toList (⟨#[116, 114, 97, 110, 115, 102, 101, 114, 47]⟩ : ByteArray).data.toList = true := hp
    obtain ⟨t, ht⟩ : ∃ t : ByteArray, t = (⟨(s.data.toList.drop 9).toArray⟩ : ByteArray) := ⟨_, rfl⟩
    have htl : t.data.toList = s.data.toList.drop 9 := by rw [ht]
    have hts : t.size ≤ maxLen := by rw [Lib.size_eq, htl, List.length_drop, ← Lib.size_eq]; omega
    have htr : (⟨(Lib.trimPrefix s.data.toList (⟨#[116, 114, 97, 110, 115, 102, 101, 114, 47]⟩ : ByteArray).data.toList).toArray⟩ : ByteArray) = t := by
      rw [ht]; unfold Lib.trimPrefix; rw [if_pos hp2]; rfl
    have hV : splitV s.data.toList = if (cutL t.data.toList).2.2 = true ∧ identL (cutL t.data.toList).1 = true then .tuple #[.string ⟨(cutL t.data.toList).1.toArray⟩, .string ⟨(cutL t.data.toList).2.1.toArray⟩, .bool true] else .tuple #[.string ByteArray.empty, .string ByteArray.empty, .bool false] := by
      rw [htl]
      unfold splitV splitL cutL
      rw [if_pos hp]
      by_cases h1 : Lib.indexByte (s.data.toList.drop 9) 47 = -1
      · rw [if_pos h1, if_pos h1, if_neg (by simp)]
      · rw [if_neg h1, if_neg h1]
        by_cases h2 : identL ((s.data.toList.drop 9).take (Lib.indexByte (s.data.toList.drop 9) 47).toNat) = true
        · rw [if_pos h2, if_pos ⟨rfl, h2⟩]
        · rw [if_neg h2, if_neg (fun h => h2 h.2)]
    rw [hV]
    obtain ⟨c, hc⟩ : ∃ c, c = cutL t.data.toList := ⟨_, rfl⟩
    have hcl : c.1.length ≤ maxLen := by
      rw [hc]; unfold cutL
      rw [Lib.size_eq] at hts
      split
      · exact hts
      · simp only [List.length_take]; omega
    rw [← hc]
    obtain ⟨c1, c2, c3⟩ := c
    have HT := Lib.hid htr
    have HC := Lib.hid hc
    clear htl htr hV ht hc hp
    have hid := ident_any ⟨c1.toArray⟩
    cases c3 with
    | false =>
      rw [if_neg (by simp)]
      go_enter Tryz.func98, Tryz.ntmps98
      go_wp2_with (first | (go_at_call 143; refine (cutPrefix_any _ _ _).mono ?_; rintro e w' ⟨rfl, rfl⟩; rw [hp2, HT.out]) | (go_at_call 144; refine (cut_any _ _ hts).mono ?_; rintro e w' ⟨rfl, n, rfl⟩; rw [← HC.out]))
      go_ret3
      exact ⟨rfl, n, rfl⟩
    | true =>
      cases hi : identL c1 with
      | false =>
        rw [if_neg (by simp)]
        go_enter Tryz.func98, Tryz.ntmps98
        go_wp2_with (first | (go_at_call 143; refine (cutPrefix_any _ _ _).mono ?_; rintro e w' ⟨rfl, rfl⟩; rw [hp2, HT.out]) | (go_at_call 144; refine (cut_any _ _ hts).mono ?_; rintro e w' ⟨rfl, n, rfl⟩; rw [← HC.out]) | (go_at_call 43; refine (ident_any ⟨c1.toArray⟩ _ hcl).mono ?_; rintro e w' ⟨rfl, rfl⟩; rw [hi]))
        go_ret3
        exact ⟨rfl, n, rfl⟩
      | true =>
        rw [if_pos ⟨rfl, rfl⟩]
        go_enter Tryz.func98, Tryz.ntmps98
        go_wp2_with (first | (go_at_call 143; refine (cutPrefix_any _ _ _).mono ?_; rintro e w' ⟨rfl, rfl⟩; rw [hp2, HT.out]) | (go_at_call 144; refine (cut_any _ _ hts).mono ?_; rintro e w' ⟨rfl, n, rfl⟩; rw [← HC.out]) | (go_at_call 43; refine (ident_any ⟨c1.toArray⟩ _ hcl).mono ?_; rintro e w' ⟨rfl, rfl⟩; rw [hi]))
        go_ret3
        exact ⟨rfl, n, rfl⟩
end Go.Proofs.YtniclaapiabmdaaGreatDoor
namespace Go.Proofs.YtniclaapiabmdaaGreatDoor
set_option maxRecDepth 100000
open Go Go.RowKit

theorem size_mk (l : List UInt8) : (⟨l.toArray⟩ : ByteArray).size = l.length := by rw [Lib.size_eq]
theorem splitV_some {l h r : List UInt8} (e : splitL l = some (h, r)) : splitV l = .tuple #[.string ⟨h.toArray⟩, .string ⟨r.toArray⟩, .bool true] := by unfold splitV; rw [e]
theorem splitV_none {l : List UInt8} (e : splitL l = none) : splitV l = .tuple #[.string ByteArray.empty, .string ByteArray.empty, .bool false] := by unfold splitV; rw [e]
/-- the base is an identifier -/
def endsB (l : List UInt8) : Bool := identL (baseL l)

set_option maxHeartbeats 2000000 in
theorem denom_any (s : ByteArray) (w : World) (hs : s.size ≤ maxLen) :
    Calls Tryz.prog 44 #[.string s] w fun e w' => e = .returned (.bool (denomL s.data.toList)) ∧ ∃ n, w' = w.drewN n := by
  have hsz := Lib.size_eq s
  by_cases h160 : s.size ≤ 160
  · have hd : denomL s.data.toList = endsB s.data.toList := by unfold denomL endsB; rw [decide_eq_true (by omega)]; rfl
    rw [hd]
    clear hd
    have HZ := Lib.hid hsz
    have HS := Lib.hid hs
    clear hsz hs
    go_enter Tryz.func44, Tryz.ntmps44
    go_wp2
    go_loopw [0] (fun v wr => ∃ (x : ByteArray) (n : Nat), v = .string x ∧ x.size ≤ 160 ∧ endsB x.data.toList = endsB s.data.toList ∧ wr = w.drewN n) (fun v _ => match v with | .string x => x.size | _ => 0)
    case atStart => exact ⟨s, 0, rfl, h160, rfl, rfl⟩
    case round =>
      obtain ⟨x, n, rfl, hx, he, rfl⟩ := hrel
      have HE := Lib.hid he
      clear he
      have hxm : x.size ≤ maxLen := by simp only [maxLen]; omega
      have hxz := Lib.size_eq x
      have HX := Lib.hid hxz
      clear hxz
      have HM := Lib.hid hxm
      clear hxm
      cases hsp : splitL x.data.toList with
      | none =>
        have hv := splitV_none hsp
        have HB := Lib.hid (base_none hsp)
        clear hsp
        go_wp2_with (first | (go_at_call 98; refine (split_any _ _ HM.out).mono ?_; rintro e w' ⟨rfl, m, rfl⟩; rw [hv]) | (go_at_call 43; refine (ident_any _ _ HM.out).mono ?_; rintro e w' ⟨rfl, rfl⟩))
        go_ret
        refine ⟨?_, n + m, rfl⟩
        rw [← HE.out]
        unfold endsB
        rw [HB.out.1]
        rfl
      | some p =>
        obtain ⟨h, r⟩ := p
        have hv := splitV_some hsp
        have HB := Lib.hid (base_some hsp)
        have HL := Lib.hid (splitL_len hsp)
        clear hsp
        go_wp2_with (first | (go_at_call 98; refine (split_any _ _ HM.out).mono ?_; rintro e w' ⟨rfl, m, rfl⟩; rw [hv]) | (go_at_call 43; refine (ident_any _ _ HM.out).mono ?_; rintro e w' ⟨rfl, rfl⟩))
        go_roundw
        case rel => exact ⟨⟨r.toArray⟩, n + m, rfl, by rw [size_mk]; have := HL.out; have := HX.out; omega, by rw [← HE.out]; unfold endsB; rw [HB.out.1], rfl⟩
        case measure => have := HL.out; have := HX.out; simp [size_mk]; omega
  · have hd : denomL s.data.toList = false := by unfold denomL; rw [decide_eq_false (by omega)]; rfl
    rw [hd]
    clear hsz hd
    have HS := Lib.hid hs
    clear hs
    go_enter Tryz.func44, Tryz.ntmps44
    go_wp2_with fail
    go_ret
    exact ⟨rfl, 0, rfl⟩
end Go.Proofs.YtniclaapiabmdaaGreatDoor
namespace Go.Proofs.YtniclaapiabmdaaGreatDoor
set_option maxRecDepth 100000
open Go
set_option linter.unusedVariables false

def balP : ByteArray := ⟨#[98, 97, 108, 47]⟩
def supP : ByteArray := ⟨#[115, 117, 112, 47]⟩
def slB : ByteArray := ⟨#[47]⟩
def kBal (a d : ByteArray) : ByteArray := ((balP ++ a) ++ slB) ++ d
def kSup (d : ByteArray) : ByteArray := supP ++ d
def identB (s : ByteArray) : Bool := identL s.data.toList
def denomB (s : ByteArray) : Bool := denomL s.data.toList
/-- the amount under a key -/
def amtU (R : List Pr) (key : ByteArray) : U4 := (fromU ((getL R key).getD [])).1
/-- an amount kept under a key; 0 is not kept -/
def keepL (key : ByteArray) (x : U4) (R : List Pr) : List Pr := putL (key, if eqB x U4.zero = true then none else some (be x.nat 32)) R

theorem data_list (a b : ByteArray) : (a ++ b).data.toList = a.data.toList ++ b.data.toList := by simp [ByteArray.data_append]
theorem bytes_ext {a b : ByteArray} (h : a.data.toList = b.data.toList) : a = b := by
  cases a with | mk a => cases b with | mk b =>
  have : a = b := by simpa using h
  rw [this]
theorem kBal_list (a d : ByteArray) : (kBal a d).data.toList = [98, 97, 108, 47] ++ (a.data.toList ++ (47 :: d.data.toList)) := by
  unfold kBal
  rw [data_list, data_list, data_list]
  simp [balP, slB]
theorem cut47 : ∀ {l l' m m' : List UInt8}, (47 : UInt8) ∉ l → (47 : UInt8) ∉ l' → l ++ 47 :: m = l' ++ 47 :: m' → l = l' ∧ m = m'
  | [], [], _, _, _, _, h => ⟨rfl, by simpa using h⟩
  | [], c :: l', _, _, _, h2, h => by
    injection h with h _
    exact absurd (by rw [h]; simp) h2
  | c :: l, [], _, _, h1, _, h => by
    injection h with h _
    exact absurd (by rw [← h]; simp) h1
  | c :: l, c' :: l', _, _, h1, h2, h => by
    injection h with h h3
    obtain ⟨e1, e2⟩ := cut47 (l := l) (l' := l') (fun k => h1 (by simp [k])) (fun k => h2 (by simp [k])) h3
    exact ⟨by rw [h, e1], e2⟩
theorem kBal_inj {a a' d d' : ByteArray} (ha : identB a = true) (ha' : identB a' = true) (e : kBal a d = kBal a' d') : a = a' ∧ d = d' := by
  have h : (kBal a d).data.toList = (kBal a' d').data.toList := by rw [e]
  rw [kBal_list, kBal_list] at h
  obtain ⟨e1, e2⟩ := cut47 (identL_no47 ha) (identL_no47 ha') (List.append_cancel_left h)
  exact ⟨bytes_ext e1, bytes_ext e2⟩
theorem identL_len2 {l : List UInt8} (h : identL l = true) : 1 ≤ l.length ∧ l.length ≤ 32 := by
  cases l with
  | nil => cases h
  | cons a r =>
    simp only [identL, Bool.and_eq_true, decide_eq_true_eq] at h
    simp only [List.length_cons]
    omega
theorem kBal_fits {a d : ByteArray} (ha : identB a = true) (hd : denomB d = true) : keyB (kBal a d) = true := by
  have h1 := identL_len2 ha
  have h2 : d.data.toList.length ≤ 160 := by
    unfold denomB denomL at hd
    simp only [Bool.and_eq_true, decide_eq_true_eq] at hd
    exact hd.1
  have h3 := congrArg List.length (kBal_list a d)
  have h4 : (kBal a d).data.toList.length = (kBal a d).size := by rw [Array.length_toList]; rfl
  rw [h4] at h3
  simp only [List.length_append, List.length_cons, List.length_nil] at h3
  simp only [keyB, Bool.and_eq_true, decide_eq_true_eq]
  omega
section
variable {R : List Pr} {key k : ByteArray} {x : U4}
theorem amt_ok (R : List Pr) (key : ByteArray) : (amtU R key).ok := fromU_ok _
theorem getL_keep : getL (keepL key x R) k = if k = key then (if eqB x U4.zero = true then none else some (be x.nat 32)) else getL R k := by
  unfold keepL
  rw [getL_putL]
theorem amt_keep (hx : x.ok) : amtU (keepL key x R) k = if k = key then x else amtU R k := by
  unfold amtU
  rw [getL_keep]
  by_cases e : k = key
  · rw [if_pos e, if_pos e]
    by_cases h0 : eqB x U4.zero = true
    · rw [if_pos h0, eqB_iff.1 h0]
      rfl
    · rw [if_neg h0]
      show (fromU (be x.nat 32)).1 = x
      rw [fromU_be hx]
  · rw [if_neg e, if_neg e]
theorem Rise.keep (h : Rise R) : Rise (keepL key x R) := h.put _
end

/-- what an address has -/
def balM (R : List Pr) (a d : ByteArray) : U4 := if (identB a && denomB d) = true then amtU R (kBal a d) else U4.zero
/-- how much there is -/
def supM (R : List Pr) (d : ByteArray) : U4 := if denomB d = true then amtU R (kSup d) else U4.zero
/-- the error of an address, a denomination and an amount -/
def rightM (a d : ByteArray) (x : U4) : Int := if identB a = true then (if denomB d = true then (if eqB x U4.zero = true then 70 else 0) else 41) else 40
/-- Mint and Burn: the supply and a balance, reckoned on -/
def changeM (op : U4 → U4 → U4 × Bool) (unfit : Int) (R : List Pr) (a d : ByteArray) (x : U4) : Int × List Pr :=
  if rightM a d x = 0 then
    if ((op (supM R d) x).2 && (op (balM R a d) x).2) = true then (0, keepL (kBal a d) (op (balM R a d) x).1 (keepL (kSup d) (op (supM R d) x).1 R)) else (unfit, R)
  else (rightM a d x, R)
def mintM := changeM addU 10
def burnM := changeM subU 71
def sendM (R : List Pr) (a b d : ByteArray) (x : U4) : Int × List Pr :=
  if rightM a d x = 0 then
    if identB b = true then
      if (subU (balM R a d) x).2 = true then
        if a = b then (0, R)
        else if (addU (balM R b d) x).2 = true then (0, keepL (kBal b d) (addU (balM R b d) x).1 (keepL (kBal a d) (subU (balM R a d) x).1 R))
        else (10, R)
      else (71, R)
    else (40, R)
  else (rightM a d x, R)
section
variable {R : List Pr} {a b d : ByteArray} {x : U4} {op : U4 → U4 → U4 × Bool} {u : Int}
theorem balM_ok (R : List Pr) (a d : ByteArray) : (balM R a d).ok := by
  unfold balM; split
  · exact amt_ok _ _
  · exact zero_ok
theorem rightM_zero (h : rightM a d x = 0) : identB a = true ∧ denomB d = true ∧ eqB x U4.zero = false := by
  unfold rightM at h
  split at h
  · split at h
    · split at h
      · cases h
      · next h1 h2 h3 => exact ⟨h1, h2, by simpa using h3⟩
    · cases h
  · cases h
theorem Rise.change (h : Rise R) : Rise (changeM op u R a d x).2 := by
  unfold changeM
  split
  · split
    · exact h.keep.keep
    · exact h
  · exact h
theorem Rise.send (h : Rise R) : Rise (sendM R a b d x).2 := by
  unfold sendM
  split
  · split
    · split
      · split
        · exact h
        · split
          · exact h.keep.keep
          · exact h
      · exact h
    · exact h
  · exact h
theorem send_no (h : (sendM R a b d x).1 ≠ 0) : (sendM R a b d x).2 = R := by
  unfold sendM at h ⊢
  split
  · next h1 =>
    rw [if_pos h1] at h
    split
    · next h2 =>
      rw [if_pos h2] at h
      split
      · next h3 =>
        rw [if_pos h3] at h
        split
        · rfl
        · next h4 =>
          rw [if_neg h4] at h
          split
          · next h5 => rw [if_pos h5] at h; exact absurd rfl h
          · rfl
      · rfl
    · rfl
  · rfl
end
end Go.Proofs.YtniclaapiabmdaaGreatDoor
namespace Go.Proofs.YtniclaapiabmdaaGreatDoor
set_option maxRecDepth 100000
open Go
set_option linter.unusedVariables false

section
variable {R : List Pr} {a b c d e key k : ByteArray} {x y : U4} {op : U4 → U4 → U4 × Bool} {u : Int}
theorem balM_keep_bal (hy : y.ok) (ha : identB a = true) (hd : denomB d = true) : balM (keepL (kBal a d) y R) c e = if c = a ∧ e = d then y else balM R c e := by
  unfold balM
  by_cases h : (identB c && denomB e) = true
  · rw [if_pos h, if_pos h, amt_keep hy]
    by_cases h2 : c = a ∧ e = d
    · rw [if_pos h2, if_pos (by rw [h2.1, h2.2])]
    · rw [if_neg h2, if_neg (fun k => h2 (kBal_inj (by simp only [Bool.and_eq_true] at h; exact h.1) ha k))]
  · rw [if_neg h, if_neg h]
    by_cases h2 : c = a ∧ e = d
    · rw [h2.1, h2.2, ha, hd] at h
      exact absurd rfl h
    · rw [if_neg h2]
/-- what a transfer that is done does -/
theorem send_yes (h : (sendM R a b d x).1 = 0) (hne : a ≠ b) : identB a = true ∧ identB b = true ∧ denomB d = true ∧ (subU (balM R a d) x).2 = true ∧ (addU (balM R b d) x).2 = true ∧
    (sendM R a b d x).2 = keepL (kBal b d) (addU (balM R b d) x).1 (keepL (kBal a d) (subU (balM R a d) x).1 R) := by
  unfold sendM at h ⊢
  by_cases h1 : rightM a d x = 0
  · obtain ⟨q1, q2, q3⟩ := rightM_zero h1
    rw [if_pos h1] at h ⊢
    by_cases h2 : identB b = true
    · rw [if_pos h2] at h ⊢
      by_cases h3 : (subU (balM R a d) x).2 = true
      · rw [if_pos h3, if_neg hne] at h ⊢
        by_cases h4 : (addU (balM R b d) x).2 = true
        · rw [if_pos h4] at h ⊢
          exact ⟨q1, h2, q2, h3, h4, rfl⟩
        · rw [if_neg h4] at h; cases h
      · rw [if_neg h3] at h; cases h
    · rw [if_neg h2] at h; cases h
  · rw [if_neg h1] at h; exact absurd h h1
end

/-! ### a key put into a list in order, as a permutation -/
theorem putG_perm (c : Chn) (v : List UInt8) (hv : c.2.getD [] = v) : ∀ (l : List Pr), (putG c false l).Perm ((c.1, v) :: l.filter (fun p => !decide (p.1 = c.1)))
  | [] => by simp [putG, hv]
  | p :: l => by
    unfold putG
    cases hl : ltS p.1 c.1 with
    | true =>
      have hne := ltS_ne hl
      simp only [hne, Bool.not_true, Bool.and_false, Bool.or_false, if_false, Bool.false_eq_true, List.nil_append, List.singleton_append]
      rw [List.filter_cons_of_pos (by simp [hne])]
      exact ((putG_perm c v hv l).cons p).trans (List.Perm.swap _ _ _)
    | false =>
      simp only [Bool.not_false, Bool.and_true, Bool.or_true, if_true, List.singleton_append, List.cons_append]
      rw [putG_true, hv]
      by_cases e : p.1 = c.1
      · rw [if_pos e, List.filter_cons_of_neg (by simp [e])]; exact List.Perm.refl _
      · rw [if_neg e, List.filter_cons_of_pos (by simp [e])]; exact List.Perm.refl _
theorem putL_perm (key : ByteArray) (o : Option (List UInt8)) (l : List Pr) : (putL (key, o) l).Perm ((match o with | none => [] | some v => [(key, v)]) ++ l.filter (fun p => !decide (p.1 = key))) := by
  unfold putL
  cases o with
  | none => simp only [Option.isNone_none]; rw [putG_true]; exact List.Perm.refl _
  | some v => exact putG_perm (key, some v) v rfl l
/-! ### sums -/
/-- the sum of the numbers under the keys that f takes -/
def sumF (f : ByteArray → Bool) (l : List Pr) : Nat := ((l.filter (fun p => f p.1)).map (fun p => (fromU p.2).1.nat)).sum
def oneF (f : ByteArray → Bool) (key : ByteArray) (o : Option (List UInt8)) : Nat := match o with | none => 0 | some v => if f key = true then (fromU v).1.nat else 0
/-! ### what the bank alone has written -/
/-- each value is the 32 bytes of a number that is not 0 -/
def CanonL (l : List Pr) : Prop := ∀ p ∈ l, ∃ x : U4, x.ok ∧ eqB x U4.zero = false ∧ p.2 = be x.nat 32
theorem CanonL.keep {l : List Pr} (h : CanonL l) (key : ByteArray) {x : U4} (hx : x.ok) : CanonL (keepL key x l) := by
  intro p hp
  unfold keepL at hp
  have hp2 := (putL_perm key _ l).mem_iff.1 hp
  rcases List.mem_append.1 hp2 with hp | hp
  · by_cases h0 : eqB x U4.zero = true
    · rw [if_pos h0] at hp; cases hp
    · rw [if_neg h0] at hp
      rw [List.mem_singleton.1 hp]
      exact ⟨x, hx, by simpa using h0, rfl⟩
  · exact h p (List.mem_filter.1 hp).1
theorem addU_yes {x y : U4} (h : (addU x y).2 = true) : (addU x y).1.nat = x.nat + y.nat ∧ (addU x y).1.ok := by
  unfold addU at h ⊢
  split
  · next h1 => exact ⟨nat_ofN h1, ofN_ok _⟩
  · next h1 => rw [if_neg h1] at h; cases h
theorem subU_yes {x y : U4} (h : (subU x y).2 = true) (hx : x.ok) : (subU x y).1.nat + y.nat = x.nat ∧ (subU x y).1.ok := by
  unfold subU at h ⊢
  split
  · next h1 =>
    refine ⟨?_, ofN_ok _⟩
    show (ofN (x.nat - y.nat)).nat + y.nat = x.nat
    rw [nat_ofN (by have := nat_lt hx; omega)]
    omega
  · next h1 => rw [if_neg h1] at h; cases h
end Go.Proofs.YtniclaapiabmdaaGreatDoor
namespace Go.Proofs.YtniclaapiabmdaaGreatDoor
set_option maxRecDepth 100000
open Go Go.RowKit
set_option linter.unusedVariables false
variable {w w' : World} {B B0 : Nat}

theorem Tryz.infoPairL : (Tryz.prog.info? 48).map (fun i => (i.zero, i.size, i.bytes)) = some (some (.agg #[.string ⟨#[]⟩, .slice none 0 0]), 2, 40) := by kernel_rfl
/-- what a pair's two cells say -/
def PrC (B0 : Nat) (w : World) (c : List Value) (p : Pr) : Prop := ∃ v, c = [.string p.1, v] ∧ RdS w B0 v p.2
theorem PrC.grow {c : List Value} {p : Pr} {E : TypeId} (h : PrC B0 w c p) (hg : Grow w B0 E w') (h1 : 5 ≠ E) : PrC B0 w' c p := by
  obtain ⟨v, e, q⟩ := h
  exact ⟨v, e, q.grow hg h1⟩
theorem PrC.up {c : List Value} {p : Pr} (h : PrC B0 w c p) (hb : Below w.heap.size w w') : PrC B0 w' c p := by
  obtain ⟨v, e, q⟩ := h
  exact ⟨v, e, q.up hb⟩
theorem PrC.len {c : List Value} {p : Pr} (h : PrC B0 w c p) : c.length = 2 := by obtain ⟨v, e, _⟩ := h; rw [e]; rfl
theorem PrC.one {c : List Value} {p : Pr} (h : PrC B0 w c p) : ∀ u ∈ c, u.oneCell' = true := by
  obtain ⟨v, e, q⟩ := h
  obtain ⟨A, k, rfl⟩ := q.1.form
  subst e
  intro u hu
  simp only [List.mem_cons, List.not_mem_nil, or_false] at hu
  rcases hu with rfl | rfl <;> rfl
/-- pairs of the call's own -/
abbrev OwnP (B0 : Nat) (w : World) (B : Nat) (v : Value) (ps : List Pr) : Prop := OwnX 48 2 (PrC B0) w B v ps
theorem OwnP.up {v : Value} {ps : List Pr} (h : OwnP B0 w B v ps) (hb : Below w.heap.size w w') : OwnP B0 w' B v ps := OwnX.up h hb fun c a hc => hc.up hb
theorem OwnP.rdP {v : Value} {ps : List Pr} (h : OwnP B0 w B v ps) : RdP w w.heap.size v ps := by
  obtain ⟨A, c, rfl⟩ := h.form
  by_cases h0 : ps.length = 0
  · obtain ⟨cs, hr, _⟩ := h
    rcases hr.2 with ⟨e, _⟩ | ⟨g, cap, cur, hv, hb, hg, hn, hm, hs, ht⟩
    · injection e with _ _ e3
      exact ⟨A, c, rfl, by omega, by subst e3; simp [maxLen], fun h => by omega⟩
    · injection hv with _ _ e3
      exact ⟨A, c, rfl, by omega, by omega, fun h => by omega⟩
  · obtain ⟨b, cs, rfl, -, h1, h2, -, hlt, -⟩ := h.at_ 0 (by omega)
    refine ⟨_, _, rfl, h1, h2, fun _ => ⟨b, 0, rfl, hlt, fun j hj => ?_⟩⟩
    obtain ⟨b', cs', e, -, -, -, -, hlt', -, hcell, v, he, q⟩ := h.at_ j hj
    injection e with e
    injection e with e _
    subst e; subst he
    have c0 := hcell 0 (by omega)
    have c1 := hcell 1 (by omega)
    rw [Nat.zero_add]
    exact ⟨by simpa using c0, v, by simpa using c1, q.1⟩
theorem pairCells_get {W : World} {g : Nat} {x0 x1 : Value} {E : TypeId} (h : W.heap[g]? = some (.cells #[x0, x1] E (0, 0))) (j : Nat) (hj : j < 2) : W.cell? ⟨g, j, none⟩ = [x0, x1][j]? := by
  rw [blk_cell h j]
  simp
end Go.Proofs.YtniclaapiabmdaaGreatDoor
