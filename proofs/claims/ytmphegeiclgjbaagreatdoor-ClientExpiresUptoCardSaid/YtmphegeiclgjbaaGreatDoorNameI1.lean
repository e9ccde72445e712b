
/- Names as lists of bytes: identifiers, hops, bases: plain mathematics, nothing of the program. The walks of package name: small, digit, Ident. The walk of package name: Ident. The walks of the library's CutPrefix and Cut, as package name calls them. The walks of package name: Denom, Hop, Over, Base, Hops. -/
import Derived.Lib.Bytealg
import Derived.Lib.Strings
import Derived.Test.YtmphegeiclgjbaaGreatDoorProg
import Derived.WalkKit
import Derived.WalkSpells
import Derived.Deep.QuietTactic
import Derived.BigQuiet
import Derived.Deep.Draws
import Derived.Lib.Hide
import Derived.LoopTactic
import Derived.Laws.Externs
import Derived.Lib.CutLaws
import Derived.Lib.Walk
import Derived.Laws.Strings3
namespace Go.Proofs.YtmphegeiclgjbaaGreatDoor
set_option maxRecDepth 100000
open Go

def smB (c : UInt8) : Bool := decide (97 ≤ c.toNat ∧ c.toNat ≤ 122)
def dgB (c : UInt8) : Bool := decide (48 ≤ c.toNat ∧ c.toNat ≤ 57)
def okB (c : UInt8) : Bool := smB c || dgB c || decide (c.toNat = 45) || decide (c.toNat = 46)
/-- is it an identifier? -/
def identL : List UInt8 → Bool
  | [] => false
  | c :: r => decide (r.length ≤ 31) && smB c && r.all okB
/-- what stands ahead of each hop -/
def trL : List UInt8 := [116, 114, 97, 110, 115, 102, 101, 114, 47]
def splitL (l : List UInt8) : Option (List UInt8 × List UInt8) :=
  if Lib.hasPrefix l trL = true then
    if Lib.indexByte (l.drop 9) 47 = -1 then none
    else if identL ((l.drop 9).take (Lib.indexByte (l.drop 9) 47).toNat) = true then
      some ((l.drop 9).take (Lib.indexByte (l.drop 9) 47).toNat, (l.drop 9).drop ((Lib.indexByte (l.drop 9) 47).toNat + 1))
    else none
  else none

/-- the base, and how many hops stand ahead of it -/
def baseN : Nat → List UInt8 → List UInt8 × Nat
  | 0, l => (l, 0)
  | n + 1, l => match splitL l with
    | none => (l, 0)
    | some (_, r) => ((baseN n r).1, (baseN n r).2 + 1)
def baseL (l : List UInt8) : List UInt8 := (baseN l.length l).1
def hopsL (l : List UInt8) : Nat := (baseN l.length l).2
def denomL (l : List UInt8) : Bool := decide (l.length ≤ 160) && identL (baseL l)

/-- one hop more -/
def overL (hop s : List UInt8) : List UInt8 × Int :=
  if identL hop = true then
    if denomL s = true ∧ hop.length + s.length + 10 ≤ 160 then (trL ++ hop ++ 47 :: s, 0) else ([], 41)
  else ([], 40)
end Go.Proofs.YtmphegeiclgjbaaGreatDoor
namespace Go.Proofs.YtmphegeiclgjbaaGreatDoor
set_option maxRecDepth 100000
open Go Go.RowKit

theorem small_any (c : UInt8) (w : World) : Calls Tryz.prog 97 #[.int .u8 (c.toNat : Int)] w fun e w' => e = .returned (.bool (smB c)) ∧ w = w' := by
  have hc := c.toNat_lt
  unfold smB
  by_cases h1 : 97 ≤ c.toNat
  · by_cases h2 : c.toNat ≤ 122
    · rw [decide_eq_true ⟨h1, h2⟩]
      have i1 : (97 : Int) ≤ (c.toNat : Int) := by omega
      have i2 : (c.toNat : Int) ≤ 122 := by omega
      go_enter Tryz.func97, Tryz.ntmps97
      go_wp2
      go_ret
      exact ⟨rfl, rfl⟩
    · rw [decide_eq_false (fun h => h2 h.2)]
      have i1 : (97 : Int) ≤ (c.toNat : Int) := by omega
      have i2 : ¬ (c.toNat : Int) ≤ 122 := by omega
      go_enter Tryz.func97, Tryz.ntmps97
      go_wp2
      go_ret
      exact ⟨rfl, rfl⟩
  · rw [decide_eq_false (fun h => h1 h.1)]
    have i1 : ¬ (97 : Int) ≤ (c.toNat : Int) := by omega
    go_enter Tryz.func97, Tryz.ntmps97
    go_wp2
    go_ret
    exact ⟨rfl, rfl⟩
theorem digit_any (c : UInt8) (w : World) : Calls Tryz.prog 98 #[.int .u8 (c.toNat : Int)] w fun e w' => e = .returned (.bool (dgB c)) ∧ w = w' := by
  have hc := c.toNat_lt
  unfold dgB
  by_cases h1 : 48 ≤ c.toNat
  · by_cases h2 : c.toNat ≤ 57
    · rw [decide_eq_true ⟨h1, h2⟩]
      have i1 : (48 : Int) ≤ (c.toNat : Int) := by omega
      have i2 : (c.toNat : Int) ≤ 57 := by omega
      go_enter Tryz.func98, Tryz.ntmps98
      go_wp2
      go_ret
      exact ⟨rfl, rfl⟩
    · rw [decide_eq_false (fun h => h2 h.2)]
      have i1 : (48 : Int) ≤ (c.toNat : Int) := by omega
      have i2 : ¬ (c.toNat : Int) ≤ 57 := by omega
      go_enter Tryz.func98, Tryz.ntmps98
      go_wp2
      go_ret
      exact ⟨rfl, rfl⟩
  · rw [decide_eq_false (fun h => h1 h.1)]
    have i1 : ¬ (48 : Int) ≤ (c.toNat : Int) := by omega
    go_enter Tryz.func98, Tryz.ntmps98
    go_wp2
    go_ret
    exact ⟨rfl, rfl⟩
end Go.Proofs.YtmphegeiclgjbaaGreatDoor
namespace Go.Proofs.YtmphegeiclgjbaaGreatDoor
set_option maxRecDepth 100000
open Go Go.RowKit

theorem identL_of (l : List UInt8) (h0 : 0 < l.length) (h32 : l.length ≤ 32) (hs : smB (l.getD 0 0) = true) : identL l = (l.drop 1).all okB := by
  cases l with
  | nil => simp at h0
  | cons c r =>
    simp only [List.length_cons] at h32
    simp only [List.getD_cons_zero] at hs
    simp only [identL, hs, List.drop_one, List.tail_cons, Bool.and_true]
    rw [decide_eq_true (by omega)]
    rfl
theorem identL_no (l : List UInt8) (h : l.length = 0 ∨ 32 < l.length ∨ smB (l.getD 0 0) = false) : identL l = false := by
  cases l with
  | nil => rfl
  | cons c r =>
    simp only [List.length_cons, List.getD_cons_zero] at h
    show (decide (r.length ≤ 31) && smB c && r.all okB) = false
    rcases h with h | h | h
    · omega
    · rw [decide_eq_false (by omega)]; rfl
    · rw [h]; simp
theorem data_get (s : ByteArray) (k : Nat) (h : k < s.size) : s.data.toList.getD k 0 = s[k] := by
  have hl : k < s.data.toList.length := by have := Lib.size_eq s; omega
  rw [List.getD_eq_getElem?_getD, List.getElem?_eq_getElem hl]; rfl
theorem all_more (l : List UInt8) (k : Nat) (h1 : 1 ≤ k) (h : k < l.length) : ((l.take (k + 1)).drop 1).all okB = (((l.take k).drop 1).all okB && okB (l.getD k 0)) := by
  have e : l.getD k 0 = l[k] := by rw [List.getD_eq_getElem?_getD, List.getElem?_eq_getElem h]; rfl
  rw [List.take_succ_eq_append_getElem h, List.drop_append_of_le_length (by rw [List.length_take]; omega), List.all_append, e]
  simp
theorem all_stop (l : List UInt8) (k : Nat) (h1 : 1 ≤ k) (h : k < l.length) (hn : okB (l.getD k 0) = false) : (l.drop 1).all okB = false := by
  have e : l.getD k 0 = l[k] := by rw [List.getD_eq_getElem?_getD, List.getElem?_eq_getElem h]; rfl
  rw [List.all_eq_false]
  refine ⟨l[k], ?_, by rw [← e, hn]; simp⟩
  rw [List.mem_iff_getElem?]
  exact ⟨k - 1, by rw [List.getElem?_drop, show 1 + (k - 1) = k by omega, List.getElem?_eq_getElem h]⟩

set_option maxHeartbeats 1000000 in
theorem ident_any (s : ByteArray) (w : World) (hs : s.size ≤ maxLen) : Calls Tryz.prog 49 #[.string s] w fun e w' => e = .returned (.bool (identL s.data.toList)) ∧ w = w' := by
  unfold maxLen at hs
  have hsz := Lib.size_eq s
  by_cases h0 : s.size = 0
  · have hl : s.data.toList = [] := List.eq_nil_of_length_eq_zero (by omega)
    have hl2 : s.toList = [] := by rw [Lib.toList_data]; exact hl
    rw [identL_no s.data.toList (.inl (by omega))]
    have H0 := Lib.hid h0
    clear h0 hsz
    go_enter Tryz.func49, Tryz.ntmps49
    go_wp2_with fail
    go_ret
    exact ⟨rfl, rfl⟩
  · have hne : ¬ s.toList = [] := by
      intro e
      rw [Lib.toList_data] at e
      rw [e] at hsz
      exact h0 hsz
    have hne2 : (!s.toList.isEmpty) = true := by
      cases h : s.toList with
      | nil => exact absurd h hne
      | cons a r => rfl
    have hne3 : (s.toList == []) = false := by simpa using hne
    by_cases h32 : s.size ≤ 32
    · have hpos : 0 < s.size := Nat.pos_of_ne_zero h0
      have g0 := data_get s 0 hpos
      cases hsm : smB s[0] with
      | false =>
        rw [identL_no s.data.toList (.inr (.inr (by rw [g0]; exact hsm)))]
        have H1 := Lib.hid g0
        have H2 := Lib.hid hsz
        clear g0 hsz
        go_enter Tryz.func49, Tryz.ntmps49
        go_wp2_with (go_at_call 97; refine (small_any _ _).mono ?_; rintro e w' ⟨rfl, rfl⟩)
        go_ret
        exact ⟨rfl, rfl⟩
      | true =>
        rw [identL_of s.data.toList (by omega) (by omega) (by rw [g0]; exact hsm)]
        have H1 := Lib.hid g0
        have H2 := Lib.hid hsz
        clear g0 hsz
        go_enter Tryz.func49, Tryz.ntmps49
        go_wp2_with (go_at_call 97; refine (small_any _ _).mono ?_; rintro e w' ⟨rfl, rfl⟩)
        clear hne hne2 hne3 hsm
        go_loop [3] (fun i => ∃ k : Nat, 1 ≤ k ∧ k ≤ s.size ∧ i = .int .i64 k ∧ ((s.data.toList.take k).drop 1).all okB = true) (fun i => s.size - (intOf i).toNat)
        case atStart => exact ⟨1, by omega, by omega, rfl, by rw [List.drop_of_length_le (by rw [List.length_take]; omega)]; rfl⟩
        case round =>
          obtain ⟨k, hk1, hk, rfl, hall⟩ := hrel
          have HA := Lib.hid hall
          clear hall
          by_cases hlt : k < s.size
          · have HG := Lib.hid (data_get s k hlt)
            have HM := Lib.hid (all_more s.data.toList k hk1 (by have := H2.out; omega))
            cases e1 : smB s[k] with
            | true =>
              go_wp2_with (first | (go_at_call 97; refine (small_any _ _).mono ?_; rintro e w' ⟨rfl, rfl⟩) | (go_at_call 98; refine (digit_any _ _).mono ?_; rintro e w' ⟨rfl, rfl⟩))
              go_round
              case rel => exact ⟨k + 1, by omega, by omega, by go_num, by rw [HM.out, HA.out, HG.out]; unfold okB; rw [e1]; rfl⟩
              case measure => simp [intOf]; omega
            | false =>
              cases e2 : dgB s[k] with
              | true =>
                go_wp2_with (first | (go_at_call 97; refine (small_any _ _).mono ?_; rintro e w' ⟨rfl, rfl⟩) | (go_at_call 98; refine (digit_any _ _).mono ?_; rintro e w' ⟨rfl, rfl⟩))
                go_round
                case rel => exact ⟨k + 1, by omega, by omega, by go_num, by rw [HM.out, HA.out, HG.out]; unfold okB; rw [e2]; cases smB s[k] <;> rfl⟩
                case measure => simp [intOf]; omega
              | false =>
                by_cases c45 : s[k].toNat = 45
                · have b1 : ((s[k].toNat : Int) == 45) = true := by rw [c45]; rfl
                  have b2 : ((s[k].toNat : Int) != 45) = false := by rw [c45]; rfl
                  have HC := Lib.hid c45
                  clear c45
                  go_wp2_with (first | (go_at_call 97; refine (small_any _ _).mono ?_; rintro e w' ⟨rfl, rfl⟩) | (go_at_call 98; refine (digit_any _ _).mono ?_; rintro e w' ⟨rfl, rfl⟩))
                  go_round
                  case rel => exact ⟨k + 1, by omega, by omega, by go_num, by rw [HM.out, HA.out, HG.out]; unfold okB; rw [HC.out]; cases smB s[k] <;> cases dgB s[k] <;> rfl⟩
                  case measure => simp [intOf]; omega
                · have b1 : ((s[k].toNat : Int) == 45) = false := by rw [beq_eq_false_iff_ne]; omega
                  have b2 : ((s[k].toNat : Int) != 45) = true := by rw [bne_iff_ne]; omega
                  by_cases c46 : s[k].toNat = 46
                  · have b3 : ((s[k].toNat : Int) == 46) = true := by rw [c46]; rfl
                    have b4 : ((s[k].toNat : Int) != 46) = false := by rw [c46]; rfl
                    have HC := Lib.hid c46
                    clear c46
                    go_wp2_with (first | (go_at_call 97; refine (small_any _ _).mono ?_; rintro e w' ⟨rfl, rfl⟩) | (go_at_call 98; refine (digit_any _ _).mono ?_; rintro e w' ⟨rfl, rfl⟩))
                    go_round
                    case rel => exact ⟨k + 1, by omega, by omega, by go_num, by rw [HM.out, HA.out, HG.out]; unfold okB; rw [HC.out]; cases smB s[k] <;> cases dgB s[k] <;> rfl⟩
                    case measure => simp [intOf]; omega
                  · have b3 : ((s[k].toNat : Int) == 46) = false := by rw [beq_eq_false_iff_ne]; omega
                    have b4 : ((s[k].toNat : Int) != 46) = true := by rw [bne_iff_ne]; omega
                    have HS := Lib.hid (all_stop s.data.toList k hk1 (by have := H2.out; omega) (by rw [HG.out]; unfold okB; rw [e1, e2, decide_eq_false c45, decide_eq_false c46]; rfl))
                    clear c45 c46
                    go_wp2_with (first | (go_at_call 97; refine (small_any _ _).mono ?_; rintro e w' ⟨rfl, rfl⟩) | (go_at_call 98; refine (digit_any _ _).mono ?_; rintro e w' ⟨rfl, rfl⟩))
                    go_ret
                    refine ⟨?_, rfl⟩
                    rw [HS.out]
                    rfl
          · have hk2 : k = s.size := by omega
            have HK := Lib.hid hk2
            clear hk2
            go_wp2
            go_ret
            refine ⟨?_, rfl⟩
            have := HA.out
            rw [List.take_of_length_le (by have := H2.out; have := HK.out; omega)] at this
            rw [List.drop_one] at this
            rw [this]
            rfl
    · rw [identL_no s.data.toList (.inr (.inl (by omega)))]
      have H2 := Lib.hid hsz
      clear hsz
      go_enter Tryz.func49, Tryz.ntmps49
      go_wp2_with fail
      go_ret
      exact ⟨rfl, rfl⟩
end Go.Proofs.YtmphegeiclgjbaaGreatDoor
namespace Go.Proofs.YtmphegeiclgjbaaGreatDoor
set_option maxRecDepth 100000
open Go Go.RowKit

/-- what Cut hands back at a slash -/
def cutL (l : List UInt8) : List UInt8 × List UInt8 × Bool :=
  if Lib.indexByte l 47 = -1 then (l, [], false) else (l.take (Lib.indexByte l 47).toNat, l.drop ((Lib.indexByte l 47).toNat + 1), true)

/-- what split hands back -/
def splitV (l : List UInt8) : Value := match splitL l with
  | some (h, r) => .tuple #[.string ⟨h.toArray⟩, .string ⟨r.toArray⟩, .bool true]
  | none => .tuple #[.string ByteArray.empty, .string ByteArray.empty, .bool false]
end Go.Proofs.YtmphegeiclgjbaaGreatDoor
namespace Go.Proofs.YtmphegeiclgjbaaGreatDoor
set_option maxRecDepth 100000
open Go Go.RowKit

/-- the base is an identifier -/
def endsB (l : List UInt8) : Bool := identL (baseL l)

end Go.Proofs.YtmphegeiclgjbaaGreatDoor
