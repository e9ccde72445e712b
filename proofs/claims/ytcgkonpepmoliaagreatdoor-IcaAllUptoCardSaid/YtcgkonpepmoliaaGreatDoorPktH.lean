
/- Heights in keys; the keys of packets, the program's and the document's. -/
import Derived.Test.YtcgkonpepmoliaaGreatDoorBankA0
import Derived.Test.YtcgkonpepmoliaaGreatDoorShaH
import Derived.Test.YtcgkonpepmoliaaGreatDoorRefHex
import Derived.Test.YtcgkonpepmoliaaGreatDoorWireDoc0
import Derived.Test.YtcgkonpepmoliaaGreatDoorWireW0
namespace Go.Proofs.YtcgkonpepmoliaaGreatDoor
set_option maxRecDepth 100000
open Go Go.RowKit
set_option linter.unusedVariables false

/-- a number in a key: sixteen digits -/
def hexN (n : Nat) : ByteArray := ⟨(hexOf (be n 8)).toArray⟩
theorem hexOf_len (l : List UInt8) : (hexOf l).length = 2 * l.length := by
  induction l with
  | nil => rfl
  | cons x l ih =>
    unfold hexOf at *
    simp [hex2, ih]
    omega
theorem hexN_size (n : Nat) : (hexN n).size = 16 := by
  show (hexOf (be n 8)).length = 16
  rw [hexOf_len, be_length]
theorem chex_any (n : Nat) (w : World) (hn : n < 18446744073709551616) : Calls Tryz.prog 170 #[.int .u64 (n : Int)] w fun e w' => e = .returned (.string (hexN n)) ∧ Below w.heap.size w w' := by
  have HN := Lib.hid (N_any (.slice none 0 0) [] n w (Rd.nil _ _) hn (by simp))
  have HH : Hid (∀ (v : Value) (W : World) (B : Nat), Own W B v (be n 8) → Calls Tryz.prog 179 #[v] W fun e w' => e = .returned (.string (hexN n)) ∧ Below W.heap.size W w') := Lib.hid fun v W B h => hex_any v _ W h.rd (by simp [be_length])
  rw [List.nil_append] at HN
  generalize be n 8 = L at *
  generalize hexN n = S at *
  go_enter Tryz.func170, Tryz.ntmps170
  go_wp2_with fail
  refine HN.out.mono ?_
  rintro e w1 ⟨v, rfl, ho, hb1⟩
  have H2 := Lib.hid (HH.out _ _ _ ho)
  obtain ⟨A, c, rfl⟩ := ho.form
  go_wp2_with fail
  refine H2.out.mono ?_
  rintro e w2 ⟨rfl, hb2⟩
  go_wp2_with fail
  go_ret
  exact ⟨rfl, below_chain hb1 hb1.size hb2⟩
def ibcS : ByteArray := ⟨#[105, 98, 99, 47]⟩
/-- where something of a packet is kept -/
def kPl (what a : ByteArray) (n : Nat) : ByteArray := ((((ibcS ++ what) ++ slB) ++ a) ++ slB) ++ hexN n
theorem pplace_any (what a : ByteArray) (n : Nat) (w : World) (hn : n < 18446744073709551616) (hw : what.size ≤ 1000) (ha : a.size ≤ 100000000) :
    Calls Tryz.prog 144 #[.string what, .string a, .int .u64 (n : Int)] w fun e w' => e = .returned (.string (kPl what a n)) ∧ Below w.heap.size w w' := by
  have s1 : ibcS.size = 4 := rfl
  have s2 : slB.size = 1 := rfl
  have s3 := hexN_size n
  have z1 : (ibcS ++ what).size = what.size + 4 := by rw [ByteArray.size_append, s1]; omega
  have z2 : ((ibcS ++ what) ++ slB).size = what.size + 5 := by rw [ByteArray.size_append, z1, s2]
  have z3 : (((ibcS ++ what) ++ slB) ++ a).size = what.size + 5 + a.size := by rw [ByteArray.size_append, z2]
  have z4 : ((((ibcS ++ what) ++ slB) ++ a) ++ slB).size = what.size + 6 + a.size := by rw [ByteArray.size_append, z3, s2]; omega
  have h1 := fun W => txt_add ibcS what (by rw [s1]; omega) W
  have h2 := fun W => txt_add (ibcS ++ what) slB (by rw [z1, s2]; omega) W
  have h3 := fun W => txt_add ((ibcS ++ what) ++ slB) a (by rw [z2]; omega) W
  have h4 := fun W => txt_add (((ibcS ++ what) ++ slB) ++ a) slB (by rw [z3, s2]; omega) W
  have h5 := fun W => txt_add ((((ibcS ++ what) ++ slB) ++ a) ++ slB) (hexN n) (by rw [z4, s3]; omega) W
  have HX := Lib.hid (chex_any n w hn)
  unfold kPl
  generalize hexN n = S at *
  generalize (((ibcS ++ what) ++ slB) ++ a) ++ slB = x4 at *
  generalize ((ibcS ++ what) ++ slB) ++ a = x3 at *
  generalize (ibcS ++ what) ++ slB = x2 at *
  generalize hx1 : ibcS ++ what = x1 at *
  clear hx1 z1 z2 z3 z4 s3
  unfold ibcS slB at *
  go_enter Tryz.func144, Tryz.ntmps144
  go_wp2_with fail
  refine HX.out.mono ?_
  rintro e w1 ⟨rfl, hb⟩
  go_wp2_with fail
  go_ret
  exact ⟨rfl, hb⟩
def wCommit : ByteArray := ⟨#[99, 111, 109, 109, 105, 116]⟩
theorem pCommit_any (a : ByteArray) (n : Nat) (w : World) (hn : n < 18446744073709551616) (ha : a.size ≤ 100000000) :
    Calls Tryz.prog 115 #[.string a, .int .u64 (n : Int)] w fun e w' => e = .returned (.string (kPl wCommit a n)) ∧ Below w.heap.size w w' := by
  have HP := Lib.hid (pplace_any wCommit a n w hn (by decide +kernel) ha)
  generalize kPl wCommit a n = S at *
  unfold wCommit at HP
  go_enter Tryz.func115, Tryz.ntmps115
  go_wp2_with fail
  refine HP.out.mono ?_
  rintro e w1 ⟨rfl, hb⟩
  go_wp2_with fail
  go_ret
  exact ⟨rfl, hb⟩
def rCommitP : ByteArray := ⟨#[105, 98, 99, 47, 99, 111, 109, 109, 105, 116, 47]⟩
theorem rCommitP_eq : rCommitP = (ibcS ++ wCommit) ++ slB := by decide +kernel
def wReceipt : ByteArray := ⟨#[114, 101, 99, 101, 105, 112, 116]⟩
def rReceiptP : ByteArray := ⟨#[105, 98, 99, 47, 114, 101, 99, 101, 105, 112, 116, 47]⟩
theorem rReceiptP_eq : rReceiptP = (ibcS ++ wReceipt) ++ slB := by decide +kernel
def wAckKey : ByteArray := ⟨#[97, 99, 107]⟩
def rAckKeyP : ByteArray := ⟨#[105, 98, 99, 47, 97, 99, 107, 47]⟩
theorem rAckKeyP_eq : rAckKeyP = (ibcS ++ wAckKey) ++ slB := by decide +kernel
def wSent : ByteArray := ⟨#[115, 101, 110, 116]⟩
theorem pSent_any (a : ByteArray) (n : Nat) (w : World) (hn : n < 18446744073709551616) (ha : a.size ≤ 100000000) :
    Calls Tryz.prog 117 #[.string a, .int .u64 (n : Int)] w fun e w' => e = .returned (.string (kPl wSent a n)) ∧ Below w.heap.size w w' := by
  have HP := Lib.hid (pplace_any wSent a n w hn (by decide +kernel) ha)
  generalize kPl wSent a n = S at *
  unfold wSent at HP
  go_enter Tryz.func117, Tryz.ntmps117
  go_wp2_with fail
  refine HP.out.mono ?_
  rintro e w1 ⟨rfl, hb⟩
  go_wp2_with fail
  go_ret
  exact ⟨rfl, hb⟩
def rSentP : ByteArray := ⟨#[105, 98, 99, 47, 115, 101, 110, 116, 47]⟩
theorem rSentP_eq : rSentP = (ibcS ++ wSent) ++ slB := by decide +kernel
def wTold : ByteArray := ⟨#[116, 111, 108, 100]⟩
def rToldP : ByteArray := ⟨#[105, 98, 99, 47, 116, 111, 108, 100, 47]⟩
theorem rToldP_eq : rToldP = (ibcS ++ wTold) ++ slB := by decide +kernel
end Go.Proofs.YtcgkonpepmoliaaGreatDoor
