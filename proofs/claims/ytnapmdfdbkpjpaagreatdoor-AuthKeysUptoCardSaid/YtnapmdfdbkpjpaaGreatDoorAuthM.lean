
/- Accounts, as mathematics. -/
import Derived.Test.YtnapmdfdbkpjpaaGreatDoorEncB
import Derived.Test.YtnapmdfdbkpjpaaGreatDoorBankM0
namespace Go.Proofs.YtnapmdfdbkpjpaaGreatDoor
set_option maxRecDepth 100000
open Go Go.RowKit
set_option linter.unusedVariables false

def accP : ByteArray := ⟨#[97, 99, 99, 47]⟩
def kAcc (a : ByteArray) : ByteArray := accP ++ a
theorem kAcc_size (a : ByteArray) : (kAcc a).size = a.size + 4 := by
  unfold kAcc
  rw [ByteArray.size_append]
  have : accP.size = 4 := by decide +kernel
  omega
theorem kAcc_fits {a : ByteArray} (h : identB a = true) : keyB (kAcc a) = true := by
  obtain ⟨h1, h2⟩ := identL_len2 h
  have h3 : a.data.toList.length = a.size := by simp
  have h4 := kAcc_size a
  unfold keyB
  simp only [Bool.and_eq_true, decide_eq_true_eq]
  omega

/-- an account's bytes -/
def accB (r : List UInt8) (b s : Nat) : List UInt8 := (encB r ++ be b 8) ++ be s 8
/-- an account, read -/
def readA (l : List UInt8) : Option (List UInt8 × Nat × Nat) :=
  if rEnd (rN (rN (rB l 0).2.1 (rB l 0).2.2).2.1 (rN (rB l 0).2.1 (rB l 0).2.2).2.2).2.1 (rN (rN (rB l 0).2.1 (rB l 0).2.2).2.1 (rN (rB l 0).2.1 (rB l 0).2.2).2.2).2.2 = 0 then
    some ((rB l 0).1, (rN (rB l 0).2.1 (rB l 0).2.2).1, (rN (rN (rB l 0).2.1 (rB l 0).2.2).2.1 (rN (rB l 0).2.1 (rB l 0).2.2).2.2).1)
  else none
theorem accB_len {r : List UInt8} {b s : Nat} (h : r.length ≤ 60000) : (accB r b s).length ≤ 65535 := by
  unfold accB encB
  simp only [List.length_append, be_length, List.length_take]
  omega
theorem readA_accB {r : List UInt8} {b s : Nat} (h1 : r.length ≤ 65535) (h2 : b < 18446744073709551616) (h3 : s < 18446744073709551616) : readA (accB r b s) = some (r, b, s) := by
  have e1 : rB (accB r b s) 0 = (r, be b 8 ++ be s 8, 0) := by
    unfold accB
    rw [List.append_assoc, rB_enc, List.take_of_length_le h1]
  have e2 := rN_enc b (be s 8) h2
  have e3 := rN_enc s [] h3
  rw [List.append_nil] at e3
  unfold readA
  simp only [e1, e2, e3]
  rfl
theorem rN_lt (l : List UInt8) (f : Int) : (rN l f).1 < 18446744073709551616 := by
  unfold rN
  split
  · show 0 < _; omega
  · split
    · show 0 < _; omega
    · have := beVal_lt8 (l.take 8) 8 (by simp; omega)
      show beVal (l.take 8) < _
      omega
/-- what an account's row reads as is in bounds -/
theorem readA_ok {l r : List UInt8} {b s : Nat} (h : readA l = some (r, b, s)) : r.length ≤ 65535 ∧ b < 18446744073709551616 ∧ s < 18446744073709551616 := by
  unfold readA at h
  split at h
  · have e := Option.some.inj h
    have e1 := congrArg Prod.fst e
    have e2 := congrArg (fun x => x.2.1) e
    have e3 := congrArg (fun x => x.2.2) e
    dsimp only at e1 e2 e3
    rw [← e1, ← e2, ← e3]
    exact ⟨rB_le _ _, rN_lt _ _, rN_lt _ _⟩
  · cases h
/-- the account at an address -/
def getA (R : List Pr) (a : ByteArray) : Option (List UInt8 × Nat × Nat) := (getL R (kAcc a)).bind readA
/-- a row put in -/
def putA (R : List Pr) (a : ByteArray) (r : List UInt8) (b s : Nat) : List Pr := putL (kAcc a, some (accB r b s)) R
theorem getA_put {R : List Pr} {a : ByteArray} {r : List UInt8} {b s : Nat} (h1 : r.length ≤ 65535) (h2 : b < 18446744073709551616) (h3 : s < 18446744073709551616) : getA (putA R a r b s) a = some (r, b, s) := by
  unfold getA putA
  rw [getL_putL, if_pos rfl]
  exact readA_accB h1 h2 h3
/-- how many rows there are, with one more put in -/
theorem putL_len {R : List Pr} (h : Rise R) (key : ByteArray) (v : List UInt8) : (putL (key, some v) R).length = R.length + (if (getL R key).isSome = true then 0 else 1) := by
  have h1 := (putL_perm key (some v) R).length_eq
  have h2 := (h.perm key).length_eq
  rw [h1, h2]
  cases getL R key <;> simp <;> omega
def createM (R : List Pr) (a : ByteArray) (r : List UInt8) : Int × List Pr :=
  if identB a = true then (if r.length = 32 then (if (getL R (kAcc a)).isSome = true then (111, R) else (0, putA R a r 0 0)) else (31, R)) else (40, R)
def rekeyM (R : List Pr) (a : ByteArray) (r : List UInt8) : Int × List Pr :=
  match getA R a with
  | none => (80, R)
  | some x => if r.length = 32 then (0, putA R a r x.2.2 x.2.2) else (31, R)
theorem create_no {R : List Pr} {a : ByteArray} {r : List UInt8} (h : (createM R a r).1 ≠ 0) : (createM R a r).2 = R ∧ ((getL R (kAcc a)).isSome = true ∨ r.length ≠ 32 ∨ (createM R a r).1 = 40) := by
  unfold createM at h ⊢
  split
  · split
    · split
      · exact ⟨rfl, Or.inl ‹_›⟩
      · next h1 h2 h3 => rw [if_pos h1, if_pos h2, if_neg h3] at h; exact absurd rfl h
    · exact ⟨rfl, Or.inr (Or.inl ‹_›)⟩
  · exact ⟨rfl, Or.inr (Or.inr rfl)⟩
theorem create_yes {R : List Pr} {a : ByteArray} {r : List UInt8} (h : (createM R a r).1 = 0) : identB a = true ∧ r.length = 32 ∧ getL R (kAcc a) = none ∧ (createM R a r).2 = putA R a r 0 0 := by
  unfold createM at h ⊢
  split
  · next h1 =>
    rw [if_pos h1] at h
    split
    · next h2 =>
      rw [if_pos h2] at h
      split
      · next h3 => rw [if_pos h3] at h; cases h
      · next h3 => exact ⟨h1, h2, by simpa using h3, rfl⟩
    · next h2 => rw [if_neg h2] at h; cases h
  · next h1 => rw [if_neg h1] at h; cases h
/-- made once, it is not made again -/
theorem create_twice {R : List Pr} {a : ByteArray} {r : List UInt8} (h : (createM R a r).1 = 0) : createM (createM R a r).2 a r = (111, (createM R a r).2) := by
  obtain ⟨h1, h2, h3, h4⟩ := create_yes h
  rw [h4]
  conv => lhs; unfold createM
  rw [if_pos h1, if_pos h2, if_pos]
  unfold putA
  rw [getL_putL, if_pos rfl]
  rfl
theorem Rise.putA {R : List Pr} (h : Rise R) {a : ByteArray} {r : List UInt8} {b s : Nat} : Rise (putA R a r b s) := h.put _
end Go.Proofs.YtnapmdfdbkpjpaaGreatDoor
