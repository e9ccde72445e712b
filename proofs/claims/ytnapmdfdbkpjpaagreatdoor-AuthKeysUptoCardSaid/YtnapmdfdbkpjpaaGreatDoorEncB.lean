
/- What was put is taken again: a number, bytes. -/
import Derived.Test.YtnapmdfdbkpjpaaGreatDoorWireR
import Derived.Test.YtnapmdfdbkpjpaaGreatDoorBeLt
import Derived.Test.YtnapmdfdbkpjpaaGreatDoorBase0
namespace Go.Proofs.YtnapmdfdbkpjpaaGreatDoor
set_option maxRecDepth 100000

/-- the form of what is put -/
def encB (m : List UInt8) : List UInt8 := be (m.take 65535).length 4 ++ m.take 65535
theorem rN_enc (n : Nat) (rest : List UInt8) (h : n < 18446744073709551616) : rN (be n 8 ++ rest) 0 = (n, rest, 0) := by
  have h1 : (be n 8 ++ rest).take 8 = be n 8 := by rw [List.take_append_of_le_length (by simp [be_length]), List.take_of_length_le (by simp [be_length])]
  have h2 : (be n 8 ++ rest).drop 8 = rest := by rw [List.drop_append_of_le_length (by simp [be_length]), List.drop_of_length_le (by simp [be_length]), List.nil_append]
  unfold rN
  rw [if_neg (by simp), if_neg (by simp [be_length]), h1, h2, be_lt, Nat.mod_eq_of_lt (by omega)]
theorem rB_enc (m : List UInt8) (rest : List UInt8) : rB (encB m ++ rest) 0 = (m.take 65535, rest, 0) := by
  have hl : (m.take 65535).length ≤ 65535 := by simp; omega
  unfold encB
  generalize m.take 65535 = t at *
  have h1 : (be t.length 4 ++ t ++ rest).take 4 = be t.length 4 := by
    rw [List.append_assoc, List.take_append_of_le_length (by simp [be_length]), List.take_of_length_le (by simp [be_length])]
  have h2 : (be t.length 4 ++ t ++ rest).drop 4 = t ++ rest := by
    rw [List.append_assoc, List.drop_append_of_le_length (by simp [be_length]), List.drop_of_length_le (by simp [be_length]), List.nil_append]
  have h3 : beVal (be t.length 4) = t.length := by rw [be_lt, Nat.mod_eq_of_lt (by omega)]
  unfold rB
  rw [if_neg (by simp), if_neg (by simp [be_length]), h1, h3, if_neg (by omega), if_neg (by simp [be_length]), h2]
  rw [← List.drop_drop, h2]
  simp
end Go.Proofs.YtnapmdfdbkpjpaaGreatDoor
