
/- A number's bytes, read. -/
import Derived.Test.YtpcoonnfaoakhaaWireR0
import Derived.Test.YtpcoonnfaoakhaaBase0
namespace Go.Proofs.Ytpcoonnfaoakhaa
set_option maxRecDepth 100000

theorem be_lt (n k : Nat) : beVal (be n k) = n % 256 ^ k := by
  induction k with
  | zero => simp [be, beVal, Nat.mod_one]
  | succ k ih =>
    have h1 : ∀ (l : List UInt8) (a : Nat), l.foldl (fun n x => n * 256 + x.toNat) a = a * 256 ^ l.length + beVal l := by
      intro l
      induction l with
      | nil => intro a; simp [beVal]
      | cons x l ih2 =>
        intro a
        simp only [List.foldl_cons, List.length_cons, beVal]
        rw [ih2, ih2 (0 * 256 + x.toNat), Nat.pow_succ]
        simp only [Nat.zero_mul, Nat.zero_add, Nat.add_mul, Nat.mul_assoc, Nat.add_assoc, Nat.mul_comm 256]
    have h2 : beVal (be n (k + 1)) = (UInt8.ofNat (n / 2 ^ (8 * k))).toNat * 256 ^ k + beVal (be n k) := by
      simp only [be]
      rw [show beVal (UInt8.ofNat (n / 2 ^ (8 * k)) :: be n k) = (be n k).foldl (fun n x => n * 256 + x.toNat) (UInt8.ofNat (n / 2 ^ (8 * k))).toNat by simp [beVal], h1, be_length]
    rw [h2, ih]
    have h3 : (2 : Nat) ^ (8 * k) = 256 ^ k := by rw [Nat.pow_mul]
    rw [h3, UInt8.toNat_ofNat']
    have h4 : n % 256 ^ (k + 1) = 256 ^ k * (n / 256 ^ k % 256) + n % 256 ^ k := by
      rw [Nat.pow_succ, Nat.mod_mul]
      omega
    rw [h4, Nat.mul_comm]
end Go.Proofs.Ytpcoonnfaoakhaa
