
/- The walks of package sha: words. -/
import Derived.Test.YtohnhdandkkonaaInfo
import Derived.Test.YtohnhdandkkonaaWord
namespace Go.Proofs.Ytohnhdandkkonaa
open Go.RowKit

theorem and31 (n : Nat) (h0 : 0 < n) (hn : n < 32) : bits BinOp.and IntKind.u64 (IntKind.u64.wrap (-(n : Int))) 31 = ((32 - n : Nat) : Int) := by
  have e : IntKind.u64.wrap (-(n : Int)) = ((18446744073709551616 - n : Nat) : Int) := by rw [IntKind.wrap_u64]; omega
  have := bits_and_u64_nat (18446744073709551616 - n) 31 (by omega) (by omega)
  rw [e, show (31 : Int) = ((31 : Nat) : Int) from rfl, this, show 31 = 2 ^ 5 - 1 from rfl, Nat.and_two_pow_sub_one_eq_mod]
  congr 1
  omega

end Go.Proofs.Ytohnhdandkkonaa
