
/- The walks of package sha: words. -/
import Derived.Test.YtohnhdandkkonaaDoorInfo
import Derived.Test.YtohnhdandkkonaaDoorWord
namespace Go.Proofs.YtohnhdandkkonaaDoor
set_option maxRecDepth 100000
open Go.RowKit

theorem and31 (n : Nat) (h0 : 0 < n) (hn : n < 32) : bits BinOp.and IntKind.u64 (IntKind.u64.wrap (-(n : Int))) 31 = ((32 - n : Nat) : Int) := by
  have e : IntKind.u64.wrap (-(n : Int)) = ((18446744073709551616 - n : Nat) : Int) := by rw [IntKind.wrap_u64]; omega
  have := bits_and_u64_nat (18446744073709551616 - n) 31 (by omega) (by omega)
  rw [e, show (31 : Int) = ((31 : Nat) : Int) from rfl, this, show 31 = 2 ^ 5 - 1 from rfl, Nat.and_two_pow_sub_one_eq_mod]
  congr 1
  omega

set_option maxHeartbeats 400000 in
theorem rotl_any (x : UInt32) (n : Nat) (w : World) (h0 : 0 < n) (hn : n < 32) :
    Calls Tryd.prog 80 #[.int .u32 (x.toNat : Int), .int .i64 (-(n : Int))] w fun e w' => e = .returned (.int .u32 ((rotr x n).toNat : Int)) ∧ w = w' := by
  have hx := x.toNat_lt
  have ha := and31 n h0 hn
  have hm : (0 : Int) < ((32 - n : Nat) : Int) := by omega
  have hm2 : ((32 - n : Nat) : Int) < 32 := by omega
  obtain ⟨m, hmm⟩ : ∃ m : Nat, m = 32 - n := ⟨_, rfl⟩
  rw [← hmm] at ha hm hm2
  have HM := Lib.hid hmm
  have i1 : (32 : Int) - (m : Int) = (n : Int) := by omega
  have i2 : (0 : Int) ≤ (m : Int) := by omega
  clear hmm
  go_enter Tryd.func80, Tryd.ntmps80
  go_wp2_with fail
  go_ret
  refine ⟨?_, rfl⟩
  show Ending.returned (.int .u32 (bits BinOp.or IntKind.u32 ((x.toNat : Int) * 2 ^ m % 4294967296) ((x.toNat : Int) / 2 ^ n))) = _
  rw [w_shl x m (by omega), w_shr x n hn, w_or, HM.out]
  rfl

theorem turn_any (x : UInt32) (n : Nat) (w : World) (h0 : 0 < n) (hn : n < 32) :
    Calls Tryd.prog 74 #[.int .u32 (x.toNat : Int), .int .i64 (n : Int)] w fun e w' => e = .returned (.int .u32 ((rotr x n).toNat : Int)) ∧ w = w' := by
  go_enter Tryd.func74, Tryd.ntmps74
  go_wp2_with fail
  refine (rotl_any x n w h0 hn).mono ?_
  rintro e w' ⟨rfl, rfl⟩
  go_wp2_with fail
  go_ret
  exact ⟨rfl, rfl⟩
end Go.Proofs.YtohnhdandkkonaaDoor
