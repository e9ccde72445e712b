/- The walk of the document's turn of a word. -/
import Derived.Test.YtgomhojaappbnaaDoorShaT
namespace Go.Proofs.YtgomhojaappbnaaDoor
open Go.RowKit

set_option maxHeartbeats 400000 in
theorem rturn_any (x : UInt32) (n : Nat) (w : World) (h0 : 0 < n) (hn : n < 32) :
    Calls Tryd.prog 52 #[.int .u32 (x.toNat : Int), .int .u64 (n : Int)] w fun e w' => e = .returned (.int .u32 ((rotr x n).toNat : Int)) ∧ w = w' := by
  have hx := x.toNat_lt
  obtain ⟨m, hmm⟩ : ∃ m : Nat, m = 32 - n := ⟨_, rfl⟩
  have HM := Lib.hid hmm
  have i1 : (32 : Int) - (n : Int) = (m : Int) := by omega
  have i2 : (0 : Int) ≤ (m : Int) := by omega
  have i3 : (m : Int) < 32 := by omega
  have i4 : (n : Int) < 32 := by omega
  have i5 : (n : Int) ≤ 32 := by omega
  clear hmm
  go_enter Tryd.func52, Tryd.ntmps52
  go_wp2_with fail
  go_ret
  refine ⟨?_, rfl⟩
  show Ending.returned (.int .u32 (bits BinOp.or IntKind.u32 ((x.toNat : Int) / 2 ^ n) ((x.toNat : Int) * 2 ^ m % 4294967296))) = _
  rw [w_shl x m (by omega), w_shr x n hn, w_or, HM.out]
  unfold rotr
  rw [UInt32.or_comm]

theorem rturn_still (x : UInt32) (n : Nat) (w : World) (h0 : 0 < n) (hn : n < 32) :
    Calls Tryd.prog 52 #[.int .u32 (x.toNat : Int), .int .u64 (n : Int)] w fun e w' => e = .returned (.int .u32 ((rotr x n).toNat : Int)) ∧ w' = w :=
  (rturn_any x n w h0 hn).mono fun _ _ ⟨h, e⟩ => ⟨h, e.symm⟩
theorem rturn_quiet (x : UInt32) (n : Nat) (w : World) (m : Nat) (h0 : 0 < n) (hn : n < 32) :
    Calls Tryd.prog 52 #[.int .u32 (x.toNat : Int), .int .u64 (n : Int)] (w.drewN m) fun e w'' => e = .returned (.int .u32 ((rotr x n).toNat : Int)) ∧ ∃ k, w'' = w.drewN k :=
  Calls.quiet_of_same (rturn_still x n _ h0 hn)
end Go.Proofs.YtgomhojaappbnaaDoor
