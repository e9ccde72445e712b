
/- The walks of package wire: a number put. -/
import Derived.Test.YtohnhdandkkonaaDoorWireW
namespace Go.Proofs.YtohnhdandkkonaaDoor
set_option maxRecDepth 100000
open Go.RowKit

set_option maxHeartbeats 400000 in
theorem N_any (v : Value) (l : List UInt8) (n : Nat) (w : World) (hr : Rd w w.heap.size v l) (hn : n < 18446744073709551616) (hl : l.length ≤ 140737488355320) :
    Calls Tryd.prog 51 #[v, .int .u64 (n : Int)] w fun e w' => ∃ v', e = .returned v' ∧ Own w' w.heap.size v' (l ++ be n 8) ∧ Below w.heap.size w w' := by
  go_enter Tryd.func51, Tryd.ntmps51
  go_wp2_with fail
  refine (grown_any v l 8 w hr (by omega) (by omega)).mono ?_
  rintro e w1 ⟨v1, rfl, ho1, hb1⟩
  go_wp2_with fail
  refine (appendHigh_any v1 l n 8 w.heap.size w1 ho1 hn (by omega) (by omega) hb1.size).mono ?_
  rintro e w2 ⟨v2, rfl, ho2, hb2⟩
  go_wp2_with fail
  go_ret
  exact ⟨_, rfl, ho2, hb1.trans hb2⟩


theorem N_int (v : Value) (l : List UInt8) (n : Int) (w : World) (hr : Rd w w.heap.size v l) (h0 : 0 ≤ n) (hn : n < 18446744073709551616) (hl : l.length ≤ 140737488355320) :
    Calls Tryd.prog 51 #[v, .int .u64 n] w fun e w' => ∃ v', e = .returned v' ∧ Own w' w.heap.size v' (l ++ be n.toNat 8) ∧ Below w.heap.size w w' := by
  obtain ⟨n, rfl⟩ := Int.eq_ofNat_of_zero_le h0
  exact N_any v l n w hr (by omega) hl
end Go.Proofs.YtohnhdandkkonaaDoor
