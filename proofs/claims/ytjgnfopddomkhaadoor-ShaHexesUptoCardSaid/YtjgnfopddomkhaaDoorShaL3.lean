/- The walk of the law: two digits for each byte. -/
import Derived.Test.YtjgnfopddomkhaaDoorShaL1
import Derived.Test.YtjgnfopddomkhaaDoorRefHex
namespace Go.Proofs.YtjgnfopddomkhaaDoor
open Go.RowKit

set_option maxHeartbeats 1000000 in
theorem hexes_walk (va : Value) (a : List UInt8) (w : World) (ha : Rd w w.heap.size va a) (hal : a.length ≤ 70368744177664)
    (fr : TypeId × Nat × Nat) (hk : w.heap[0]? = some (.cells kVals fr.1 fr.2)) :
    Calls Tryd.prog 5 #[va] w fun e w' => e = .returned (.bool true) ∧ Below w.heap.size w w' := by
  obtain ⟨A, c, rfl, hc, hcm, hp⟩ := id ha
  clear hp
  go_enter Tryd.func5, Tryd.ntmps5
  go_wp2_with fail
  refine (fixed_any w fr hk).mono ?_
  rintro e w1 ⟨rfl, hb1⟩
  have ha1 := ha.up (Nat.le_refl _) hb1
  go_wp2_with fail
  refine (hex_any _ a w1 ha1 hal).mono ?_
  rintro e w2 ⟨rfl, hb2⟩
  have hbw2 := below_chain hb1 hb1.size hb2
  have ha2 := ha1.up (Nat.le_refl _) hb2
  go_wp2_with fail
  refine (refHex_any _ a w2 ha2 hal).mono ?_
  rintro e w3 ⟨rfl, hb3⟩
  have hbw3 := below_chain hbw2 hbw2.size hb3
  have ha3 := ha2.up (Nat.le_refl _) hb3
  clear hb1 hb2 hb3 ha1 ha2 hbw2 ha
  have hlen := hexOf_length a
  obtain ⟨s, hs⟩ : ∃ s, s = hexOf a := ⟨_, rfl⟩
  have hx := hex_any _ a w3 ha3 hal
  rw [← hs] at hlen hx ⊢
  have HX := Lib.hid hx
  clear hx hs ha3
  have m1 : IntKind.i64.wrap (2 * (a.length : Int)) = ((2 * a.length : Nat) : Int) := by simp only [IntKind.wrap, IntKind.bits, IntKind.signed]; simp; omega
  have hz : (⟨s.toArray⟩ : ByteArray).size = 2 * a.length := by rw [← hlen]; simp [ByteArray.size]
  go_wp2_with fail
  trace_state
  refine HX.out.mono ?_
  rintro e w4 ⟨rfl, hb4⟩
  have hbw4 := below_chain hbw3 hbw3.size hb4
  clear hb4 hbw3
  go_wp2
  trace_state
  go_ret
  exact ⟨rfl, hbw4⟩
end Go.Proofs.YtjgnfopddomkhaaDoor
