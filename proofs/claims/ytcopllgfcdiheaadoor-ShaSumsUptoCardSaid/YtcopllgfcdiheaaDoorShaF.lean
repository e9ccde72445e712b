/- The law's fixed answer. -/
import Derived.Test.YtcopllgfcdiheaaDoorShaA
import Derived.Test.YtcopllgfcdiheaaDoorShaLen
import Derived.Test.YtcopllgfcdiheaaDoorShaH
import Derived.Test.YtcopllgfcdiheaaDoorConv
namespace Go.Proofs.YtcopllgfcdiheaaDoor
open Go.RowKit

theorem abc_hex : hexOf abcSum = [98, 97, 55, 56, 49, 54, 98, 102, 56, 102, 48, 49, 99, 102, 101, 97, 52, 49, 52, 49, 52, 48, 100, 101, 53, 100, 97, 101, 50, 50, 50, 51, 98, 48, 48, 51, 54, 49, 97, 51, 57, 54, 49, 55, 55, 97, 57, 99, 98, 52, 49, 48, 102, 102, 54, 49, 102, 50, 48, 48, 49, 53, 97, 100] := by decide +kernel

set_option maxRecDepth 100000 in
set_option maxHeartbeats 1000000 in
theorem fixed_any (w : World) (fr : TypeId × Nat × Nat) (hk : w.heap[0]? = some (.cells kVals fr.1 fr.2)) :
    Calls Tryd.prog 12 #[] w fun e w' => e = .returned (.bool true) ∧ Below w.heap.size w w' := by
  have hn0 := blk_lt hk
  have hcv := run_convert_made (P := Tryd.prog) (w := w) 22 #[.int .u8 97, .int .u8 98, .int .u8 99] 3 3 Tryd.underlying22 Tryd.underlying5
  go_enter Tryd.func12, Tryd.ntmps12
  go_wp2_with fail
  refine (sum_any _ [97, 98, 99] _ ((rd_lit_fr w #[.int .u8 97, .int .u8 98, .int .u8 99] [97, 98, 99] 3 _ rfl (by simp [bcells, bval]) (by simp [maxLen])).more (by simp)) (by simp) fr ((Below.heap_alloc _ _ 0 hn0).trans hk)).mono ?_
  rintro e w1 ⟨v1, rfl, ho1, hb1⟩
  rw [shaSum_abc] at ho1
  have hr1 := ho1.rd
  have hb2 : Below w.heap.size w w1 := below_chain ((Below.refl _ _).alloc (Nat.le_refl _) _) (by simp) hb1
  clear ho1 hb1
  go_wp2_with fail
  refine (hex_any v1 abcSum w1 hr1 (by decide)).mono ?_
  rintro e w3 ⟨rfl, hb3⟩
  rw [abc_hex]
  have hb4 : Below w.heap.size w w3 := below_chain hb2 hb2.size hb3
  go_wp2_with fail
  go_ret
  exact ⟨by rfl, hb4⟩
end Go.Proofs.YtcopllgfcdiheaaDoor
