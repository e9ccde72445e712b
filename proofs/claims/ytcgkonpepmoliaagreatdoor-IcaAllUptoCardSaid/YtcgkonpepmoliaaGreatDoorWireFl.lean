
/- The walks of package wire: a flag put. -/
import Derived.Test.YtcgkonpepmoliaaGreatDoorWireW0
namespace Go.Proofs.YtcgkonpepmoliaaGreatDoor
set_option maxRecDepth 100000
open Go.RowKit

/-- the byte of a flag -/
def fb (yes : Bool) : UInt8 := if yes then 1 else 0

set_option maxHeartbeats 400000 in
theorem F_any (v : Value) (yes : Bool) (l : List UInt8) (w : World) (hr : Rd w w.heap.size v l) (hl : l.length ≤ 140737488355320) :
    Calls Tryz.prog 70 #[v, .bool yes] w fun e w' => ∃ v', e = .returned v' ∧ Own w' w.heap.size v' (l ++ [fb yes]) ∧ Below w.heap.size w w' := by
  obtain ⟨i0, hi, hz, hsz, hby⟩ := info_parts Tryz.infoByte
  cases yes
  · go_enter Tryz.func70, Tryz.ntmps70
    go_wp2_with fail
    refine (grown_any v l _ w hr (by omega) (by omega)).mono ?_
    rintro e w1 ⟨v1, rfl, ho1, hb1⟩
    go_wp2_with (at_builtin; refine wpList_append_rd rfl (.tmp 12) (.tmp 13) _ rfl i0 Tryz.underlying40 hi hz hsz hby rfl (ho1.alloc _) rfl (rd_lit w1 _ [0] 1 rfl (by simp [bcells, bval]) (by simp [maxLen])) (by simp; omega) (by have := hb1.size; simp; omega) ?_; intro v3 w3 ho3 hg3 _)
    go_ret
    exact ⟨_, rfl, ho3, Own.below_grown (hb1.alloc hb1.size _) (ho1.alloc _) (Nat.le_refl _) (by have := hb1.size; simp; omega) hg3⟩
  · go_enter Tryz.func70, Tryz.ntmps70
    go_wp2_with fail
    refine (grown_any v l _ w hr (by omega) (by omega)).mono ?_
    rintro e w1 ⟨v1, rfl, ho1, hb1⟩
    go_wp2_with (at_builtin; refine wpList_append_rd rfl (.tmp 9) (.tmp 10) _ rfl i0 Tryz.underlying40 hi hz hsz hby rfl (ho1.alloc _) rfl (rd_lit w1 _ [1] 1 rfl (by simp [bcells, bval]) (by simp [maxLen])) (by simp; omega) (by have := hb1.size; simp; omega) ?_; intro v3 w3 ho3 hg3 _)
    go_ret
    exact ⟨_, rfl, ho3, Own.below_grown (hb1.alloc hb1.size _) (ho1.alloc _) (Nat.le_refl _) (by have := hb1.size; simp; omega) hg3⟩
end Go.Proofs.YtcgkonpepmoliaaGreatDoor
