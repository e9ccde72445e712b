/- The walks of the document's puts: a flag. -/
import Derived.Test.YtmmmbllbnfaboaaInfo
import Derived.Test.YtmmmbllbnfaboaaWireFl
namespace Go.Proofs.Ytmmmbllbnfaboaa
open Go.RowKit

set_option maxHeartbeats 400000 in
theorem refF_any (v : Value) (yes : Bool) (l : List UInt8) (w : World) (hr : Rd w w.heap.size v l) (hl : l.length ≤ 140737488355320) :
    Calls Try.prog 17 #[v, .bool yes] w fun e w' => ∃ v', e = .returned v' ∧ Own w' w.heap.size v' (l ++ [fb yes]) ∧ Below w.heap.size w w' := by
  obtain ⟨i0, hi, hz, hsz, hby⟩ := info_parts Try.infoByte
  have hbe : Below w.heap.size w (w.alloc (.cells #[] 5)) := (Below.refl _ _).alloc (Nat.le_refl _) _
  go_enter Try.func17, Try.ntmps17
  cases yes
  · go_wp2_with (first
      | (at_builtin; refine wpList_append_rd rfl (.tmp 6) (.tmp 7) _ rfl i0 Try.underlying22 hi hz hsz hby rfl (own_empty w (Nat.le_refl _)) rfl (hr.below hbe) (by simp; omega) hbe.size ?_; intro v1 w1 ho1 hg1 _; have hb1 : Below w.heap.size w w1 := Own.below_grown hbe (own_empty w (Nat.le_refl _)) (Nat.le_refl _) hbe.size hg1)
      | (at_builtin; refine wpList_append_rd rfl (.tmp 13) (.tmp 14) _ rfl i0 Try.underlying22 hi hz hsz hby rfl (ho1.alloc _) rfl (rd_lit w1 _ [0] 1 rfl (by simp [bcells, bval]) (by simp [maxLen])) (by simp; omega) (by have := hb1.size; simp; omega) ?_; intro v3 w3 ho3 hg3 _))
    go_ret
    exact ⟨_, rfl, ho3, Own.below_grown (hb1.alloc hb1.size _) (ho1.alloc _) (Nat.le_refl _) (by have := hb1.size; simp; omega) hg3⟩
  · go_wp2_with (first
      | (at_builtin; refine wpList_append_rd rfl (.tmp 6) (.tmp 7) _ rfl i0 Try.underlying22 hi hz hsz hby rfl (own_empty w (Nat.le_refl _)) rfl (hr.below hbe) (by simp; omega) hbe.size ?_; intro v1 w1 ho1 hg1 _; have hb1 : Below w.heap.size w w1 := Own.below_grown hbe (own_empty w (Nat.le_refl _)) (Nat.le_refl _) hbe.size hg1)
      | (at_builtin; refine wpList_append_rd rfl (.tmp 10) (.tmp 11) _ rfl i0 Try.underlying22 hi hz hsz hby rfl (ho1.alloc _) rfl (rd_lit w1 _ [1] 1 rfl (by simp [bcells, bval]) (by simp [maxLen])) (by simp; omega) (by have := hb1.size; simp; omega) ?_; intro v3 w3 ho3 hg3 _))
    go_ret
    exact ⟨_, rfl, ho3, Own.below_grown (hb1.alloc hb1.size _) (ho1.alloc _) (Nat.le_refl _) (by have := hb1.size; simp; omega) hg3⟩


end Go.Proofs.Ytmmmbllbnfaboaa
