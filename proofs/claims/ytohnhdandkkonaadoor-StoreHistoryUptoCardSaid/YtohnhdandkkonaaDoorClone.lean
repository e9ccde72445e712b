
/- The walk of bytes.Clone. -/
import Derived.Test.YtohnhdandkkonaaDoorInfo
namespace Go.Proofs.YtohnhdandkkonaaDoor
set_option maxRecDepth 100000
open Go.RowKit

set_option maxHeartbeats 400000 in
/-- a copy in new memory; of nil: nil -/
theorem clone_any (v : Value) (l : List UInt8) (w : World) (hr : Rd w w.heap.size v l) (hl : l.length ≤ 140737488355320) :
    Calls Tryd.prog 20 #[v] w fun e w' => ∃ v', e = .returned v' ∧ Own w' w.heap.size v' l ∧ Below w.heap.size w w' := by
  obtain ⟨i0, hi, hz, hsz, hby⟩ := info_parts Tryd.infoByte
  have hbe : Below w.heap.size w (w.alloc (.cells #[] 5)) := (Below.refl _ _).alloc (Nat.le_refl _) _
  have hr0 := hr
  obtain ⟨A, c, rfl, hc, hcm, hp⟩ := hr
  cases A with
  | none =>
    have h0 : l = [] := by
      rcases Nat.eq_zero_or_pos l.length with h | h
      · exact List.eq_nil_of_length_eq_zero h
      · obtain ⟨b, o, h', _⟩ := hp h; cases h'
    subst h0
    have hq := fun (W : World) => Lib.run_eql_slice_nil (P := Tryd.prog) W 29 5 none 0 c 0 0 Tryd.underlying29
    go_enter Tryd.func20, Tryd.ntmps20
    go_wp2
    go_ret
    exact ⟨_, rfl, Own.nil _ _, Below.refl _ _⟩
  | some ad =>
    have hq := fun (W : World) => Lib.run_eql_slice_nil (P := Tryd.prog) W 29 5 (some ad) l.length c 0 0 Tryd.underlying29
    go_enter Tryd.func20, Tryd.ntmps20
    go_wp2_with (at_builtin; refine wpList_append_rd rfl (.tmp 5) (.tmp 6) _ rfl i0 Tryd.underlying29 hi hz hsz hby rfl (own_empty w (Nat.le_refl _)) rfl (hr0.below hbe) (by simp; omega) hbe.size ?_; intro v1 w1 ho1 hg1 _)
    go_ret
    exact ⟨_, rfl, ho1, Own.below_grown hbe (own_empty w (Nat.le_refl _)) (Nat.le_refl _) hbe.size hg1⟩
end Go.Proofs.YtohnhdandkkonaaDoor
