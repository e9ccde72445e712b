
/- The walk of the document's put of a text. -/
import Derived.Test.YtohnhdandkkonaaDoorRefB
namespace Go.Proofs.YtohnhdandkkonaaDoor
set_option maxRecDepth 100000
open Go.RowKit

set_option maxHeartbeats 400000 in
theorem refT_any (v : Value) (s : ByteArray) (l : List UInt8) (w : World) (hr : Rd w w.heap.size v l) (hsm : s.size ≤ maxLen) (hl : l.length ≤ 140737488355328 - 65539) :
    Calls Tryd.prog 28 #[v, .string s] w fun e w' => ∃ v', e = .returned v' ∧ Own w' w.heap.size v' (l ++ be ((strBytes s).take 65535).length 4 ++ (strBytes s).take 65535) ∧ Below w.heap.size w w' := by
  have hcv := run_bytes_of_string (P := Tryd.prog) w 9 29 5 s Tryd.underlying9 Tryd.underlying29 Tryd.underlying5
  have hge := grownCap_ge w s.size 0 5
  have hlm := grownCap_le_maxLen w s.size 0 5 hsm
  generalize grownCap w s.size 0 5 = cap at *
  have hb0 : Below w.heap.size w (w.drew.alloc (.cells (bytesRow s cap) 5 ((bytesRow s cap).size, (bytesRow s cap).size + 1))) := ((Below.refl _ _).drew).alloc (Nat.le_refl _) _
  have hx : Rd (w.drew.alloc (.cells (bytesRow s cap) 5 ((bytesRow s cap).size, (bytesRow s cap).size + 1))) (w.drew.alloc (.cells (bytesRow s cap) 5 ((bytesRow s cap).size, (bytesRow s cap).size + 1))).heap.size (.slice (some ⟨w.heap.size, 0, none⟩) s.size cap) (strBytes s) := by
    refine ⟨_, cap, by rw [strBytes_length], by rw [strBytes_length]; exact hge, hlm, fun _ => ⟨w.heap.size, 0, rfl, by simp, fun j hj => ?_⟩⟩
    rw [strBytes_length] at hj
    rw [show 0 + j = j by omega]
    have h1 := cell_of_row (w.drew.alloc (.cells (bytesRow s cap) 5 ((bytesRow s cap).size, (bytesRow s cap).size + 1))) w.heap.size j (bytesRow s cap) _ _ (heap_alloc_new w.drew _)
    rw [h1, bytesRow_at s cap j hj]
    rfl
  generalize hw2 : w.drew.alloc (.cells (bytesRow s cap) 5 ((bytesRow s cap).size, (bytesRow s cap).size + 1)) = w2 at *
  have HX := Lib.hid hx
  clear hx hw2 hge hlm
  go_enter Tryd.func28, Tryd.ntmps28
  go_wp2_with fail
  refine (refB_any v _ l (strBytes s) w2 (hr.up (Nat.le_refl _) hb0) HX.out hl).mono ?_
  rintro e w3 ⟨v3, rfl, ho3, hb3⟩
  go_wp2_with fail
  go_ret
  exact ⟨_, rfl, ho3.more hb0.size, below_chain hb0 hb0.size hb3⟩
end Go.Proofs.YtohnhdandkkonaaDoor
