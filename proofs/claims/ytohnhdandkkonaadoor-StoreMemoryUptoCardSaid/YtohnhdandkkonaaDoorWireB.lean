
/- The walks of package wire: bytes put. -/
import Derived.Test.YtohnhdandkkonaaDoorWireW
namespace Go.Proofs.YtohnhdandkkonaaDoor
set_option maxRecDepth 100000
open Go.RowKit

set_option maxHeartbeats 400000 in
theorem B_any (v x : Value) (l m : List UInt8) (w : World) (hr : Rd w w.heap.size v l) (hx : Rd w w.heap.size x m) (hl : l.length ≤ 140737488355328 - 65539) :
    Calls Tryd.prog 49 #[v, x] w fun e w' => ∃ v', e = .returned v' ∧ Own w' w.heap.size v' (l ++ be (m.take 65535).length 4 ++ m.take 65535) ∧ Below w.heap.size w w' := by
  obtain ⟨i0, hi, hz, hsz, hby⟩ := info_parts Tryd.infoByte
  have hml := hx.len
  unfold maxLen at hml
  by_cases h0 : m.length ≤ 65535
  · have ht : m.take 65535 = m := List.take_of_length_le h0
    rw [ht]
    have hx0 := hx
    obtain ⟨A, c, rfl, hc, hcm, hp⟩ := hx
    go_enter Tryd.func49, Tryd.ntmps49
    go_wp2_with fail
    refine (grown_any v l _ w hr (by omega) (by omega)).mono ?_
    rintro e w1 ⟨v1, rfl, ho1, hb1⟩
    go_wp2_with fail
    refine (appendHigh_any v1 l m.length 4 w.heap.size w1 ho1 (by omega) (by omega) (by omega) hb1.size).mono ?_
    rintro e w2 ⟨v2, rfl, ho2, hb2⟩
    have hb12 := hb1.trans hb2
    go_wp2_with (at_builtin; refine wpList_append_rd rfl (.tmp 20) (.tmp 21) _ rfl i0 Tryd.underlying29 hi hz hsz hby rfl ho2 rfl (hx0.below hb12) (by simp [be_length]; omega) hb12.size ?_; intro v3 w3 ho3 hg3 _)
    go_ret
    exact ⟨_, rfl, ho3, Own.below_grown hb12 ho2 (Nat.le_refl _) hb12.size hg3⟩
  · have hx0 := hx
    obtain ⟨A, c, rfl, hc, hcm, hp⟩ := hx
    have htl : (m.take 65535).length = 65535 := by simp; omega
    have hx1 : Rd w w.heap.size (.slice A 65535 c) (m.take 65535) := by
      obtain ⟨b, o, rfl, hb, hcell⟩ := hp (by omega)
      refine ⟨_, c, by rw [htl], by omega, hcm, fun _ => ⟨b, o, rfl, hb, fun j hj => ?_⟩⟩
      rw [hcell j (by omega)]
      simp
    have h1 : ¬ (m.length : Int) ≤ 65535 := by omega
    generalize m.take 65535 = t at *
    go_enter Tryd.func49, Tryd.ntmps49
    go_wp2_with fail
    refine (grown_any v l _ w hr (by omega) (by omega)).mono ?_
    rintro e w1 ⟨v1, rfl, ho1, hb1⟩
    go_wp2_with fail
    refine (appendHigh_any v1 l 65535 4 w.heap.size w1 ho1 (by omega) (by omega) (by omega) hb1.size).mono ?_
    rintro e w2 ⟨v2, rfl, ho2, hb2⟩
    have hb12 := hb1.trans hb2
    have HT := Lib.hid htl
    clear htl
    go_wp2_with (at_builtin; refine wpList_append_rd rfl (.tmp 20) (.tmp 21) _ rfl i0 Tryd.underlying29 hi hz hsz hby rfl ho2 rfl (hx1.below hb12) (by have := HT.out; simp [be_length]; omega) hb12.size ?_; intro v3 w3 ho3 hg3 _)
    go_ret
    exact ⟨_, rfl, by rw [HT.out]; exact ho3, Own.below_grown hb12 ho2 (Nat.le_refl _) hb12.size hg3⟩
end Go.Proofs.YtohnhdandkkonaaDoor
