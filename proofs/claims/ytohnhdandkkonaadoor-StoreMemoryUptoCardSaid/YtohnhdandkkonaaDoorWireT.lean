
/- The walks of package wire: a text put. -/
import Derived.Test.YtohnhdandkkonaaDoorWireW
namespace Go.Proofs.YtohnhdandkkonaaDoor
set_option maxRecDepth 100000
open Go.RowKit

set_option maxHeartbeats 400000 in
theorem T_any (v : Value) (s : ByteArray) (l : List UInt8) (w : World) (hr : Rd w w.heap.size v l) (hsm : s.size ≤ maxLen) (hl : l.length ≤ 140737488355328 - 65539) :
    Calls Tryd.prog 48 #[v, .string s] w fun e w' => ∃ v', e = .returned v' ∧ Own w' w.heap.size v' (l ++ be ((strBytes s).take 65535).length 4 ++ (strBytes s).take 65535) ∧ Below w.heap.size w w' := by
  obtain ⟨i0, hi, hz, hsz, hby⟩ := info_parts Tryd.infoByte
  unfold maxLen at hsm
  have hln := strBytes_length s
  by_cases h0 : s.size ≤ 65535
  · have ht : (strBytes s).take 65535 = strBytes s := List.take_of_length_le (by omega)
    rw [ht, hln]
    clear hln ht
    go_enter Tryd.func48, Tryd.ntmps48
    go_wp2_with fail
    refine (grown_any v l _ w hr (by omega) (by omega)).mono ?_
    rintro e w1 ⟨v1, rfl, ho1, hb1⟩
    go_wp2_with fail
    refine (appendHigh_any v1 l s.size 4 w.heap.size w1 ho1 (by omega) (by omega) (by omega) hb1.size).mono ?_
    rintro e w2 ⟨v2, rfl, ho2, hb2⟩
    have hb12 := hb1.trans hb2
    go_wp2_with (at_builtin; refine wpList_append_str rfl (.tmp 20) (.tmp 21) _ _ rfl i0 Tryd.underlying29 Tryd.isString hi hz hsz hby rfl ho2 rfl (by simp [be_length]; omega) hb12.size ?_; intro v3 w3 ho3 hg3)
    go_ret
    exact ⟨_, rfl, ho3, Own.below_grown hb12 ho2 (Nat.le_refl _) hb12.size hg3⟩
  · have htl : ((strBytes s).take 65535).length = 65535 := by simp; omega
    have hxl : (s.extract 0 65535).size = 65535 := by rw [← strBytes_length, strBytes_extract]; exact htl
    have h1 : ¬ (s.size : Int) ≤ 65535 := by omega
    have hbnd : (65535 : Int) ≤ (s.size : Int) := by omega
    rw [← strBytes_extract] at htl ⊢
    have HX := Lib.hid hxl
    have HT := Lib.hid htl
    clear hxl htl
    go_enter Tryd.func48, Tryd.ntmps48
    go_wp2_with fail
    have hmin : min 65535 s.size = 65535 := by omega
    rw [hmin]
    refine (grown_any v l _ w hr (by omega) (by omega)).mono ?_
    rintro e w1 ⟨v1, rfl, ho1, hb1⟩
    clear hmin
    go_wp2_with fail
    have hmin : min 65535 s.size = 65535 := by omega
    rw [hmin]
    clear hmin
    refine (appendHigh_any v1 l 65535 4 w.heap.size w1 ho1 (by omega) (by omega) (by omega) hb1.size).mono ?_
    rintro e w2 ⟨v2, rfl, ho2, hb2⟩
    have hb12 := hb1.trans hb2
    go_wp2_with (at_builtin; refine wpList_append_str rfl (.tmp 20) (.tmp 21) _ _ rfl i0 Tryd.underlying29 Tryd.isString hi hz hsz hby rfl ho2 rfl (by have := HX.out; simp [be_length]; omega) hb12.size ?_; intro v3 w3 ho3 hg3)
    go_ret
    exact ⟨_, rfl, by rw [HT.out]; exact ho3, Own.below_grown hb12 ho2 (Nat.le_refl _) hb12.size hg3⟩


end Go.Proofs.YtohnhdandkkonaaDoor
