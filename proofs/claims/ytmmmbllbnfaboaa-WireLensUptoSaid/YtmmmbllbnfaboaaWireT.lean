/- The walks: texts, flags; the document's own puts; bytes.Clone. -/
import Derived.Test.YtmmmbllbnfaboaaWireS
namespace Go.Proofs.Ytmmmbllbnfaboaa
open Go.RowKit

theorem Try.isString : Try.prog.underlying 9 = some .string := Try.underlying9

theorem strBytes_extract (s : ByteArray) (n : Nat) : strBytes (s.extract 0 n) = (strBytes s).take n := by
  simp [strBytes, ByteArray.data_extract]

set_option maxHeartbeats 400000 in
theorem T_any (v : Value) (s : ByteArray) (l : List UInt8) (w : World) (hr : Rd w w.heap.size v l) (hsm : s.size ≤ maxLen) (hl : l.length ≤ 140737488355328 - 65539) :
    Calls Try.prog 11 #[v, .string s] w fun e w' => ∃ v', e = .returned v' ∧ Own w' w.heap.size v' (l ++ be ((strBytes s).take 65535).length 4 ++ (strBytes s).take 65535) ∧ Below w.heap.size w w' := by
  obtain ⟨i0, hi, hz, hsz, hby⟩ := info_parts Try.infoByte
  unfold maxLen at hsm
  have hln := strBytes_length s
  by_cases h0 : s.size ≤ 65535
  · have ht : (strBytes s).take 65535 = strBytes s := List.take_of_length_le (by omega)
    rw [ht, hln]
    clear hln ht
    go_enter Try.func11, Try.ntmps11
    go_wp2_with fail
    refine (grown_any v l _ w hr (by omega) (by omega)).mono ?_
    rintro e w1 ⟨v1, rfl, ho1, hb1⟩
    go_wp2_with fail
    refine (appendHigh_any v1 l s.size 4 w.heap.size w1 ho1 (by omega) (by omega) (by omega) hb1.size).mono ?_
    rintro e w2 ⟨v2, rfl, ho2, hb2⟩
    have hb12 := hb1.trans hb2
    go_wp2_with (at_builtin; refine wpList_append_str rfl (.tmp 20) (.tmp 21) _ _ rfl i0 Try.underlying22 Try.isString hi hz hsz hby rfl ho2 rfl (by simp [be_length]; omega) hb12.size ?_; intro v3 w3 ho3 hg3)
    go_ret
    exact ⟨_, rfl, ho3, Own.below_grown hb12 ho2 (Nat.le_refl _) hb12.size hg3⟩
  · have htl : ((strBytes s).take 65535).length = 65535 := by simp; omega
    have hxl : (s.extract 0 65535).size = 65535 := by rw [← strBytes_length, strBytes_extract]; exact htl
    have h1 : ¬ (s.size : Int) ≤ 65535 := by omega
    have hbnd : (65535 : Int) ≤ (s.size : Int) := by omega
    rw [← strBytes_extract] at htl ⊢
    have HX := Lib.hid hxl
    have HT := Lib.hid htl
    clear hxl htl
    go_enter Try.func11, Try.ntmps11
    go_wp2_with fail
    have hmin : min 65535 s.size = 65535 := by omega
    rw [hmin]
    refine (grown_any v l _ w hr (by omega) (by omega)).mono ?_
    rintro e w1 ⟨v1, rfl, ho1, hb1⟩
    clear hmin
    go_wp2_with fail
    have hmin : min 65535 s.size = 65535 := by omega
    rw [hmin]
    clear hmin
    refine (appendHigh_any v1 l 65535 4 w.heap.size w1 ho1 (by omega) (by omega) (by omega) hb1.size).mono ?_
    rintro e w2 ⟨v2, rfl, ho2, hb2⟩
    have hb12 := hb1.trans hb2
    go_wp2_with (at_builtin; refine wpList_append_str rfl (.tmp 20) (.tmp 21) _ _ rfl i0 Try.underlying22 Try.isString hi hz hsz hby rfl ho2 rfl (by have := HX.out; simp [be_length]; omega) hb12.size ?_; intro v3 w3 ho3 hg3)
    go_ret
    exact ⟨_, rfl, by rw [HT.out]; exact ho3, Own.below_grown hb12 ho2 (Nat.le_refl _) hb12.size hg3⟩

/-- the byte of a flag -/
def fb (yes : Bool) : UInt8 := if yes then 1 else 0

set_option maxHeartbeats 400000 in
theorem F_any (v : Value) (yes : Bool) (l : List UInt8) (w : World) (hr : Rd w w.heap.size v l) (hl : l.length ≤ 140737488355320) :
    Calls Try.prog 12 #[v, .bool yes] w fun e w' => ∃ v', e = .returned v' ∧ Own w' w.heap.size v' (l ++ [fb yes]) ∧ Below w.heap.size w w' := by
  obtain ⟨i0, hi, hz, hsz, hby⟩ := info_parts Try.infoByte
  cases yes
  · go_enter Try.func12, Try.ntmps12
    go_wp2_with fail
    refine (grown_any v l _ w hr (by omega) (by omega)).mono ?_
    rintro e w1 ⟨v1, rfl, ho1, hb1⟩
    go_wp2_with (at_builtin; refine wpList_append_rd rfl (.tmp 12) (.tmp 13) _ rfl i0 Try.underlying22 hi hz hsz hby rfl (ho1.alloc _) rfl (rd_lit w1 _ [0] 1 rfl (by simp [bcells, bval]) (by simp [maxLen])) (by simp; omega) (by have := hb1.size; simp; omega) ?_; intro v3 w3 ho3 hg3 _)
    go_ret
    exact ⟨_, rfl, ho3, Own.below_grown (hb1.alloc hb1.size _) (ho1.alloc _) (Nat.le_refl _) (by have := hb1.size; simp; omega) hg3⟩
  · go_enter Try.func12, Try.ntmps12
    go_wp2_with fail
    refine (grown_any v l _ w hr (by omega) (by omega)).mono ?_
    rintro e w1 ⟨v1, rfl, ho1, hb1⟩
    go_wp2_with (at_builtin; refine wpList_append_rd rfl (.tmp 9) (.tmp 10) _ rfl i0 Try.underlying22 hi hz hsz hby rfl (ho1.alloc _) rfl (rd_lit w1 _ [1] 1 rfl (by simp [bcells, bval]) (by simp [maxLen])) (by simp; omega) (by have := hb1.size; simp; omega) ?_; intro v3 w3 ho3 hg3 _)
    go_ret
    exact ⟨_, rfl, ho3, Own.below_grown (hb1.alloc hb1.size _) (ho1.alloc _) (Nat.le_refl _) (by have := hb1.size; simp; omega) hg3⟩
end Go.Proofs.Ytmmmbllbnfaboaa
