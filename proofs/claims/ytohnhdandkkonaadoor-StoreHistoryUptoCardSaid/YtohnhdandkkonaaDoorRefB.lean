
/- The walks of the document's put of bytes. -/
import Derived.Test.YtohnhdandkkonaaDoorInfo
import Derived.Test.YtohnhdandkkonaaDoorBe
import Derived.Laws.IdiomStrings
namespace Go.Proofs.YtohnhdandkkonaaDoor
set_option maxRecDepth 100000
open Go.RowKit

theorem be4 (n : Nat) (h : n ≤ 65535) : be n 4 = [0, 0, UInt8.ofNat (n / 256), UInt8.ofNat (n % 256)] := by
  have e : be n 4 = [UInt8.ofNat (n / 2 ^ (8 * 3)), UInt8.ofNat (n / 2 ^ (8 * 2)), UInt8.ofNat (n / 2 ^ (8 * 1)), UInt8.ofNat (n / 2 ^ (8 * 0))] := rfl
  rw [e, show n / 2 ^ (8 * 3) = 0 by omega, show n / 2 ^ (8 * 2) = 0 by omega, show n / 2 ^ (8 * 1) = n / 256 by omega, show n / 2 ^ (8 * 0) = n by omega]
  rw [show UInt8.ofNat (n % 256) = UInt8.ofNat n from by apply UInt8.toNat_inj.1; simp]
  rfl

set_option maxHeartbeats 1000000 in
theorem refB_any (v x : Value) (l m : List UInt8) (w : World) (hr : Rd w w.heap.size v l) (hx : Rd w w.heap.size x m) (hl : l.length ≤ 140737488355328 - 65539) :
    Calls Tryd.prog 29 #[v, x] w fun e w' => ∃ v', e = .returned v' ∧ Own w' w.heap.size v' (l ++ be (m.take 65535).length 4 ++ m.take 65535) ∧ Below w.heap.size w w' := by
  obtain ⟨i0, hi, hz, hsz, hby⟩ := info_parts Tryd.infoByte
  have hml := hx.len
  unfold maxLen at hml
  obtain ⟨Al, cl, rfl⟩ := hr.form
  by_cases h0 : m.length ≤ 65535
  · have ht : m.take 65535 = m := List.take_of_length_le h0
    rw [ht, be4 m.length h0]
    have hx0 := hx
    obtain ⟨A, c, rfl, hc, hcm, hp⟩ := hx
    unfold maxLen at hcm
    have hmin : min (m.length : Int) 65535 = (m.length : Int) := by omega
    have hmin2 : min m.length 65535 = m.length := by omega
    have hmc : (m.length : Int) ≤ (c : Int) := by omega
    have q1 : (0 : Int) ≤ (m.length : Int) := by omega
    have q2 : (m.length : Int) ≤ 65535 := by omega
    clear ht hp
    have hbe : Below w.heap.size w (w.alloc (.cells #[] 5)) := (Below.refl _ _).alloc (Nat.le_refl _) _
    go_enter Tryd.func29, Tryd.ntmps29
    go_wp2_with (at_builtin; first
      | (refine wpList_append_rd rfl (.tmp 7) (.tmp 8) _ rfl i0 Tryd.underlying29 hi hz hsz hby rfl (own_empty w (Nat.le_refl _)) rfl (hr.below hbe) (by simp; omega) hbe.size ?_; intro v1 w1 ho1 hg1 _
         have hb1 : Below w.heap.size w w1 := Own.below_grown hbe (own_empty w (Nat.le_refl _)) (Nat.le_refl _) hbe.size hg1
         clear hg1 hbe)
      | (refine wpList_append_rd rfl (.tmp 13) (.tmp 14) _ rfl i0 Tryd.underlying29 hi hz hsz hby rfl (ho1.alloc _) rfl (rd_lit w1 _ [0] 1 rfl (by simp [bcells, bval] <;> omega) (by simp [maxLen])) (by simp; omega) (by have := hb1.size; simp; omega) ?_; intro v2 w2 ho2 hg2 _
         have hb2 : Below w.heap.size w w2 := Own.below_grown (hb1.alloc hb1.size _) (ho1.alloc _) (Nat.le_refl _) (by have := hb1.size; simp; omega) hg2
         clear hg2 ho1 hb1)
      | (refine wpList_append_rd rfl (.tmp 16) (.tmp 17) _ rfl i0 Tryd.underlying29 hi hz hsz hby rfl (ho2.alloc _) rfl (rd_lit w2 _ [0] 1 rfl (by simp [bcells, bval] <;> omega) (by simp [maxLen])) (by simp; omega) (by have := hb2.size; simp; omega) ?_; intro v3 w3 ho3 hg3 _
         have hb3 : Below w.heap.size w w3 := Own.below_grown (hb2.alloc hb2.size _) (ho2.alloc _) (Nat.le_refl _) (by have := hb2.size; simp; omega) hg3
         clear hg3 ho2 hb2)
      | (refine wpList_append_rd rfl (.tmp 19) (.tmp 23) _ rfl i0 Tryd.underlying29 hi hz hsz hby rfl (ho3.alloc _) rfl (rd_lit w3 _ [UInt8.ofNat (m.length / 256)] 1 rfl (by simp [bcells, bval] <;> omega) (by simp [maxLen])) (by simp; omega) (by have := hb3.size; simp; omega) ?_; intro v4 w4 ho4 hg4 _
         have hb4 : Below w.heap.size w w4 := Own.below_grown (hb3.alloc hb3.size _) (ho3.alloc _) (Nat.le_refl _) (by have := hb3.size; simp; omega) hg4
         clear hg4 ho3 hb3)
      | (refine wpList_append_rd rfl (.tmp 25) (.tmp 29) _ rfl i0 Tryd.underlying29 hi hz hsz hby rfl (ho4.alloc _) rfl (rd_lit w4 _ [UInt8.ofNat (m.length % 256)] 1 rfl (by simp [bcells, bval] <;> omega) (by simp [maxLen])) (by simp; omega) (by have := hb4.size; simp; omega) ?_; intro v5 w5 ho5 hg5 _
         have hb5 : Below w.heap.size w w5 := Own.below_grown (hb4.alloc hb4.size _) (ho4.alloc _) (Nat.le_refl _) (by have := hb4.size; simp; omega) hg5
         clear hg5 ho4 hb4)
      | (refine wpList_append_rd rfl (.tmp 31) (.tmp 34) _ rfl i0 Tryd.underlying29 hi hz hsz hby rfl ho5 rfl (hx0.below hb5) (by  simp; omega) hb5.size ?_; intro v6 w6 ho6 hg6 _
         have hb6 : Below w.heap.size w w6 := Own.below_grown hb5 ho5 (Nat.le_refl _) hb5.size hg6
         clear hg6 ho5 hb5))
    go_ret
    exact ⟨_, rfl, by simpa using ho6, hb6⟩
  · have hx0 := hx
    obtain ⟨A, c, rfl, hc, hcm, hp⟩ := hx
    have htl : (m.take 65535).length = 65535 := by simp; omega
    have hx1 : Rd w w.heap.size (.slice A 65535 c) (m.take 65535) := by
      obtain ⟨b, o, rfl, hb, hcell⟩ := hp (by omega)
      refine ⟨_, c, by rw [htl], by omega, hcm, fun _ => ⟨b, o, rfl, hb, fun j hj => ?_⟩⟩
      rw [hcell j (by omega)]
      simp
    have h1 : ¬ (m.length : Int) ≤ 65535 := by omega
    have h2 : (65535 : Int) ≤ (m.length : Int) := by omega
    have h3 : (65535 : Int) ≤ (c : Int) := by omega
    unfold maxLen at hcm
    rw [htl, show be 65535 4 = [0, 0, 255, 255] from rfl]
    have hmin : min (m.length : Int) 65535 = 65535 := by omega
    have hmin2 : min m.length 65535 = 65535 := by omega
    generalize m.take 65535 = t at *
    have HT := Lib.hid htl
    clear htl hp hx0
    have hbe : Below w.heap.size w (w.alloc (.cells #[] 5)) := (Below.refl _ _).alloc (Nat.le_refl _) _
    go_enter Tryd.func29, Tryd.ntmps29
    go_wp2_with (at_builtin; first
      | (refine wpList_append_rd rfl (.tmp 7) (.tmp 8) _ rfl i0 Tryd.underlying29 hi hz hsz hby rfl (own_empty w (Nat.le_refl _)) rfl (hr.below hbe) (by simp; omega) hbe.size ?_; intro v1 w1 ho1 hg1 _
         have hb1 : Below w.heap.size w w1 := Own.below_grown hbe (own_empty w (Nat.le_refl _)) (Nat.le_refl _) hbe.size hg1
         clear hg1 hbe)
      | (refine wpList_append_rd rfl (.tmp 13) (.tmp 14) _ rfl i0 Tryd.underlying29 hi hz hsz hby rfl (ho1.alloc _) rfl (rd_lit w1 _ [0] 1 rfl (by simp [bcells, bval] <;> omega) (by simp [maxLen])) (by simp; omega) (by have := hb1.size; simp; omega) ?_; intro v2 w2 ho2 hg2 _
         have hb2 : Below w.heap.size w w2 := Own.below_grown (hb1.alloc hb1.size _) (ho1.alloc _) (Nat.le_refl _) (by have := hb1.size; simp; omega) hg2
         clear hg2 ho1 hb1)
      | (refine wpList_append_rd rfl (.tmp 16) (.tmp 17) _ rfl i0 Tryd.underlying29 hi hz hsz hby rfl (ho2.alloc _) rfl (rd_lit w2 _ [0] 1 rfl (by simp [bcells, bval] <;> omega) (by simp [maxLen])) (by simp; omega) (by have := hb2.size; simp; omega) ?_; intro v3 w3 ho3 hg3 _
         have hb3 : Below w.heap.size w w3 := Own.below_grown (hb2.alloc hb2.size _) (ho2.alloc _) (Nat.le_refl _) (by have := hb2.size; simp; omega) hg3
         clear hg3 ho2 hb2)
      | (refine wpList_append_rd rfl (.tmp 19) (.tmp 23) _ rfl i0 Tryd.underlying29 hi hz hsz hby rfl (ho3.alloc _) rfl (rd_lit w3 _ [255] 1 rfl (by simp [bcells, bval] <;> omega) (by simp [maxLen])) (by simp; omega) (by have := hb3.size; simp; omega) ?_; intro v4 w4 ho4 hg4 _
         have hb4 : Below w.heap.size w w4 := Own.below_grown (hb3.alloc hb3.size _) (ho3.alloc _) (Nat.le_refl _) (by have := hb3.size; simp; omega) hg4
         clear hg4 ho3 hb3)
      | (refine wpList_append_rd rfl (.tmp 25) (.tmp 29) _ rfl i0 Tryd.underlying29 hi hz hsz hby rfl (ho4.alloc _) rfl (rd_lit w4 _ [255] 1 rfl (by simp [bcells, bval] <;> omega) (by simp [maxLen])) (by simp; omega) (by have := hb4.size; simp; omega) ?_; intro v5 w5 ho5 hg5 _
         have hb5 : Below w.heap.size w w5 := Own.below_grown (hb4.alloc hb4.size _) (ho4.alloc _) (Nat.le_refl _) (by have := hb4.size; simp; omega) hg5
         clear hg5 ho4 hb4)
      | (refine wpList_append_rd rfl (.tmp 31) (.tmp 34) _ rfl i0 Tryd.underlying29 hi hz hsz hby rfl ho5 rfl (hx1.below hb5) (by have := HT.out; simp; omega) hb5.size ?_; intro v6 w6 ho6 hg6 _
         have hb6 : Below w.heap.size w w6 := Own.below_grown hb5 ho5 (Nat.le_refl _) hb5.size hg6
         clear hg6 ho5 hb5))
    go_ret
    exact ⟨_, rfl, by simpa using ho6, hb6⟩
end Go.Proofs.YtohnhdandkkonaaDoor
