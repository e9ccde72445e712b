
/- The walks: the document's reader. The walks: the document's reader, its bytes, texts, flags, counts. The walks: the document's reader, its counts, what is left, its faults; a new one. The walks of the document's puts: a number. The walks of the document's put of bytes. The walk of the document's put of a text. -/
import Derived.Test.YtpcoonnfaoakhaaWireR0
import Derived.Test.YtpcoonnfaoakhaaInfo1
import Derived.Test.YtpcoonnfaoakhaaBase0
import Derived.Laws.IdiomStrings
namespace Go.Proofs.Ytpcoonnfaoakhaa
set_option maxRecDepth 100000
open Go.RowKit

variable {w : World} {lo g : Nat} {rest : List UInt8} {fault : Int}

/-- what a take that goes leaves -/
def TakeOk (w : World) (lo g : Nat) (rest : List UInt8) (n : Nat) (e : Ending) (w' : World) : Prop :=
  ∃ A c sv', e = .returned (.tuple #[.slice A n c, .bool true]) ∧ w.setCell ⟨g, 0, none⟩ sv' = w' ∧ Rd w g (.slice A n c) (rest.take n) ∧ Rd w g sv' (rest.drop n) ∧ (∀ k, sv'.ownBlock = some k → lo ≤ k)

/-! ### the document's N, B, F, Count -/
end Go.Proofs.Ytpcoonnfaoakhaa
namespace Go.Proofs.Ytpcoonnfaoakhaa
set_option maxRecDepth 100000
open Go.RowKit

variable {w : World} {lo g : Nat} {rest : List UInt8} {fault : Int}

theorem hsize_set (w : World) (a : Addr) (u : Value) : (w.setCell a u).heap.size = w.heap.size := by simp [World.setCell]

end Go.Proofs.Ytpcoonnfaoakhaa
namespace Go.Proofs.Ytpcoonnfaoakhaa
set_option maxRecDepth 100000
open Go.RowKit

variable {w : World} {lo g : Nat} {rest : List UInt8} {fault : Int}

theorem Rd.grown {w w' : World} {g : Nat} {v : Value} {l : List UInt8} (h : Rd w g v l) (hg : w.grownBy w' (some g)) (hlt : g ≤ w.heap.size) : Rd w' g v l :=
  h.keep fun p hp => World.cell?_of_block (hg.block p.block (by omega) (by intro e; injection e with e; omega))

end Go.Proofs.Ytpcoonnfaoakhaa
namespace Go.Proofs.Ytpcoonnfaoakhaa
set_option maxRecDepth 100000
open Go.RowKit

set_option maxHeartbeats 400000 in
theorem refN_any (v : Value) (l : List UInt8) (n : Nat) (w : World) (hr : Rd w w.heap.size v l) (hn : n < 18446744073709551616) (hl : l.length ≤ 140737488355320) :
    Calls Try.prog 64 #[v, .int .u64 (n : Int)] w fun e w' => ∃ v', e = .returned v' ∧ Own w' w.heap.size v' (l ++ be n 8) ∧ Below w.heap.size w w' := by
  obtain ⟨i0, hi, hz, hsz, hby⟩ := info_parts Try.infoByte
  go_enter Try.func64, Try.ntmps64
  have hbe : Below w.heap.size w (w.alloc (.cells #[] 5)) := (Below.refl _ _).alloc (Nat.le_refl _) _
  go_wp2_with (at_builtin; refine wpList_append_rd rfl (.tmp 7) (.tmp 8) _ rfl i0 Try.underlying24 hi hz hsz hby rfl (own_empty w (Nat.le_refl _)) rfl (hr.below hbe) (by simp; omega) hbe.size ?_; intro v1 w1 ho1 hg1 _)
  have hb1 : Below w.heap.size w w1 := Own.below_grown hbe (own_empty w (Nat.le_refl _)) (Nat.le_refl _) hbe.size hg1
  clear hg1 hbe
  go_loopw [5, 6] (fun b i wr => ∃ (r : Nat) (dn : List UInt8), dn.length + r = 8 ∧ i = .int .i64 ((r : Int) - 1) ∧ dn ++ be n r = be n 8 ∧ Own wr w.heap.size b (l ++ dn) ∧ Below w.heap.size w wr)
    (fun _ i _ => (intOf i + 1).toNat)
  case atStart => exact ⟨8, [], rfl, rfl, rfl, by simpa using ho1, hb1⟩
  case round =>
    obtain ⟨r, dn, hdn, rfl, hbe, ho, hbw⟩ := hrel
    have HD := Lib.hid hdn
    have HB := Lib.hid hbe
    have hr8 : r ≤ 8 := by omega
    clear hdn hbe
    by_cases h0 : r = 0
    · subst h0
      go_wp2
      go_ret
      refine ⟨_, rfl, ?_, hbw⟩
      have := HB.out
      rw [show be n 0 = [] from rfl, List.append_nil] at this
      rw [← this]
      exact ho
    · obtain ⟨q, rfl⟩ : ∃ q, r = q + 1 := ⟨r - 1, by omega⟩
      have hdl : dn.length ≤ 7 := by have := HD.out; omega
      go_wp2_with (at_builtin; refine wpList_append_rd rfl (.tmp 14) (.tmp 21) _ rfl i0 Try.underlying24 hi hz hsz hby rfl (ho.alloc _) rfl (rd_lit wr _ [UInt8.ofNat (n / 2 ^ (8 * q))] 1 rfl (by simp [bcells, bval]) (by simp [maxLen])) (by simp; omega) (by have := hbw.size; simp; omega) ?_; intro v1 w1 ho1 hg1 _)
      have hb1 : Below w.heap.size w w1 := Own.below_grown (hbw.alloc (by have := hbw.size; omega) _) (ho.alloc _) (Nat.le_refl _) (by have := hbw.size; simp; omega) hg1
      clear hg1 ho hbw
      go_roundw
      case rel => exact ⟨q, dn ++ [UInt8.ofNat (n / 2 ^ (8 * q))], by have := HD.out; simp; omega, by go_num, by have := HB.out; rw [← this, List.append_assoc]; rfl, by rw [← List.append_assoc]; exact ho1, hb1⟩
      case measure => first | (simp [intOf]; done) | (simp [intOf]; omega)


end Go.Proofs.Ytpcoonnfaoakhaa
namespace Go.Proofs.Ytpcoonnfaoakhaa
set_option maxRecDepth 100000
open Go.RowKit

theorem be4 (n : Nat) (h : n ≤ 65535) : be n 4 = [0, 0, UInt8.ofNat (n / 256), UInt8.ofNat (n % 256)] := by
  have e : be n 4 = [UInt8.ofNat (n / 2 ^ (8 * 3)), UInt8.ofNat (n / 2 ^ (8 * 2)), UInt8.ofNat (n / 2 ^ (8 * 1)), UInt8.ofNat (n / 2 ^ (8 * 0))] := rfl
  rw [e, show n / 2 ^ (8 * 3) = 0 by omega, show n / 2 ^ (8 * 2) = 0 by omega, show n / 2 ^ (8 * 1) = n / 256 by omega, show n / 2 ^ (8 * 0) = n by omega]
  rw [show UInt8.ofNat (n % 256) = UInt8.ofNat n from by apply UInt8.toNat_inj.1; simp]
  rfl

set_option maxHeartbeats 1000000 in
theorem refB_any (v x : Value) (l m : List UInt8) (w : World) (hr : Rd w w.heap.size v l) (hx : Rd w w.heap.size x m) (hl : l.length ≤ 140737488355328 - 65539) :
    Calls Try.prog 66 #[v, x] w fun e w' => ∃ v', e = .returned v' ∧ Own w' w.heap.size v' (l ++ be (m.take 65535).length 4 ++ m.take 65535) ∧ Below w.heap.size w w' := by
  obtain ⟨i0, hi, hz, hsz, hby⟩ := info_parts Try.infoByte
  have hml := hx.len
  unfold maxLen at hml
  obtain ⟨Al, cl, rfl⟩ := hr.form
  by_cases h0 : m.length ≤ 65535
  · have ht : m.take 65535 = m := List.take_of_length_le h0
    rw [ht, be4 m.length h0]
    have hx0 := hx
    obtain ⟨A, c, rfl, hc, hcm, hp⟩ := hx
    unfold maxLen at hcm
    have hmin : min (m.length : Int) 65535 = (m.length : Int) := by omega
    have hmin2 : min m.length 65535 = m.length := by omega
    have hmc : (m.length : Int) ≤ (c : Int) := by omega
    have q1 : (0 : Int) ≤ (m.length : Int) := by omega
    have q2 : (m.length : Int) ≤ 65535 := by omega
    clear ht hp
    have hbe : Below w.heap.size w (w.alloc (.cells #[] 5)) := (Below.refl _ _).alloc (Nat.le_refl _) _
    go_enter Try.func66, Try.ntmps66
    go_wp2_with (at_builtin; first
      | (refine wpList_append_rd rfl (.tmp 7) (.tmp 8) _ rfl i0 Try.underlying24 hi hz hsz hby rfl (own_empty w (Nat.le_refl _)) rfl (hr.below hbe) (by simp; omega) hbe.size ?_; intro v1 w1 ho1 hg1 _
         have hb1 : Below w.heap.size w w1 := Own.below_grown hbe (own_empty w (Nat.le_refl _)) (Nat.le_refl _) hbe.size hg1
         clear hg1 hbe)
      | (refine wpList_append_rd rfl (.tmp 13) (.tmp 14) _ rfl i0 Try.underlying24 hi hz hsz hby rfl (ho1.alloc _) rfl (rd_lit w1 _ [0] 1 rfl (by simp [bcells, bval] <;> omega) (by simp [maxLen])) (by simp; omega) (by have := hb1.size; simp; omega) ?_; intro v2 w2 ho2 hg2 _
         have hb2 : Below w.heap.size w w2 := Own.below_grown (hb1.alloc hb1.size _) (ho1.alloc _) (Nat.le_refl _) (by have := hb1.size; simp; omega) hg2
         clear hg2 ho1 hb1)
      | (refine wpList_append_rd rfl (.tmp 16) (.tmp 17) _ rfl i0 Try.underlying24 hi hz hsz hby rfl (ho2.alloc _) rfl (rd_lit w2 _ [0] 1 rfl (by simp [bcells, bval] <;> omega) (by simp [maxLen])) (by simp; omega) (by have := hb2.size; simp; omega) ?_; intro v3 w3 ho3 hg3 _
         have hb3 : Below w.heap.size w w3 := Own.below_grown (hb2.alloc hb2.size _) (ho2.alloc _) (Nat.le_refl _) (by have := hb2.size; simp; omega) hg3
         clear hg3 ho2 hb2)
      | (refine wpList_append_rd rfl (.tmp 19) (.tmp 23) _ rfl i0 Try.underlying24 hi hz hsz hby rfl (ho3.alloc _) rfl (rd_lit w3 _ [UInt8.ofNat (m.length / 256)] 1 rfl (by simp [bcells, bval] <;> omega) (by simp [maxLen])) (by simp; omega) (by have := hb3.size; simp; omega) ?_; intro v4 w4 ho4 hg4 _
         have hb4 : Below w.heap.size w w4 := Own.below_grown (hb3.alloc hb3.size _) (ho3.alloc _) (Nat.le_refl _) (by have := hb3.size; simp; omega) hg4
         clear hg4 ho3 hb3)
      | (refine wpList_append_rd rfl (.tmp 25) (.tmp 29) _ rfl i0 Try.underlying24 hi hz hsz hby rfl (ho4.alloc _) rfl (rd_lit w4 _ [UInt8.ofNat (m.length % 256)] 1 rfl (by simp [bcells, bval] <;> omega) (by simp [maxLen])) (by simp; omega) (by have := hb4.size; simp; omega) ?_; intro v5 w5 ho5 hg5 _
         have hb5 : Below w.heap.size w w5 := Own.below_grown (hb4.alloc hb4.size _) (ho4.alloc _) (Nat.le_refl _) (by have := hb4.size; simp; omega) hg5
         clear hg5 ho4 hb4)
      | (refine wpList_append_rd rfl (.tmp 31) (.tmp 34) _ rfl i0 Try.underlying24 hi hz hsz hby rfl ho5 rfl (hx0.below hb5) (by  simp; omega) hb5.size ?_; intro v6 w6 ho6 hg6 _
         have hb6 : Below w.heap.size w w6 := Own.below_grown hb5 ho5 (Nat.le_refl _) hb5.size hg6
         clear hg6 ho5 hb5))
    go_ret
    exact ⟨_, rfl, by simpa using ho6, hb6⟩
  · have hx0 := hx
    obtain ⟨A, c, rfl, hc, hcm, hp⟩ := hx
    have htl : (m.take 65535).length = 65535 := by simp; omega
    have hx1 : Rd w w.heap.size (.slice A 65535 c) (m.take 65535) := by
      obtain ⟨b, o, rfl, hb, hcell⟩ := hp (by omega)
      refine ⟨_, c, by rw [htl], by omega, hcm, fun _ => ⟨b, o, rfl, hb, fun j hj => ?_⟩⟩
      rw [hcell j (by omega)]
      simp
    have h1 : ¬ (m.length : Int) ≤ 65535 := by omega
    have h2 : (65535 : Int) ≤ (m.length : Int) := by omega
    have h3 : (65535 : Int) ≤ (c : Int) := by omega
    unfold maxLen at hcm
    rw [htl, show be 65535 4 = [0, 0, 255, 255] from rfl]
    have hmin : min (m.length : Int) 65535 = 65535 := by omega
    have hmin2 : min m.length 65535 = 65535 := by omega
    generalize m.take 65535 = t at *
    have HT := Lib.hid htl
    clear htl hp hx0
    have hbe : Below w.heap.size w (w.alloc (.cells #[] 5)) := (Below.refl _ _).alloc (Nat.le_refl _) _
    go_enter Try.func66, Try.ntmps66
    go_wp2_with (at_builtin; first
      | (refine wpList_append_rd rfl (.tmp 7) (.tmp 8) _ rfl i0 Try.underlying24 hi hz hsz hby rfl (own_empty w (Nat.le_refl _)) rfl (hr.below hbe) (by simp; omega) hbe.size ?_; intro v1 w1 ho1 hg1 _
         have hb1 : Below w.heap.size w w1 := Own.below_grown hbe (own_empty w (Nat.le_refl _)) (Nat.le_refl _) hbe.size hg1
         clear hg1 hbe)
      | (refine wpList_append_rd rfl (.tmp 13) (.tmp 14) _ rfl i0 Try.underlying24 hi hz hsz hby rfl (ho1.alloc _) rfl (rd_lit w1 _ [0] 1 rfl (by simp [bcells, bval] <;> omega) (by simp [maxLen])) (by simp; omega) (by have := hb1.size; simp; omega) ?_; intro v2 w2 ho2 hg2 _
         have hb2 : Below w.heap.size w w2 := Own.below_grown (hb1.alloc hb1.size _) (ho1.alloc _) (Nat.le_refl _) (by have := hb1.size; simp; omega) hg2
         clear hg2 ho1 hb1)
      | (refine wpList_append_rd rfl (.tmp 16) (.tmp 17) _ rfl i0 Try.underlying24 hi hz hsz hby rfl (ho2.alloc _) rfl (rd_lit w2 _ [0] 1 rfl (by simp [bcells, bval] <;> omega) (by simp [maxLen])) (by simp; omega) (by have := hb2.size; simp; omega) ?_; intro v3 w3 ho3 hg3 _
         have hb3 : Below w.heap.size w w3 := Own.below_grown (hb2.alloc hb2.size _) (ho2.alloc _) (Nat.le_refl _) (by have := hb2.size; simp; omega) hg3
         clear hg3 ho2 hb2)
      | (refine wpList_append_rd rfl (.tmp 19) (.tmp 23) _ rfl i0 Try.underlying24 hi hz hsz hby rfl (ho3.alloc _) rfl (rd_lit w3 _ [255] 1 rfl (by simp [bcells, bval] <;> omega) (by simp [maxLen])) (by simp; omega) (by have := hb3.size; simp; omega) ?_; intro v4 w4 ho4 hg4 _
         have hb4 : Below w.heap.size w w4 := Own.below_grown (hb3.alloc hb3.size _) (ho3.alloc _) (Nat.le_refl _) (by have := hb3.size; simp; omega) hg4
         clear hg4 ho3 hb3)
      | (refine wpList_append_rd rfl (.tmp 25) (.tmp 29) _ rfl i0 Try.underlying24 hi hz hsz hby rfl (ho4.alloc _) rfl (rd_lit w4 _ [255] 1 rfl (by simp [bcells, bval] <;> omega) (by simp [maxLen])) (by simp; omega) (by have := hb4.size; simp; omega) ?_; intro v5 w5 ho5 hg5 _
         have hb5 : Below w.heap.size w w5 := Own.below_grown (hb4.alloc hb4.size _) (ho4.alloc _) (Nat.le_refl _) (by have := hb4.size; simp; omega) hg5
         clear hg5 ho4 hb4)
      | (refine wpList_append_rd rfl (.tmp 31) (.tmp 34) _ rfl i0 Try.underlying24 hi hz hsz hby rfl ho5 rfl (hx1.below hb5) (by have := HT.out; simp; omega) hb5.size ?_; intro v6 w6 ho6 hg6 _
         have hb6 : Below w.heap.size w w6 := Own.below_grown hb5 ho5 (Nat.le_refl _) hb5.size hg6
         clear hg6 ho5 hb5))
    go_ret
    exact ⟨_, rfl, by simpa using ho6, hb6⟩
end Go.Proofs.Ytpcoonnfaoakhaa
namespace Go.Proofs.Ytpcoonnfaoakhaa
set_option maxRecDepth 100000
open Go.RowKit

set_option maxHeartbeats 400000 in
theorem refT_any (v : Value) (s : ByteArray) (l : List UInt8) (w : World) (hr : Rd w w.heap.size v l) (hsm : s.size ≤ maxLen) (hl : l.length ≤ 140737488355328 - 65539) :
    Calls Try.prog 65 #[v, .string s] w fun e w' => ∃ v', e = .returned v' ∧ Own w' w.heap.size v' (l ++ be ((strBytes s).take 65535).length 4 ++ (strBytes s).take 65535) ∧ Below w.heap.size w w' := by
  have hcv := run_bytes_of_string (P := Try.prog) w 9 24 5 s Try.underlying9 Try.underlying24 Try.underlying5
  have hge := grownCap_ge w s.size 0 5
  have hlm := grownCap_le_maxLen w s.size 0 5 hsm
  generalize grownCap w s.size 0 5 = cap at *
  have hb0 : Below w.heap.size w (w.drew.alloc (.cells (bytesRow s cap) 5 ((bytesRow s cap).size, (bytesRow s cap).size + 1))) := ((Below.refl _ _).drew).alloc (Nat.le_refl _) _
  have hx : Rd (w.drew.alloc (.cells (bytesRow s cap) 5 ((bytesRow s cap).size, (bytesRow s cap).size + 1))) (w.drew.alloc (.cells (bytesRow s cap) 5 ((bytesRow s cap).size, (bytesRow s cap).size + 1))).heap.size (.slice (some ⟨w.heap.size, 0, none⟩) s.size cap) (strBytes s) := by
    refine ⟨_, cap, by rw [strBytes_length], by rw [strBytes_length]; exact hge, hlm, fun _ => ⟨w.heap.size, 0, rfl, by simp, fun j hj => ?_⟩⟩
    rw [strBytes_length] at hj
    rw [show 0 + j = j by omega]
    have h1 := cell_of_row (w.drew.alloc (.cells (bytesRow s cap) 5 ((bytesRow s cap).size, (bytesRow s cap).size + 1))) w.heap.size j (bytesRow s cap) _ _ (heap_alloc_new w.drew _)
    rw [h1, bytesRow_at s cap j hj]
    rfl
  generalize hw2 : w.drew.alloc (.cells (bytesRow s cap) 5 ((bytesRow s cap).size, (bytesRow s cap).size + 1)) = w2 at *
  have HX := Lib.hid hx
  clear hx hw2 hge hlm
  go_enter Try.func65, Try.ntmps65
  go_wp2_with fail
  refine (refB_any v _ l (strBytes s) w2 (hr.up (Nat.le_refl _) hb0) HX.out hl).mono ?_
  rintro e w3 ⟨v3, rfl, ho3, hb3⟩
  go_wp2_with fail
  go_ret
  exact ⟨_, rfl, ho3.more hb0.size, below_chain hb0 hb0.size hb3⟩
end Go.Proofs.Ytpcoonnfaoakhaa
