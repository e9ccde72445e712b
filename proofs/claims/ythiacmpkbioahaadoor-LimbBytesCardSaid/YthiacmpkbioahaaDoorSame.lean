/- The walk of the laws' own comparison of bytes. -/
import Derived.Test.YthiacmpkbioahaaDoorInfo
namespace Go.Proofs.YthiacmpkbioahaaDoor
open Go.RowKit

/-- are the two the same bytes? -/
def sameB (l m : List UInt8) : Bool := decide (l = m)
theorem sameB_refl (l : List UInt8) : sameB l l = true := by simp [sameB]
theorem sameB_yes {l m : List UInt8} (h : l = m) : sameB l m = true := by simp [sameB, h]
theorem sameB_no {l m : List UInt8} (h : l ≠ m) : sameB l m = false := by simp [sameB, h]

theorem bval_ne {x y : UInt8} : ((x.toNat : Int) = (y.toNat : Int)) ↔ x = y := by
  constructor
  · intro h
    exact UInt8.toNat_inj.1 (by omega)
  · rintro rfl; rfl

set_option maxHeartbeats 400000 in
theorem same_any (a b : Value) (l m : List UInt8) (w : World) (ha : Rd w w.heap.size a l) (hb : Rd w w.heap.size b m) :
    Calls Tryd.prog 31 #[a, b] w fun e w' => e = .returned (.bool (sameB l m)) ∧ Below w.heap.size w w' := by
  obtain ⟨A, c, rfl, hc, hcm, hp⟩ := ha
  obtain ⟨A', c', rfl, hc', hcm', hp'⟩ := hb
  unfold maxLen at hcm hcm'
  by_cases hl : l.length = m.length
  · have hne : ((l.length : Int) != (m.length : Int)) = false := by simp [hl]
    have HL := Lib.hid hl
    have hlm : l.length ≤ m.length := by omega
    clear hl
    go_enter Tryd.func31, Tryd.ntmps31
    go_wp2
    go_loopw [13] (fun i wr => ∃ k : Nat, k ≤ l.length ∧ i = .int .i64 (k : Int) ∧ l.take k = m.take k ∧ Below w.heap.size w wr)
      (fun i _ => l.length - (intOf i).toNat)
    case atStart => exact ⟨0, Nat.zero_le _, rfl, by simp, Below.refl _ _⟩
    case round =>
      obtain ⟨k, hk, rfl, htk, hbw⟩ := hrel
      have HT := Lib.hid htk
      clear htk
      by_cases hlt : k < l.length
      · obtain ⟨b, o, rfl, hb, hcell⟩ := hp (by omega)
        obtain ⟨b', o', rfl, hb', hcell'⟩ := hp' (by omega)
        have c1 : wr.cell? ⟨b, o + k, none⟩ = some (.int .u8 (l[k].toNat : Int)) := (hbw.cell (p := ⟨b, o + k, none⟩) hb).trans (hcell k hlt)
        have c2 : wr.cell? ⟨b', o' + k, none⟩ = some (.int .u8 (m[k].toNat : Int)) := (hbw.cell (p := ⟨b', o' + k, none⟩) hb').trans (hcell' k (by omega))
        have i1 : (0 : Int) ≤ (k : Int) := by omega
        have i2 : (k : Int) < (l.length : Int) := by omega
        have i3 : (k : Int) < (m.length : Int) := by omega
        by_cases heq : l[k] = m[k]
        · have hne2 : ((l[k].toNat : Int) != (m[k].toNat : Int)) = false := by simp [heq]
          go_wp2
          go_quiet (fail)
          go_wp2
          go_roundw
          case rel =>
            refine ⟨k + 1, by omega, by go_num, ?_, below_drewN' hbw _⟩
            have h2 := HT.out
            rw [List.take_succ_eq_append_getElem hlt, List.take_succ_eq_append_getElem (by omega), h2, heq]
          case measure => simp [intOf]; omega
        · have hne2 : ((l[k].toNat : Int) != (m[k].toNat : Int)) = true := by
            rw [bne_iff_ne]; intro h; exact heq (bval_ne.1 h)
          go_wp2
          go_quiet (fail)
          go_wp2
          go_ret
          have hs : sameB l m = false := sameB_no (by intro h; subst h; exact heq rfl)
          exact ⟨by rw [hs]; rfl, below_drewN' hbw _⟩
      · go_wp2
        go_ret
        have h1 := HT.out
        have h2 := HL.out
        rw [List.take_of_length_le (by omega), List.take_of_length_le (by omega)] at h1
        exact ⟨by rw [sameB_yes h1]; rfl, hbw⟩
  · have hne : ((l.length : Int) != (m.length : Int)) = true := by rw [bne_iff_ne]; omega
    go_enter Tryd.func31, Tryd.ntmps31
    go_wp2
    go_ret
    have hs : sameB l m = false := sameB_no (by intro h; subst h; exact hl rfl)
    exact ⟨by rw [hs]; rfl, Below.refl _ _⟩
end Go.Proofs.YthiacmpkbioahaaDoor
