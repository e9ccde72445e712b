
/- isthmusref09.Same, walked: two rows of pairs, pair by pair. -/
import Derived.Test.YtaafaaoioleokaaGreatDoorPrX
import Derived.Deep.RegionHeldLaw
import Derived.Lib.Strings
import Derived.Lib.Slices
namespace Go.Proofs.YtaafaaoioleokaaGreatDoor
set_option maxRecDepth 100000
open Go Go.RowKit
set_option linter.unusedVariables false

theorem bytes_inj {l m : List UInt8} (h : (⟨l.toArray⟩ : ByteArray) = ⟨m.toArray⟩) : l = m := by
  injection h with h
  simpa using h
theorem beq_toList_ne {s t : ByteArray} (h : ¬ s = t) : (s.toList == t.toList) = false := by
  rw [Lib.toList_data, Lib.toList_data]
  refine beq_eq_false_iff_ne.2 fun e => h ?_
  cases s with | mk a => cases t with | mk b =>
  have : a = b := by simpa using e
  rw [this]
set_option maxHeartbeats 8000000 in
theorem samePs_any (w : World) (a b : Value) (L M : List Pr) (ha : RdP w w.heap.size a L) (hb : RdP w w.heap.size b M) :
    Calls Tryz.prog 18 #[a, b] w fun e w' => e = .returned (.bool (decide (L = M))) ∧ Below w.heap.size w w' := by
  obtain ⟨A, c, rfl, hc, hcm, hp⟩ := ha
  obtain ⟨A', c', rfl, hc', hcm', hp'⟩ := hb
  unfold maxLen at hcm hcm'
  obtain ⟨n, hn⟩ : ∃ n, n = L.length := ⟨_, rfl⟩
  obtain ⟨q, hq⟩ : ∃ q, q = M.length := ⟨_, rfl⟩
  rw [← hn] at hc ⊢
  rw [← hq] at hc' ⊢
  have HN := Lib.hid hn
  have HQ := Lib.hid hq
  have HP := Lib.hid hp
  have HP' := Lib.hid hp'
  clear hn hq hp hp'
  by_cases hl : n = q
  · subst hl
    have hne : ((n : Int) != (n : Int)) = false := by simp
    obtain ⟨R, hR⟩ : ∃ R : Bool, R = decide (L = M) := ⟨_, rfl⟩
    have HR := Lib.hid hR
    rw [← hR]
    clear hR
    go_enter Tryz.func18, Tryz.ntmps18
    go_wp2_with fail
    go_loopw [13] (fun i W => ∃ k : Nat, k ≤ n ∧ i = .int .i64 (k : Int) ∧ Below w.heap.size w W ∧ Hid (L.take k = M.take k))
      (fun i _ => n - (intOf i).toNat)
    case atStart => exact ⟨0, Nat.zero_le _, rfl, Below.refl _ _, Lib.hid (by simp)⟩
    case round =>
      rename World => W
      obtain ⟨k, hkn, rfl, hbW, HT⟩ := hrel
      by_cases hlt : k < n
      · have hkL : k < L.length := by have := HN.out; omega
        have hkM : k < M.length := by have := HQ.out; omega
        obtain ⟨b, o, rfl, hbl, hcell⟩ := HP.out (by omega)
        obtain ⟨b', o', rfl, hbl', hcell'⟩ := HP'.out (by omega)
        obtain ⟨q1, x, q2, q3⟩ := hcell k hkL
        obtain ⟨r1, y, r2, r3⟩ := hcell' k hkM
        have a1 := (hbW.cell (p := ⟨b, o + k * 2, none⟩) hbl).trans q1
        have a2 := (hbW.cell (p := ⟨b, o + k * 2 + 1, none⟩) hbl).trans q2
        have a3 := (hbW.cell (p := ⟨b', o' + k * 2, none⟩) hbl').trans r1
        have a4 := (hbW.cell (p := ⟨b', o' + k * 2 + 1, none⟩) hbl').trans r2
        have cx := fun nq => run_str (P := Tryz.prog) (w := W.drewN nq) (B := W.heap.size) (src := 37) (dst := 9) Tryz.underlying37 Tryz.underlying5 Tryz.isString ((q3.below hbW).more hbW.size)
        have cy := fun nq => run_str (P := Tryz.prog) (w := W.drewN nq) (B := W.heap.size) (src := 37) (dst := 9) Tryz.underlying37 Tryz.underlying5 Tryz.isString ((r3.below hbW).more hbW.size)
        obtain ⟨Ax, kx, rfl⟩ := q3.form
        obtain ⟨Ay, ky, rfl⟩ := r3.form
        have HLk : Hid (L[k] = (L[k].1, L[k].2)) := Lib.hid rfl
        have HMk : Hid (M[k] = (M[k].1, M[k].2)) := Lib.hid rfl
        have hstep : L[k] = M[k] → L.take (k + 1) = M.take (k + 1) := fun e => by
          rw [← List.take_append_getElem hkL, ← List.take_append_getElem hkM, HT.out, e]
        have HST := Lib.hid hstep
        have hno : ¬ L[k] = M[k] → R = false := fun e => by
          rw [HR.out]
          refine decide_eq_false fun h => e ?_
          subst h; rfl
        have HNO := Lib.hid hno
        have i1 : (0 : Int) ≤ (k : Int) := by omega
        have i2 : (k : Int) < (n : Int) := by omega
        clear hcell hcell' q1 q2 q3 r1 r2 r3 hstep hno
        generalize L[k] = u at *
        generalize M[k] = v at *
        obtain ⟨s, l⟩ := u
        obtain ⟨t, m⟩ := v
        dsimp only at a1 a2 a3 a4 cx cy
        obtain ⟨SX, hSX⟩ : ∃ SX : ByteArray, SX = ⟨l.toArray⟩ := ⟨_, rfl⟩
        obtain ⟨SY, hSY⟩ : ∃ SY : ByteArray, SY = ⟨m.toArray⟩ := ⟨_, rfl⟩
        simp only [← hSX] at cx
        simp only [← hSY] at cy
        generalize l.length = ll at *
        generalize m.length = ml at *
        have HSX := Lib.hid hSX
        have HSY := Lib.hid hSY
        clear hSX hSY
        by_cases hk : s = t
        · subst hk
          by_cases hv : SX = SY
          · subst hv
            have he : l = m := bytes_inj (HSX.out.symm.trans HSY.out)
            subst he
            have HT2 := Lib.hid (HST.out rfl)
            clear HST HNO HLk HMk
            go_wp2_with fail
            go_quiet (fail)
            go_wp2_with fail
            exact ⟨⟨k + 1, by omega, by go_num, below_drewN' hbW _, HT2⟩, by simp [intOf]; omega⟩
          · have HRf : Hid (R = false) := Lib.hid (HNO.out fun e => hv (by
              injection e with _ e
              rw [HSX.out, HSY.out, e]))
            have hv1 : (SX.toList == SY.toList) = false := beq_toList_ne hv
            have hv2 : (SX.toList != SY.toList) = true := by unfold bne; rw [hv1]; rfl
            clear HST HNO HLk HMk
            go_wp2_with fail
            go_quiet (fail)
            go_wp2_with fail
            go_ret
            exact ⟨by rw [HRf.out]; rfl, below_drewN' hbW _⟩
        · have HRf : Hid (R = false) := Lib.hid (HNO.out fun e => hk (by injection e))
          have hk1 : (s.toList == t.toList) = false := beq_toList_ne hk
          have hk2 : (s.toList != t.toList) = true := by unfold bne; rw [hk1]; rfl
          clear HST HNO HLk HMk
          go_wp2_with fail
          go_quiet (fail)
          go_wp2_with fail
          go_ret
          exact ⟨by rw [HRf.out]; rfl, below_drewN' hbW _⟩
      · have i2 : ¬ (k : Int) < (n : Int) := by omega
        obtain rfl : k = n := by omega
        have HRt : Hid (R = true) := Lib.hid (by
          have h1 := HT.out
          rw [List.take_of_length_le (by have := HN.out; omega), List.take_of_length_le (by have := HQ.out; omega)] at h1
          rw [HR.out, h1]; simp)
        go_wp2_with fail
        go_ret
        exact ⟨by rw [HRt.out]; rfl, hbW⟩
  · have hne : ((n : Int) != (q : Int)) = true := by simp; omega
    have HRf : Hid (decide (L = M) = false) := Lib.hid (decide_eq_false fun h => hl (by rw [HN.out, HQ.out, h]))
    rw [HRf.out]
    go_enter Tryz.func18, Tryz.ntmps18
    go_wp2_with fail
    go_ret
    exact ⟨rfl, Below.refl _ _⟩
end Go.Proofs.YtaafaaoioleokaaGreatDoor
