/- The walk of the document's filled-up message. -/
import Derived.Test.YtgomhojaappbnaaDoorShaP
import Derived.LoopTactic
namespace Go.Proofs.YtgomhojaappbnaaDoor
open Go.RowKit

theorem set_tail {α : Type} (A B : List α) (k : Nat) (x : α) : (A ++ B).set (A.length + k) x = A ++ B.set k x := by
  rw [List.set_append_right _ _ (by omega)]
  simp
def padS (M : List UInt8) (F b : Nat) : Nat → List UInt8
  | 0 => M
  | i + 1 => (padS M F b i).set (F - 1 - i) (UInt8.ofNat (b / 2 ^ (8 * i)))
theorem padS_length (M : List UInt8) (F b i : Nat) : (padS M F b i).length = M.length := by
  induction i with
  | zero => rfl
  | succ i ih => simp [padS, ih]
theorem padS_8 (M : List UInt8) (F b : Nat) (hM : M.length = F) (h8 : 8 ≤ F) : padS M F b 8 = over M (F - 8) (be b 8) := by
  obtain ⟨A, hA⟩ : ∃ A, A = M.take (F - 8) := ⟨_, rfl⟩
  obtain ⟨B, hB⟩ : ∃ B, B = M.drop (F - 8) := ⟨_, rfl⟩
  have hAl : A.length = F - 8 := by rw [hA, List.length_take]; omega
  have hBl : B.length = 8 := by rw [hB, List.length_drop]; omega
  have hMab : M = A ++ B := by rw [hA, hB, List.take_append_drop]
  have hover : over M (F - 8) (be b 8) = A ++ be b 8 := by
    unfold over
    rw [be_length, List.drop_of_length_le (by omega), List.append_nil, ← hA]
  rw [hover, hMab]
  match B, hBl with
  | [x0, x1, x2, x3, x4, x5, x6, x7], _ =>
    simp only [padS]
    rw [show F - 1 - 0 = A.length + 7 by omega, show F - 1 - 1 = A.length + 6 by omega, show F - 1 - 2 = A.length + 5 by omega, show F - 1 - 3 = A.length + 4 by omega,
      show F - 1 - 4 = A.length + 3 by omega, show F - 1 - 5 = A.length + 2 by omega, show F - 1 - 6 = A.length + 1 by omega, show F - 1 - 7 = A.length + 0 by omega]
    rw [set_tail, set_tail, set_tail, set_tail, set_tail, set_tail, set_tail, set_tail]
    rfl

set_option maxHeartbeats 1000000 in
theorem rpadded_any (v : Value) (l : List UInt8) (w : World) (hr : Rd w w.heap.size v l) (hl : l.length ≤ 140737488355000) :
    Calls Tryd.prog 48 #[v] w fun e w' => ∃ v', e = .returned v' ∧ Own w' w.heap.size v' (pad l l.length) ∧ Below w.heap.size w w' := by
  obtain ⟨i0, hi, hz, hsz, hby⟩ := info_parts Tryd.infoByte
  obtain ⟨A, c, rfl⟩ := hr.form
  have hfl := fullOf_le l.length
  have HP := Lib.hid (show pad l l.length = over ((over (List.replicate (fullOf l.length) 0) 0 l).set l.length 128) (fullOf l.length - 8) (be (8 * l.length % 18446744073709551616) 8) from rfl)
  obtain ⟨F, hF⟩ : ∃ F, F = fullOf l.length := ⟨_, rfl⟩
  have HF := Lib.hid (show F = (l.length + 72) / 64 * 64 from by rw [hF]; rfl)
  rw [← hF] at hfl HP
  clear hF
  obtain ⟨b, hb⟩ : ∃ b, b = 8 * l.length % 18446744073709551616 := ⟨_, rfl⟩
  rw [← hb] at HP
  have hb8 : (l.length : Int) * 8 = (b : Int) := by omega
  have hblt : b < 18446744073709551616 := by omega
  clear hb
  obtain ⟨hf1, hf2⟩ := hfl
  go_enter Tryd.func48, Tryd.ntmps48
  go_wp2
  go_loop [3] (fun n => ∃ k : Nat, l.length + 9 ≤ k ∧ k ≤ F ∧ n = .int .i64 (k : Int)) (fun n => F - (intOf n).toNat)
  case atStart => exact ⟨l.length + 9, Nat.le_refl _, hf1, by go_num⟩
  case round =>
    obtain ⟨k, hk1, hk2, rfl⟩ := hrel
    by_cases hm : k % 64 = 0
    · have hkF : k = F := by have := HF.out; omega
      subst hkF
      have m1 : ((k : Int) % 64 != 0) = false := by simp; omega
      have m2 : ((k : Int) % 64 == 0) = true := by simp; omega
      have HM := Lib.hid hm
      clear hm hk1 hk2
      go_wp2_with (
        first
          | (
            at_make
            refine wpList_make_zero rfl (.tmp 15) (.tmp 15) 22 rfl Tryd.underlying22 i0 hi hz hsz hby k rfl rfl (by omega) ?_
            intro hb0
            have hbw0 : Below w.heap.size w (w.alloc (.cells (bcells (List.replicate k 0)).toArray 5)) := (Below.refl _ _).alloc (Nat.le_refl _) _
            have hr0 : Rd (w.alloc (.cells (bcells (List.replicate k 0)).toArray 5)) w.heap.size _ l := hr.below hbw0
            have hsz0 : (w.alloc (.cells (bcells (List.replicate k 0)).toArray 5)).heap.size = w.heap.size + 1 := by simp
            generalize w.alloc (.cells (bcells (List.replicate k 0)).toArray 5) = w0 at *
            obtain ⟨g, hg⟩ : ∃ g, g = w.heap.size := ⟨_, rfl⟩
            rw [← hg] at hb0 hsz0 hbw0
            simp only [← hg]
            rw [← hg] at hr0
            have HG := Lib.hid hg
            clear hg hr)
          | (
            with_reducible refine at_copy ?_
            refine wpList_copy_part rfl (.tmp 17) (.tmp 18) 22 rfl Tryd.underlying22 Tryd.sizeByte rfl rfl hr0 hb0 (by omega) (by simp; omega) ?_
            intro w1 hb1 hbw1 hsz1 _
            have hbx : Below g w w1 := hbw0.trans (hbw1 g (Nat.le_refl _))
            have hlen : (over (List.replicate k 0) 0 l).length = k := by rw [over_length (by simp; omega)]; simp
            have i1 : (0 : Int) ≤ (l.length : Int) := by omega
            have i2 : (l.length : Int) < (k : Int) := by omega
            have hc := hb1.cell l.length (by omega)
            have hfz := hb1.free l.length
            have hst := hb1.set l.length 128
            clear hbw1 hb0 hr0 hbw0))
      have hbz : Below g w (w1.setCell ⟨g, l.length, none⟩ (.int .u8 128)) := hbx.setCell (Nat.le_refl _) _
      replace hst : Blk (w1.setCell ⟨g, l.length, none⟩ (.int .u8 128)) g ((over (List.replicate k 0) 0 l).set l.length 128) := hst
      have hsz2 : (w1.setCell ⟨g, l.length, none⟩ (.int .u8 128)).heap.size = w1.heap.size := by simp
      generalize w1.setCell ⟨g, l.length, none⟩ (.int .u8 128) = w2 at *
      have hlen2 : ((over (List.replicate k 0) 0 l).set l.length 128).length = k := by rw [List.length_set, hlen]
      generalize (over (List.replicate k 0) 0 l).set l.length 128 = M at *
      clear hc hfz hbx hb1 hlen
      clear hb8 HF
      go_loopw [6] (fun i wr => ∃ r : Nat, r ≤ 8 ∧ i = .int .i64 (r : Int) ∧ Blk wr g (padS M k b r) ∧ Below g w wr) (fun i _ => 8 - (intOf i).toNat)
      case atStart => exact ⟨0, Nat.zero_le _, rfl, hst, hbz⟩
      case round =>
        clear hst hbz
        obtain ⟨r, hr8, rfl, hst, hbz⟩ := hrel
        have hpl := padS_length M k b r
        by_cases hlt : r < 8
        · obtain ⟨q, hq⟩ : ∃ q, q = k - 1 - r := ⟨_, rfl⟩
          have HQ := Lib.hid (show padS M k b (r + 1) = (padS M k b r).set q (UInt8.ofNat (b / 2 ^ (8 * r))) from by rw [hq]; rfl)
          generalize padS M k b r = N at *
          have ci : (k : Int) - 1 - (r : Int) = (q : Int) := by omega
          have q1 : (0 : Int) ≤ (q : Int) := by omega
          have q2 : (q : Int) < (k : Int) := by omega
          have i1 : (0 : Int) ≤ (r : Int) := by omega
          have i2 : (r : Int) < 8 := by omega
          obtain ⟨y, hc⟩ : ∃ y, wr.cell? ⟨g, q, none⟩ = some y := ⟨_, hst.cell q (by omega)⟩
          have hfz := hst.free q
          have hst2 := hst.set q (UInt8.ofNat (b / 2 ^ (8 * r)))
          have hv : ((UInt8.ofNat (b / 2 ^ (8 * r))).toNat : Int) = (b : Int) / 2 ^ (8 * r) % 256 := by simp
          rw [hv] at hst2
          have hbz2 := hbz.setCell (p := ⟨g, q, none⟩) (Nat.le_refl _) (.int .u8 ((b : Int) / 2 ^ (8 * r) % 256))
          rw [← HQ.out] at hst2
          have H2 := Lib.hid hst2
          have H3 := Lib.hid hbz2
          clear hq hst2 hbz2 hv hpl hst hbz
          go_wp2
          go_roundw
          case rel => exact ⟨r + 1, by omega, by go_num, H2.out, H3.out⟩
          case measure => simp [intOf]; omega
        · have i2 : ¬ (r : Int) < 8 := by omega
          obtain rfl : r = 8 := by omega
          rw [padS_8 M k b hlen2 (by omega), ← HP.out] at hst hpl
          rw [hlen2] at hpl
          have ho := hst.own (B := w.heap.size) (Nat.le_of_eq HG.out.symm) (by rw [hpl]; simp only [maxLen]; omega)
          rw [hpl] at ho
          rw [HG.out] at hbz
          clear hlen2
          go_wp2
          go_ret
          exact ⟨_, rfl, ho, hbz⟩
    · have m1 : ((k : Int) % 64 != 0) = true := by simp; omega
      have m2 : ((k : Int) % 64 == 0) = false := by simp; omega
      have hlt : k < F := by have := HF.out; omega
      clear hm
      go_wp2
      go_round
      case rel => exact ⟨k + 1, by omega, by omega, by go_num⟩
      case measure => simp [intOf]; omega
end Go.Proofs.YtgomhojaappbnaaDoor
