/- The law DiskArms, walked. -/
import Derived.Test.YtcnooafnifpbaaaDiskG
namespace Go.Proofs.Ytcnooafnifpbaaa
open Go Go.RowKit

variable {w w' : World} {F : Nat → Prop} {d : Nat} {m : DM} {B : Nat}
def sF : ByteArray := ⟨#[102]⟩

/-- the disk that is armed for the n-th operation, behind k appends of b -/
def armK (n : Int) (b : List UInt8) (k : Nat) : DM :=
  if n < 1 then ⟨if k = 0 then [] else [⟨sF, (List.replicate k b).flatten, 0⟩], false, 0⟩
  else if (k : Int) < n then ⟨if k = 0 then [] else [⟨sF, (List.replicate k b).flatten, 0⟩], false, n - k⟩
  else ⟨[⟨sF, (List.replicate n.toNat b).flatten, 0⟩], true, 0⟩
def armE (n : Int) (k : Nat) : Int := if n < 1 ∨ (k : Int) < n then 0 else 51
theorem flat_succ (b : List UInt8) (k : Nat) : (List.replicate (k + 1) b).flatten = (List.replicate k b).flatten ++ b := by
  rw [List.replicate_succ']; simp
theorem add_armK (b : List UInt8) (k : Nat) (l : Int) (off : Bool) : addM ⟨if k = 0 then [] else [⟨sF, (List.replicate k b).flatten, 0⟩], off, l⟩ sF b = (0, ⟨[⟨sF, (List.replicate (k + 1) b).flatten, 0⟩], off, l⟩) := by
  have hn : namedB sF = true := rfl
  by_cases h : k = 0
  · subst h; simp [addM, placeF, hn]
  · rw [if_neg h, flat_succ]; simp [addM, placeF]
theorem armK_succ (n : Int) (b : List UInt8) (k : Nat) : appendM (armK n b k) sF b = (armE n (k + 1), armK n b (k + 1)) := by
  unfold armK armE
  by_cases h1 : n < 1
  · simp only [if_pos h1, appendM, goesM]
    simp [add_armK, h1]
  · by_cases h2 : (k : Int) < n
    · simp only [if_neg h1, if_pos h2, appendM]
      by_cases h3 : (k : Int) + 1 < n
      · have e1 : goesM ⟨if k = 0 then [] else [⟨sF, (List.replicate k b).flatten, 0⟩], false, n - k⟩ = (false, ⟨if k = 0 then [] else [⟨sF, (List.replicate k b).flatten, 0⟩], false, n - (k + 1 : Nat)⟩) := by
          unfold goesM
          rw [if_neg (by show ¬ n - (k : Int) ≤ 0; omega), if_neg (by show ¬ n - (k : Int) = 1; omega)]
          congr 2
          simp; omega
        have h3' : ((k + 1 : Nat) : Int) < n := by omega
        simp only [e1, add_armK, if_pos h3', if_neg (Bool.false_ne_true)]
        simp [h1]
        omega
      · have e1 : goesM ⟨if k = 0 then [] else [⟨sF, (List.replicate k b).flatten, 0⟩], false, n - k⟩ = (true, ⟨if k = 0 then [] else [⟨sF, (List.replicate k b).flatten, 0⟩], true, 0⟩) := by
          unfold goesM
          rw [if_neg (by show ¬ n - (k : Int) ≤ 0; omega), if_pos (by show n - (k : Int) = 1; omega)]
        have h3' : ¬ ((k + 1 : Nat) : Int) < n := by omega
        have e2 : n.toNat = k + 1 := by omega
        simp only [e1, add_armK, if_neg h3', e2]
        simp [h1]
        omega
    · have h3' : ¬ ((k + 1 : Nat) : Int) < n := by omega
      simp only [if_neg h1, if_neg h2, if_neg h3', appendM]
      simp [h1]
      omega
theorem armK_files (n : Int) (b : List UInt8) (k : Nat) (hk : k ≤ 12) (hb : b.length ≤ 1048576) : (armK n b k).files.length ≤ 1 ∧ ∀ f ∈ (armK n b k).files, f.data.length ≤ 12 * 1048576 := by
  have hm : ∀ j, j ≤ 12 → ((List.replicate j b).flatten).length ≤ 12 * 1048576 := fun j hj => by
    simp
    exact Nat.mul_le_mul hj hb
  have hcase : ∀ j, j ≤ 12 → (if j = 0 then [] else [(⟨sF, (List.replicate j b).flatten, 0⟩ : FM)]).length ≤ 1 ∧ ∀ f ∈ (if j = 0 then [] else [(⟨sF, (List.replicate j b).flatten, 0⟩ : FM)]), f.data.length ≤ 12 * 1048576 := fun j hj => by
    by_cases h : j = 0
    · simp [h]
    · rw [if_neg h]
      refine ⟨by simp, fun f hf => ?_⟩
      simp only [List.mem_cons, List.not_mem_nil, or_false] at hf
      subst hf
      exact hm j hj
  unfold armK
  split
  · exact hcase k hk
  · split
    · exact hcase k hk
    · refine ⟨by simp, fun f hf => ?_⟩
      simp only [List.mem_cons, List.not_mem_nil, or_false] at hf
      subst hf
      exact hm _ (by omega)

set_option maxHeartbeats 1000000 in
theorem arms_any (w : World) (n : Int) (hn : -9223372036854775808 ≤ n ∧ n ≤ 9223372036854775807) (bv : Value) (b : List UInt8) (hb : Rd w w.heap.size bv b) (hl : b.length ≤ 1048576) :
    Calls Try.prog 8 #[.int .i64 n, bv] w fun e w' => e = .returned (.bool true) ∧ Below w.heap.size w w' := by
  go_enter Try.func8, Try.ntmps8
  go_wp2_with fail
  refine (new_any _ (fun _ => False)).mono ?_
  rintro e w1 ⟨rfl, h1, hB1⟩
  obtain ⟨d, hd⟩ : ∃ d, d = w.heap.size := ⟨_, rfl⟩
  rw [← hd] at h1 hB1 hb ⊢
  have HD := Lib.hid hd
  clear hd
  have hs1 : d ≤ w1.heap.size := Nat.le_of_lt (h1.lt d rfl)
  have hF1 : ∀ k, (fun k => k = d) k → d ≤ k := fun k hk => Nat.le_of_eq hk.symm
  generalize (fun k => k = d) = F1 at *
  go_wp2_with fail
  refine (fixed_any _).mono ?_
  rintro e w2 ⟨rfl, hb2⟩
  have h2 := h1.below hb2
  have hB2 := hB1.trans (hb2.mono hs1)
  have hs2 := Nat.le_trans hs1 hb2.size
  clear h1 hB1 hb2 hs1
  go_wp2_with fail
  refine (arm_any h2 n hn).mono ?_
  rintro e w3 ⟨rfl, h3, hc3⟩
  have hB3 := hB2.trans (hc3.below hF1 hs2)
  have hs3 := Nat.le_trans hs2 hc3.size
  have e3 : armM ⟨[], false, 0⟩ n = armK n b 0 := by
    by_cases h1 : n < 1
    · simp [armM, armK, h1]; omega
    · have h0 : (0 : Int) < n := by omega
      simp [armM, armK, h1, h0]; omega
  rw [e3] at h3
  clear h2 hB2 hc3 hs2 e3
  go_wp2_with fail
  go_loopw [6] (fun i wr => ∃ (k : Nat) (F : Nat → Prop), k ≤ 12 ∧ i = .int .i64 ((k + 1 : Nat) : Int) ∧ DiskAt wr F d (armK n b k) ∧ (∀ k, F k → d ≤ k) ∧ Below d w wr ∧ d ≤ wr.heap.size)
    (fun i _ => 14 - (intOf i).toNat)
  case atStart => exact ⟨0, F1, by omega, rfl, h3, hF1, hB3, hs3⟩
  case round =>
    obtain ⟨k, F, hk, rfl, hD, hF, hB, hs⟩ := hrel
    by_cases hlt : k < 12
    · obtain ⟨i, hi⟩ : ∃ i : Int, i = ((k + 1 : Nat) : Int) := ⟨_, rfl⟩
      rw [← hi]
      have i1 : 1 ≤ i := by omega
      have i2 : i ≤ 12 := by omega
      have HI := Lib.hid hi
      clear hi
      go_wp2_with fail
      refine (append_any hD sF (by decide) b bv (RdF.old (hb.below hB) hs hF) (fun f hf => by have := (armK_files n b k hk hl).2 f hf; omega) (by omega) (by have := (armK_files n b k hk hl).1; omega)).mono ?_
      rintro e w4 ⟨rfl, h4, hc4⟩
      rw [armK_succ] at h4 ⊢
      obtain ⟨hF4, hB4, hs4⟩ := DiskAt.next hF hB hs hc4
      have HX := Lib.hid (And.intro h4 (And.intro hF4 (And.intro hB4 hs4)))
      clear h4 hF4 hB4 hs4 hc4 hD hF hB
      by_cases h1 : n < 1
      · have e4 : armE n (k + 1) = 0 := by unfold armE; rw [if_pos (.inl h1)]
        simp only [e4]
        clear e4
        go_wp2_with fail
        exact ⟨⟨k + 1, _, by omega, congrArg (Value.int .i64) (by have := HI.out; omega), HX.out⟩, by simp [intOf]; have := HI.out; omega⟩
      · by_cases h2 : i < n
        · have e4 : armE n (k + 1) = 0 := by unfold armE; rw [if_pos (.inr (by rw [← HI.out]; exact h2))]
          simp only [e4]
          clear e4
          go_wp2_with fail
          exact ⟨⟨k + 1, _, by omega, congrArg (Value.int .i64) (by have := HI.out; omega), HX.out⟩, by simp [intOf]; have := HI.out; omega⟩
        · have e4 : armE n (k + 1) = 51 := by unfold armE; rw [if_neg (fun e => e.elim h1 (by rw [← HI.out]; exact h2))]
          simp only [e4]
          clear e4
          go_wp2_with fail
          exact ⟨⟨k + 1, _, by omega, congrArg (Value.int .i64) (by have := HI.out; omega), HX.out⟩, by simp [intOf]; have := HI.out; omega⟩
    · obtain rfl : k = 12 := by omega
      have e13 : ((12 + 1 : Nat) : Int) = 13 := rfl
      rw [e13]
      clear e13
      have HB := Lib.hid hB
      by_cases h1 : n < 1
      · have e5 : (armK n b 12).off = false := by unfold armK; rw [if_pos h1]
        go_wp2_with fail
        refine (down_any hD).mono ?_
        rintro e w5 ⟨rfl, rfl⟩
        rw [e5]
        clear e5 hD hF hB
        go_wp2_with fail
        go_ret
        exact ⟨rfl, by rw [← HD.out]; exact HB.out⟩
      · by_cases h2 : n ≤ 12
        · have e5 : (armK n b 12).off = true := by unfold armK; rw [if_neg h1, if_neg (by show ¬ ((12 : Nat) : Int) < n; omega)]
          have i1 : 1 ≤ n := by omega
          go_wp2_with fail
          refine (down_any hD).mono ?_
          rintro e w5 ⟨rfl, rfl⟩
          rw [e5]
          clear e5 hD hF hB
          go_wp2_with fail
          go_ret
          exact ⟨rfl, by rw [← HD.out]; exact HB.out⟩
        · have e5 : (armK n b 12).off = false := by unfold armK; rw [if_neg h1, if_pos (by show ((12 : Nat) : Int) < n; omega)]
          have i1 : 1 ≤ n := by omega
          have i2 : decide (n ≤ 12) = false := by simp; omega
          go_wp2_with fail
          refine (down_any hD).mono ?_
          rintro e w5 ⟨rfl, rfl⟩
          rw [e5]
          clear e5 hD hF hB
          go_wp2_with fail
          go_ret
          exact ⟨rfl, by rw [← HD.out]; exact HB.out⟩
end Go.Proofs.Ytcnooafnifpbaaa
