
/- A reader that there isn't: what its calls answer. A piece of a row between two places. What a take leaves. -/
import Derived.Test.YtpcoonnfaoakhaaWireFx
import Derived.Test.YtpcoonnfaoakhaaEncB1
namespace Go.Proofs.Ytpcoonnfaoakhaa
set_option maxRecDepth 100000
open Go Go.RowKit
set_option linter.unusedVariables false

theorem ready_nil (w : World) : Calls Try.prog 32 #[.pointer none] w fun e w' => e = .returned (.bool false) ∧ w = w' := by
  go_enter Try.func32, Try.ntmps32
  go_wp2
  go_ret
  exact ⟨rfl, rfl⟩
theorem field_nil (w : World) : Calls Try.prog 34 #[.pointer none] w fun e w' => e = .returned (.slice none 0 0) ∧ w = w' := by
  go_enter Try.func34, Try.ntmps34
  go_wp2_with fail
  refine (ready_nil _).mono ?_
  rintro e w1 ⟨rfl, rfl⟩
  go_wp2_with fail
  go_ret
  exact ⟨rfl, rfl⟩
theorem N_nil (w : World) : Calls Try.prog 14 #[.pointer none] w fun e w' => e = .returned (.int .u64 0) ∧ w = w' := by
  go_enter Try.func14, Try.ntmps14
  go_wp2_with fail
  refine (ready_nil _).mono ?_
  rintro e w1 ⟨rfl, rfl⟩
  go_wp2_with fail
  go_ret
  exact ⟨rfl, rfl⟩
theorem F_nil (w : World) : Calls Try.prog 18 #[.pointer none] w fun e w' => e = .returned (.bool false) ∧ w = w' := by
  go_enter Try.func18, Try.ntmps18
  go_wp2_with fail
  refine (ready_nil _).mono ?_
  rintro e w1 ⟨rfl, rfl⟩
  go_wp2_with fail
  go_ret
  exact ⟨rfl, rfl⟩
theorem C_nil (w : World) (n : Int) : Calls Try.prog 22 #[.pointer none, .int .i64 n] w fun e w' => e = .returned (.int .i64 0) ∧ w = w' := by
  go_enter Try.func22, Try.ntmps22
  go_wp2_with fail
  refine (ready_nil _).mono ?_
  rintro e w1 ⟨rfl, rfl⟩
  go_wp2_with fail
  go_ret
  exact ⟨rfl, rfl⟩
theorem Left_nil (w : World) : Calls Try.prog 20 #[.pointer none] w fun e w' => e = .returned (.int .i64 0) ∧ w = w' := by
  go_enter Try.func20, Try.ntmps20
  go_wp2
  go_ret
  exact ⟨rfl, rfl⟩
theorem Err_nil (w : World) : Calls Try.prog 21 #[.pointer none] w fun e w' => e = .returned (.int .i64 1) ∧ w = w' := by
  go_enter Try.func21, Try.ntmps21
  go_wp2
  go_ret
  exact ⟨rfl, rfl⟩
theorem End_nil (w : World) : Calls Try.prog 19 #[.pointer none] w fun e w' => e = .returned (.int .i64 1) ∧ w = w' := by
  go_enter Try.func19, Try.ntmps19
  go_wp2_with fail
  refine (Err_nil _).mono ?_
  rintro e w1 ⟨rfl, rfl⟩
  go_wp2_with fail
  go_ret
  exact ⟨rfl, rfl⟩
theorem T_nil (w : World) : Calls Try.prog 17 #[.pointer none] w fun e w' => e = .returned (.string ⟨#[]⟩) ∧ w = w' := by
  go_enter Try.func17, Try.ntmps17
  go_wp2_with fail
  refine (field_nil _).mono ?_
  rintro e w1 ⟨rfl, rfl⟩
  have hcv := run_str (P := Try.prog) Try.underlying24 Try.underlying5 Try.isString (Rd.nil w w.heap.size)
  go_wp2_with fail
  go_ret
  exact ⟨rfl, rfl⟩
set_option maxHeartbeats 400000 in
theorem B_nil (w : World) : Calls Try.prog 16 #[.pointer none] w fun e w' => ∃ v, e = .returned v ∧ Own w' w.heap.size v [] ∧ Below w.heap.size w w' := by
  obtain ⟨i0, hi, hz, hsz, hby⟩ := info_parts Try.infoByte
  go_enter Try.func16, Try.ntmps16
  go_wp2_with fail
  refine (field_nil _).mono ?_
  rintro e w1 ⟨rfl, rfl⟩
  go_wp2_with (at_builtin; refine wpList_append_rd (B := w.heap.size) rfl (.const (.slice none 0 0)) (.tmp 4) _ rfl i0 Try.underlying24 hi hz hsz hby rfl (Own.nil _ _) rfl (Rd.nil w w.heap.size) (by simp) (Nat.le_refl _) ?_; intro v3 w3 ho3 hg3 _)
  go_ret
  exact ⟨_, rfl, by simpa using ho3, (Below.refl _ _).grown hg3 (Nat.le_refl _) (by simp [Act.eval, Value.ownBlock])⟩

/-! ### what a take leaves -/
theorem rN_cases (l : List UInt8) (f : Int) : (f ≠ 0 ∧ (rN l f).2.2 = f ∧ (rN l f).2.1 = l) ∨ (f = 0 ∧ (rN l f).2.2 ≠ 0 ∧ (rN l f).2.1 = l) ∨ (f = 0 ∧ (rN l f).2.2 = 0 ∧ l = be (rN l f).1 8 ++ (rN l f).2.1) := by
  by_cases h : (rN l f).2.2 = 0
  · obtain ⟨h1, h2⟩ := rN_ok h
    exact .inr (.inr ⟨h1, h, h2⟩)
  · by_cases hf : f = 0
    · refine .inr (.inl ⟨hf, h, ?_⟩)
      subst hf
      unfold rN at h ⊢
      rw [if_neg (by simp)] at h ⊢
      split
      · rfl
      · next h8 => rw [if_neg h8] at h; exact absurd rfl h
    · exact .inl ⟨hf, by unfold rN; rw [if_pos hf], by unfold rN; rw [if_pos hf]⟩
theorem rB_cases (l : List UInt8) (f : Int) : (f ≠ 0 ∧ (rB l f).2.2 = f ∧ (rB l f).2.1 = l) ∨ (f = 0 ∧ (rB l f).2.2 ≠ 0 ∧ (rB l f).2.1 = l) ∨ (f = 0 ∧ (rB l f).2.2 = 0 ∧ l = encB (rB l f).1 ++ (rB l f).2.1) := by
  by_cases h : (rB l f).2.2 = 0
  · obtain ⟨h1, h2⟩ := rB_ok h
    exact .inr (.inr ⟨h1, h, h2⟩)
  · by_cases hf : f = 0
    · refine .inr (.inl ⟨hf, h, ?_⟩)
      subst hf
      unfold rB at h ⊢
      rw [if_neg (by simp)] at h ⊢
      split
      · rfl
      · next h1 =>
        rw [if_neg h1] at h
        split
        · rfl
        · next h2 =>
          rw [if_neg h2] at h
          split
          · rfl
          · next h3 => rw [if_neg h3] at h; exact absurd rfl h
    · exact .inl ⟨hf, by unfold rB; rw [if_pos hf], by unfold rB; rw [if_pos hf]⟩
theorem rF_cases (l : List UInt8) (f : Int) : (f ≠ 0 ∧ (rF l f).2.2 = f ∧ (rF l f).2.1 = l) ∨ (f = 0 ∧ (rF l f).2.2 ≠ 0 ∧ (rF l f).2.1 = l) ∨ (f = 0 ∧ (rF l f).2.2 = 0 ∧ l = [fb (rF l f).1] ++ (rF l f).2.1) := by
  by_cases hf : f = 0
  · subst hf
    cases l with
    | nil => exact .inr (.inl ⟨rfl, by decide, rfl⟩)
    | cons x r =>
      by_cases hx : 1 < x.toNat
      · have e : rF (x :: r) 0 = (false, x :: r, 21) := by simp [rF, hx]
        rw [e]
        exact .inr (.inl ⟨rfl, by show (21 : Int) ≠ 0; decide, rfl⟩)
      · have e : rF (x :: r) 0 = (x.toNat == 1, r, 0) := by simp [rF, hx]
        rw [e]
        refine .inr (.inr ⟨rfl, rfl, ?_⟩)
        have : x.toNat = 0 ∨ x.toNat = 1 := by omega
        rcases this with h | h
        · obtain rfl : x = 0 := UInt8.toNat_inj.1 h
          rfl
        · obtain rfl : x = 1 := UInt8.toNat_inj.1 h
          rfl
  · exact .inl ⟨hf, by unfold rF; rw [if_pos hf], by unfold rF; rw [if_pos hf]⟩
theorem run_slice_mid {P : Program} (t e : TypeId) (i : TypeInfo) (ht : P.underlying t = some (.slice e)) (hi : P.info? e = some i) (hs : i.size = 1) (b o L c lo hi' : Nat) (h1 : lo < hi') (h2 : hi' ≤ L) (hL : L ≤ c) (W : World) :
    (Instr.slice t (.slice (some ⟨b, o, none⟩) L c) (some (.int .i64 (lo : Int))) (some (.int .i64 (hi' : Int))) none).run P W = .ok (.slice (some ⟨b, o + lo, none⟩) (hi' - lo) (c - lo)) W := by
  have q1 : (lo : Int) ≤ (hi' : Int) := by omega
  have q2 : (hi' : Int) ≤ (c : Int) := by omega
  have q3 : ¬ c = lo := by omega
  simp [Instr.slice, run_underlying ht, Instr.sliceBounds, Instr.sliceBound, asIntOf, sizeOf, typeInfo, hi, q1, q2, q3, hs, Addr.add]
  rw [if_pos (show hi' ≤ c by omega), if_pos (show lo ≤ hi' by omega)]
  by_cases h0 : lo = 0
  · subst h0; simp
  · rw [if_neg h0]
end Go.Proofs.Ytpcoonnfaoakhaa
