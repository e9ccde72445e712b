
/- The walk of an account's keys being turned. -/
import Derived.Test.YtnapmdfdbkpjpaaGreatDoorAuthD
namespace Go.Proofs.YtnapmdfdbkpjpaaGreatDoor
set_option maxRecDepth 100000
open Go Go.RowKit
set_option linter.unusedVariables false

theorem getA_ok {R : List Pr} {a : ByteArray} {r : List UInt8} {b s : Nat} (h : getA R a = some (r, b, s)) : ∃ l, getL R (kAcc a) = some l ∧ r.length ≤ 65535 ∧ b < 18446744073709551616 ∧ s < 18446744073709551616 := by
  unfold getA at h
  cases e : getL R (kAcc a) with
  | none => rw [e] at h; cases h
  | some l =>
    rw [e] at h
    obtain ⟨h1, h2, h3⟩ := readA_ok (show readA l = some (r, b, s) from h)
    exact ⟨l, rfl, h1, h2, h3⟩
set_option maxHeartbeats 4000000 in
theorem arekey_any {W W' : World} {y : Lyr} {R : List Pr} {k : Nat} (h : Acc W y R k W') (hn : y.n + k < maxLen) (a : ByteArray) (ha : a.size ≤ 100000000) (v : Value) (r : List UInt8) (hr : Rd W' W'.heap.size v r) :
    Calls Tryz.prog 8 #[.pointer (some ⟨y.b, 0, none⟩), .string a, v] W' fun e w' => e = .returned (.int .i64 (rekeyM R a r).1) ∧ Acc W y (rekeyM R a r).2 (k + 1) w' ∧ Kept W' w' := by
  have HG := Lib.hid (aget_any h a ha)
  have HA : Hid (∀ Z, Below W'.heap.size W' Z → Acc W y R (k + 1) Z) := Lib.hid fun Z hz => (h.up hz).more (by omega)
  have HP : Hid (∀ Z r1 b1 s1, Below W'.heap.size W' Z → getA R a = some (r1, b1, s1) → r.length = 32 → Calls Tryz.prog 22 #[.pointer (some ⟨y.b, 0, none⟩), .string a, .agg #[v, .int .u64 (s1 : Int), .int .u64 (s1 : Int)]] Z fun e w' => e = .returned (.tuple #[]) ∧ Acc W y (putA R a r s1 s1) (k + 1) w' ∧ Kept Z w') :=
    Lib.hid fun Z r1 b1 s1 hz h1 h2 => by
      obtain ⟨l, q1, q2, q3, q4⟩ := getA_ok h1
      exact aput_any (h.up hz) hn a (h.fits q1).1 v r (hr.up (Nat.le_refl _) hz) (by omega) s1 s1 q4 q4
  have HQ : Hid ((getA R a = none → rekeyM R a r = (80, R)) ∧ (∀ r1 b1 s1, getA R a = some (r1, b1, s1) → r.length ≠ 32 → rekeyM R a r = (31, R)) ∧ (∀ r1 b1 s1, getA R a = some (r1, b1, s1) → r.length = 32 → rekeyM R a r = (0, putA R a r s1 s1))) := Lib.hid (by
    unfold rekeyM
    refine ⟨fun h1 => by rw [h1], fun r1 b1 s1 h1 h2 => by simp [h1, h2], fun r1 b1 s1 h1 h2 => by simp [h1, h2]⟩)
  obtain ⟨A, c, rfl⟩ := hr.form
  clear h hr ha hn
  generalize rekeyM R a r = q at *
  generalize r.length = n at *
  go_enter Tryz.func8, Tryz.ntmps8
  go_wp2_with fail
  refine HG.out.mono ?_
  rintro e w1 ⟨⟨v1, r1, b1, s1, hga, rfl, ho1⟩ | ⟨hga, rfl⟩, hb1⟩
  · obtain ⟨A1, c1, rfl⟩ := ho1.form
    generalize r1.length = n1 at *
    have hk1 := heap_alloc_new w1 (.cells #[.slice A1 n1 c1, .int .u64 (b1 : Int), .int .u64 (s1 : Int)] 31)
    have hb2 : Below W'.heap.size W' (w1.alloc (.cells #[.slice A1 n1 c1, .int .u64 (b1 : Int), .int .u64 (s1 : Int)] 31)) := hb1.alloc hb1.size _
    have z0 := blk_cell hk1 0
    have z1 := blk_cell hk1 1
    have z2 := blk_cell hk1 2
    simp at z0 z1 z2
    have hz := HA.out _ hb2
    by_cases hn : n = 32
    · have HP2 := Lib.hid (HP.out _ r1 b1 s1 hb2 hga hn)
      have HQ2 := Lib.hid (HQ.out.2.2 r1 b1 s1 hga hn)
      subst hn
      clear HP HQ ho1 hga hk1
      go_wp2_with fail
      refine HP2.out.mono ?_
      rintro e w4 ⟨rfl, A4, hk4⟩
      go_wp2_with fail
      go_ret
      rw [HQ2.out]
      exact ⟨rfl, A4, (Kept.of_below hb2).trans hk4⟩
    · have hne : ((n : Int) != 32) = true := by simp; omega
      have HQ2 := Lib.hid (HQ.out.2.1 r1 b1 s1 hga hn)
      clear HP HQ ho1 hga hk1
      go_wp2_with fail
      go_ret
      rw [HQ2.out]
      exact ⟨rfl, hz, Kept.of_below hb2⟩
  · have hb2 : Below W'.heap.size W' (w1.alloc (.cells #[.slice none 0 0, .int .u64 0, .int .u64 0] 31)) := hb1.alloc hb1.size _
    have hz := HA.out _ hb2
    have HQ2 := Lib.hid (HQ.out.1 hga)
    clear HP HQ hga
    go_wp2_with fail
    go_ret
    rw [HQ2.out]
    exact ⟨rfl, hz, Kept.of_below hb2⟩
end Go.Proofs.YtnapmdfdbkpjpaaGreatDoor
