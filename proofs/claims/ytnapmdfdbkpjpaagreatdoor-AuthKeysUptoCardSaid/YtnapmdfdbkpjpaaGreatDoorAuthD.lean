
/- The walk of an account being made. -/
import Derived.Test.YtnapmdfdbkpjpaaGreatDoorAuthB
import Derived.Test.YtnapmdfdbkpjpaaGreatDoorAuthC
namespace Go.Proofs.YtnapmdfdbkpjpaaGreatDoor
set_option maxRecDepth 100000
open Go Go.RowKit
set_option linter.unusedVariables false

theorem Acc.more {W W' : World} {y : Lyr} {R : List Pr} {k k' : Nat} (h : Acc W y R k W') (hk : k ≤ k') : Acc W y R k' W' := ⟨h.b.up (Below.refl _ _) hk, h.p⟩
set_option maxHeartbeats 4000000 in
theorem acreate_any {W W' : World} {y : Lyr} {R : List Pr} {k : Nat} (h : Acc W y R k W') (hn : y.n + k < maxLen) (a : ByteArray) (ha : a.size ≤ 100000000) (v : Value) (r : List UInt8) (hr : Rd W' W'.heap.size v r) :
    Calls Tryz.prog 12 #[.pointer (some ⟨y.b, 0, none⟩), .string a, v] W' fun e w' => e = .returned (.int .i64 (createM R a r).1) ∧ Acc W y (createM R a r).2 (k + 1) w' ∧ Kept W' w' := by
  have s1 := kAcc_size a
  have HI : Hid (∀ Z, Calls Tryz.prog 26 #[.string a] Z fun e w' => e = .returned (.bool (identB a)) ∧ Z = w') := Lib.hid (fun Z => ident_any a Z (by unfold maxLen; omega))
  have HK := Lib.hid (fun W => (accKey_any a W ha).mono fun e w' ⟨h1, h2⟩ => (⟨h1, h2.symm⟩ : _ ∧ w' = W))
  have HG := Lib.hid (h.get (kAcc a) (by unfold maxLen; omega))
  have HA : Hid (∀ Z, Below W'.heap.size W' Z → Acc W y R (k + 1) Z) := Lib.hid fun Z hz => (h.up hz).more (by omega)
  have HP : Hid (∀ Z, Below W'.heap.size W' Z → identB a = true → r.length = 32 → Calls Tryz.prog 22 #[.pointer (some ⟨y.b, 0, none⟩), .string a, .agg #[v, .int .u64 0, .int .u64 0]] Z fun e w' => e = .returned (.tuple #[]) ∧ Acc W y (putA R a r 0 0) (k + 1) w' ∧ Kept Z w') :=
    Lib.hid fun Z hz h1 h2 => aput_any (h.up hz) hn a (kAcc_fits h1) v r (hr.up (Nat.le_refl _) hz) (by omega) 0 0 (by omega) (by omega)
  have HQ : Hid ((identB a = false → createM R a r = (40, R)) ∧ (identB a = true → r.length ≠ 32 → createM R a r = (31, R)) ∧ (identB a = true → r.length = 32 → (getL R (kAcc a)).isSome = true → createM R a r = (111, R)) ∧ (identB a = true → r.length = 32 → (getL R (kAcc a)).isSome = false → createM R a r = (0, putA R a r 0 0))) := Lib.hid (by
    unfold createM
    refine ⟨fun h1 => by simp [h1], fun h1 h2 => by simp [h1, h2], fun h1 h2 h3 => by simp [h1, h2, h3], fun h1 h2 h3 => by simp [h1, h2, h3]⟩)
  obtain ⟨A, c, rfl⟩ := hr.form
  clear h hr s1 ha hn
  generalize createM R a r = q at *
  generalize identB a = ib at *
  generalize (getL R (kAcc a)).isSome = os at *
  generalize r.length = n at *
  go_enter Tryz.func12, Tryz.ntmps12
  go_wp2_with fail
  refine (HI.out _).mono ?_
  rintro e w1 ⟨rfl, rfl⟩
  cases ib
  · have hz := HA.out _ (Below.refl _ _)
    go_wp2_with fail
    go_ret
    rw [HQ.out.1 (by trivial)]
    exact ⟨rfl, hz, Kept.refl _⟩
  · by_cases hn : n = 32
    · have HP2 := Lib.hid (fun Z hz => HP.out Z hz rfl hn)
      have HQ2 := Lib.hid (And.intro (HQ.out.2.2.1 rfl hn) (HQ.out.2.2.2 rfl hn))
      subst hn
      clear HP HQ
      go_wp2_with fail
      refine (HK.out _).mono ?_
      rintro e w2 ⟨rfl, rfl⟩
      go_wp2_with fail
      refine HG.out.mono ?_
      rintro e w3 ⟨v3, rfl, ho3, hb3⟩
      obtain ⟨A3, c3, rfl⟩ := ho3.form
      clear ho3
      cases os
      · have HP3 := Lib.hid (HP2.out _ hb3)
        go_wp2_with fail
        refine HP3.out.mono ?_
        rintro e w4 ⟨rfl, A4, hk4⟩
        go_wp2_with fail
        go_ret
        rw [HQ2.out.2 (by trivial)]
        exact ⟨rfl, A4, (Kept.of_below hb3).trans hk4⟩
      · have hz := HA.out _ hb3
        go_wp2_with fail
        go_ret
        rw [HQ2.out.1 (by trivial)]
        exact ⟨rfl, hz, Kept.of_below hb3⟩
    · have hz := HA.out _ (Below.refl _ _)
      have hne : ((n : Int) != 32) = true := by simp; omega
      have HQ2 := Lib.hid (HQ.out.2.1 rfl hn)
      go_wp2_with fail
      go_ret
      rw [HQ2.out]
      exact ⟨rfl, hz, Kept.refl _⟩
end Go.Proofs.YtnapmdfdbkpjpaaGreatDoor
