/- Texts joined: AuthC, AuthD, AuthE, AuthF, TxW, TxX, ValA0, Ord0, MsgV. -/
import Derived.Test.YtniclaapiabmdaaGreatDoorM12
import Derived.Test.YtniclaapiabmdaaGreatDoorM02
import Derived.Test.YtniclaapiabmdaaGreatDoorM09
import Derived.Deep.RegionLaw
import Derived.Test.YtniclaapiabmdaaGreatDoorM07
import Derived.Test.YtniclaapiabmdaaGreatDoorM01
import Derived.Test.YtniclaapiabmdaaGreatDoorM05
import Derived.Test.YtniclaapiabmdaaGreatDoorM06
namespace Go.Proofs.YtniclaapiabmdaaGreatDoor
set_option maxRecDepth 100000
open Go Go.RowKit
set_option linter.unusedVariables false

theorem set3 {w : World} {g : Nat} {x0 x1 x2 : Value} {t : TypeId} (h : w.heap[g]? = some (.cells #[x0, x1, x2] t (0, 0))) (y0 y1 y2 : Value) : (((w.setCell ⟨g, 0, none⟩ y0).setCell ⟨g, 1, none⟩ y1).setCell ⟨g, 2, none⟩ y2).heap[g]? = some (.cells #[y0, y1, y2] t (0, 0)) := by
  simpa using blk_set (blk_set (blk_set h 0 y0) 1 y1) 2 y2
theorem below_set3 {B : Nat} {w w' : World} {g : Nat} (h : Below B w w') (hg : B ≤ g) (x0 x1 x2 : Value) : Below B w (((w'.setCell ⟨g, 0, none⟩ x0).setCell ⟨g, 1, none⟩ x1).setCell ⟨g, 2, none⟩ x2) :=
  ((h.setCell hg _).setCell hg _).setCell hg _
theorem Own.set3 {w : World} {B g : Nat} {v : Value} {l : List UInt8} (h : Own w B v l) (hg : g < B) (x0 x1 x2 : Value) : Own (((w.setCell ⟨g, 0, none⟩ x0).setCell ⟨g, 1, none⟩ x1).setCell ⟨g, 2, none⟩ x2) B v l := by
  have hne : ∀ {w : World}, Own w B v l → v.ownBlock ≠ some g := fun h e => by have := h.lt _ e; omega
  have h1 := h.grown (grown_setR w g 0 x0) (Or.inr (hne h))
  have h2 := h1.grown (grown_setR _ g 1 x1) (Or.inr (hne h1))
  exact h2.grown (grown_setR _ g 2 x2) (Or.inr (hne h2))

set_option maxHeartbeats 4000000 in
theorem aget_any {W W' : World} {y : Lyr} {R : List Pr} {k : Nat} (h : Acc W y R k W') (a : ByteArray) (ha : a.size ≤ 100000000) :
    Calls Tryz.prog 11 #[.pointer (some ⟨y.b, 0, none⟩), .string a] W' fun e w' => ((∃ v r b s, getA R a = some (r, b, s) ∧ e = .returned (.tuple #[.agg #[v, .int .u64 ((b : Nat) : Int), .int .u64 ((s : Nat) : Int)], .bool true]) ∧ Own w' W'.heap.size v r) ∨ (getA R a = none ∧ e = .returned (.tuple #[.agg #[.slice none 0 0, .int .u64 0, .int .u64 0], .bool false]))) ∧ Below W'.heap.size W' w' := by
  have s1 := kAcc_size a
  have HK := Lib.hid (fun W => (accKey_any a W ha).mono fun e w' ⟨h1, h2⟩ => (⟨h1, h2.symm⟩ : _ ∧ w' = W))
  have HG := Lib.hid (fun (Z : World) (hz : Below W'.heap.size W' Z) => (h.up hz).get (kAcc a) (by unfold maxLen; omega))
  have HF := Lib.hid (fun v e => h.fits (key := kAcc a) (v := v) e)
  obtain ⟨o, ho⟩ : ∃ o, o = getL R (kAcc a) := ⟨_, rfl⟩
  have hga : getA R a = o.bind readA := by unfold getA; rw [← ho]
  rw [← ho] at HG HF
  rw [hga]
  clear hga ho h s1 ha
  have hk0 := heap_alloc_new W' (.cells #[.slice none 0 0, .int .u64 0, .int .u64 0] 38)
  have ha0 : Below W'.heap.size W' (W'.alloc (.cells #[.slice none 0 0, .int .u64 0, .int .u64 0] 38)) := (Below.refl _ _).alloc (Nat.le_refl _) _
  go_enter Tryz.func11, Tryz.ntmps11
  go_wp2_with fail
  generalize W'.alloc (.cells #[.slice none 0 0, .int .u64 0, .int .u64 0] 38) = W0 at *
  refine (HK.out _).mono ?_
  rintro e w1 ⟨rfl, rfl⟩
  have hl0 := blk_lt hk0
  go_wp2_with fail
  refine (HG.out _ ha0).mono ?_
  rintro e w2 ⟨v, rfl, hov, hb2⟩
  have hq2 := below_chain ha0 ha0.size hb2
  have hk2 := (hb2.block _ hl0).trans hk0
  clear HG HK
  cases o with
  | none =>
    have z0 := blk_cell hk2 0
    have z1 := blk_cell hk2 1
    have z2 := blk_cell hk2 2
    have f0 := blk_free hk2 0
    have f1 := blk_free hk2 1
    have f2 := blk_free hk2 2
    obtain ⟨A, c, rfl⟩ := hov.form
    have hk3 := set3 hk2 (.slice none 0 0) (.int .u64 0) (.int .u64 0)
    have HD := Lib.hid (And.intro (blk_cell hk3 0) (And.intro (blk_cell hk3 1) (blk_cell hk3 2)))
    clear hk3 hov
    go_wp2_with fail
    obtain ⟨d0, d1, d2⟩ := HD.out
    refine bodyPost_ret (v := .tuple #[.agg #[.slice none 0 0, .int .u64 0, .int .u64 0], .bool false]) ?_ rfl ⟨Or.inr ⟨rfl, rfl⟩, ?_⟩
    · simp at d0 d1 d2; simp [results, Tryz.results11, go_sem, d0, d1, d2]
    · exact below_set3 hq2 (Nat.le_refl _) _ _ _
  | some l =>
    have hll := (HF.out l rfl).2
    have HO := Lib.hid (open_rd v l w2 hov.rd (by omega))
    obtain ⟨A, c, rfl⟩ := hov.form
    have hra : readA l = if rEnd (rN (rN (rB l 0).2.1 (rB l 0).2.2).2.1 (rN (rB l 0).2.1 (rB l 0).2.2).2.2).2.1 (rN (rN (rB l 0).2.1 (rB l 0).2.2).2.1 (rN (rB l 0).2.1 (rB l 0).2.2).2.2).2.2 = 0 then
      some ((rB l 0).1, (rN (rB l 0).2.1 (rB l 0).2.2).1, (rN (rN (rB l 0).2.1 (rB l 0).2.2).2.1 (rN (rB l 0).2.1 (rB l 0).2.2).2.2).1) else none := rfl
    have HB := Lib.hid (fun (Z : World) (lo g : Nat) (h : Rdr Z lo g l 0) => rdB_any h)
    have HN1 := Lib.hid (fun (Z : World) (lo g : Nat) (h : Rdr Z lo g (rB l 0).2.1 (rB l 0).2.2) => rN_any h)
    have HN2 := Lib.hid (fun (Z : World) (lo g : Nat) (h : Rdr Z lo g (rN (rB l 0).2.1 (rB l 0).2.2).2.1 (rN (rB l 0).2.1 (rB l 0).2.2).2.2) => rN_any h)
    have HE := Lib.hid (fun (Z : World) (lo g : Nat) (h : Rdr Z lo g (rN (rN (rB l 0).2.1 (rB l 0).2.2).2.1 (rN (rB l 0).2.1 (rB l 0).2.2).2.2).2.1 (rN (rN (rB l 0).2.1 (rB l 0).2.2).2.1 (rN (rB l 0).2.1 (rB l 0).2.2).2.2).2.2) => rdEnd_any h)
    generalize rB l 0 = P1 at *
    generalize rN P1.2.1 P1.2.2 = P2 at *
    generalize rN P2.2.1 P2.2.2 = P3 at *
    generalize rEnd P3.2.1 P3.2.2 = E at *
    obtain ⟨r, l1, fl1⟩ := P1
    obtain ⟨b, l2, fl2⟩ := P2
    obtain ⟨s, l3, fl3⟩ := P3
    dsimp only at hra HB HN1 HN2 HE
    have HRA := Lib.hid hra
    clear hra HF hov hll
    go_wp2_with fail
    refine HO.out.mono ?_
    rintro e w3 ⟨g, rfl, hr3, hb3⟩
    have hq3 := below_chain hq2 hq2.size hb3
    have hg1 := hr3.from_
    have hg2 := hr3.lt
    have hl2 := blk_lt hk2
    have hk3 := (hb3.block _ hl2).trans hk2
    have hgn : (some W'.heap.size : Option Nat) ≠ some g := fun e => by injection e with e; omega
    have HD3 := Lib.hid (HB.out _ _ _ hr3)
    clear HO HB
    go_wp2_with fail
    refine HD3.out.mono ?_
    rintro e w4 ⟨vB, rfl, hoB, hr4, hg4⟩
    have hq4 := hq3.grown hg4 hq3.size (fun k hk => by injection hk with hk; have := hq2.size; omega)
    have hk4 := (hg4.block _ (blk_lt hk3) hgn).trans hk3
    have hBg : vB.ownBlock ≠ some g := fun e => by have := (hoB.lt _ e).1; omega
    have HD4 := Lib.hid (HN1.out _ _ _ hr4)
    clear HD3 HN1 hr3
    go_wp2_with fail
    refine HD4.out.mono ?_
    rintro e w5 ⟨rfl, hr5, hg5⟩
    have hq5 := hq4.grown hg5 hq4.size (fun k hk => by injection hk with hk; have := hq2.size; omega)
    have hk5 := (hg5.block _ (blk_lt hk4) hgn).trans hk4
    have ho5 := hoB.grown hg5 (Or.inr hBg)
    have HD5 := Lib.hid (HN2.out _ _ _ hr5)
    clear HD4 HN2 hr4
    go_wp2_with fail
    refine HD5.out.mono ?_
    rintro e w6 ⟨rfl, hr6, hg6⟩
    have hq6 := hq5.grown hg6 hq5.size (fun k hk => by injection hk with hk; have := hq2.size; omega)
    have hk6 := (hg6.block _ (blk_lt hk5) hgn).trans hk5
    have ho6 := ho5.grown hg6 (Or.inr hBg)
    have HD6 := Lib.hid (HE.out _ _ _ hr6)
    obtain ⟨AB, cB, rfl⟩ := ho6.form
    have hW3 : W'.heap.size < w3.heap.size := blk_lt hk3
    clear HD5 HE hr5 hr6 hg4 hg5 hg6 hoB ho5 hk2 hk3 hk4 hk5 hBg
    go_wp2_with fail
    refine HD6.out.mono ?_
    rintro e w7 ⟨rfl, rfl⟩
    clear HD6
    have z0 := blk_cell hk6 0
    have z1 := blk_cell hk6 1
    have z2 := blk_cell hk6 2
    have f0 := blk_free hk6 0
    have f1 := blk_free hk6 1
    have f2 := blk_free hk6 2
    by_cases e0 : E = 0
    · have hres := HRA.out
      rw [if_pos e0] at hres
      subst e0
      have HRS := Lib.hid hres
      have hk7 := set3 hk6 (.slice AB r.length cB) (.int .u64 (b : Int)) (.int .u64 (s : Int))
      have HD := Lib.hid (And.intro (blk_cell hk7 0) (And.intro (blk_cell hk7 1) (blk_cell hk7 2)))
      clear hk7 hres HRA
      go_wp2_with fail
      obtain ⟨d0, d1, d2⟩ := HD.out
      refine bodyPost_ret (v := .tuple #[.agg #[.slice AB r.length cB, .int .u64 (b : Int), .int .u64 (s : Int)], .bool true]) ?_ rfl ⟨Or.inl ⟨_, r, b, s, ?_, rfl, ?_⟩, ?_⟩
      · simp at d0 d1 d2; simp [results, Tryz.results11, go_sem, d0, d1, d2]
      · simp [HRS.out]
      · exact (ho6.set3 hW3 _ _ _).more (by omega)
      · exact below_set3 hq6 (Nat.le_refl _) _ _ _
    · have hres := HRA.out
      rw [if_neg e0] at hres
      have HRS := Lib.hid hres
      have hne : (E != 0) = true := by simpa using e0
      have hk7 := set3 hk6 (.slice none 0 0) (.int .u64 0) (.int .u64 0)
      have HD := Lib.hid (And.intro (blk_cell hk7 0) (And.intro (blk_cell hk7 1) (blk_cell hk7 2)))
      clear hk7 hres HRA e0
      go_wp2_with fail
      obtain ⟨d0, d1, d2⟩ := HD.out
      refine bodyPost_ret (v := .tuple #[.agg #[.slice none 0 0, .int .u64 0, .int .u64 0], .bool false]) ?_ rfl ⟨Or.inr ⟨by simp [HRS.out], rfl⟩, ?_⟩
      · simp at d0 d1 d2; simp [results, Tryz.results11, go_sem, d0, d1, d2]
      · exact below_set3 hq6 (Nat.le_refl _) _ _ _
end Go.Proofs.YtniclaapiabmdaaGreatDoor
namespace Go.Proofs.YtniclaapiabmdaaGreatDoor
set_option maxRecDepth 100000
open Go Go.RowKit
set_option linter.unusedVariables false

theorem Acc.more {W W' : World} {y : Lyr} {R : List Pr} {k k' : Nat} (h : Acc W y R k W') (hk : k ≤ k') : Acc W y R k' W' := ⟨h.b.up (Below.refl _ _) hk, h.p⟩
set_option maxHeartbeats 4000000 in
theorem acreate_any {W W' : World} {y : Lyr} {R : List Pr} {k : Nat} (h : Acc W y R k W') (hn : y.n + k < maxLen) (a : ByteArray) (ha : a.size ≤ 100000000) (v : Value) (r : List UInt8) (hr : Rd W' W'.heap.size v r) :
    Calls Tryz.prog 19 #[.pointer (some ⟨y.b, 0, none⟩), .string a, v] W' fun e w' => e = .returned (.int .i64 (createM R a r).1) ∧ Acc W y (createM R a r).2 (k + 1) w' ∧ Kept W' w' := by
  have s1 := kAcc_size a
  have HI : Hid (∀ Z, Calls Tryz.prog 43 #[.string a] Z fun e w' => e = .returned (.bool (identB a)) ∧ Z = w') := Lib.hid (fun Z => ident_any a Z (by unfold maxLen; omega))
  have HK := Lib.hid (fun W => (accKey_any a W ha).mono fun e w' ⟨h1, h2⟩ => (⟨h1, h2.symm⟩ : _ ∧ w' = W))
  have HG := Lib.hid (h.get (kAcc a) (by unfold maxLen; omega))
  have HA : Hid (∀ Z, Below W'.heap.size W' Z → Acc W y R (k + 1) Z) := Lib.hid fun Z hz => (h.up hz).more (by omega)
  have HP : Hid (∀ Z, Below W'.heap.size W' Z → identB a = true → r.length = 32 → Calls Tryz.prog 37 #[.pointer (some ⟨y.b, 0, none⟩), .string a, .agg #[v, .int .u64 0, .int .u64 0]] Z fun e w' => e = .returned (.tuple #[]) ∧ Acc W y (putA R a r 0 0) (k + 1) w' ∧ Kept Z w') :=
    Lib.hid fun Z hz h1 h2 => aput_any (h.up hz) hn a (kAcc_fits h1) v r (hr.up (Nat.le_refl _) hz) (by omega) 0 0 (by omega) (by omega)
  have HQ : Hid ((identB a = false → createM R a r = (40, R)) ∧ (identB a = true → r.length ≠ 32 → createM R a r = (31, R)) ∧ (identB a = true → r.length = 32 → (getL R (kAcc a)).isSome = true → createM R a r = (111, R)) ∧ (identB a = true → r.length = 32 → (getL R (kAcc a)).isSome = false → createM R a r = (0, putA R a r 0 0))) := Lib.hid (by
    unfold createM
    refine ⟨fun h1 => by simp [h1], fun h1 h2 => by simp [h1, h2], fun h1 h2 h3 => by simp [h1, h2, h3], fun h1 h2 h3 => by simp [h1, h2, h3]⟩)
  obtain ⟨A, c, rfl⟩ := hr.form
  clear h hr s1 ha hn
  generalize createM R a r = q at *
  generalize identB a = ib at *
  generalize (getL R (kAcc a)).isSome = os at *
  generalize r.length = n at *
  go_enter Tryz.func19, Tryz.ntmps19
  go_wp2_with fail
  refine (HI.out _).mono ?_
  rintro e w1 ⟨rfl, rfl⟩
  cases ib
  · have hz := HA.out _ (Below.refl _ _)
    go_wp2_with fail
    go_ret
    rw [HQ.out.1 (by trivial)]
    exact ⟨rfl, hz, Kept.refl _⟩
  · by_cases hn : n = 32
    · have HP2 := Lib.hid (fun Z hz => HP.out Z hz rfl hn)
      have HQ2 := Lib.hid (And.intro (HQ.out.2.2.1 rfl hn) (HQ.out.2.2.2 rfl hn))
      subst hn
      clear HP HQ
      go_wp2_with fail
      refine (HK.out _).mono ?_
      rintro e w2 ⟨rfl, rfl⟩
      go_wp2_with fail
      refine HG.out.mono ?_
      rintro e w3 ⟨v3, rfl, ho3, hb3⟩
      obtain ⟨A3, c3, rfl⟩ := ho3.form
      clear ho3
      cases os
      · have HP3 := Lib.hid (HP2.out _ hb3)
        go_wp2_with fail
        refine HP3.out.mono ?_
        rintro e w4 ⟨rfl, A4, hk4⟩
        go_wp2_with fail
        go_ret
        rw [HQ2.out.2 (by trivial)]
        exact ⟨rfl, A4, (Kept.of_below hb3).trans hk4⟩
      · have hz := HA.out _ hb3
        go_wp2_with fail
        go_ret
        rw [HQ2.out.1 (by trivial)]
        exact ⟨rfl, hz, Kept.of_below hb3⟩
    · have hz := HA.out _ (Below.refl _ _)
      have hne : ((n : Int) != 32) = true := by simp; omega
      have HQ2 := Lib.hid (HQ.out.2.1 rfl hn)
      go_wp2_with fail
      go_ret
      rw [HQ2.out]
      exact ⟨rfl, hz, Kept.refl _⟩
end Go.Proofs.YtniclaapiabmdaaGreatDoor
namespace Go.Proofs.YtniclaapiabmdaaGreatDoor
set_option maxRecDepth 100000
open Go Go.RowKit
set_option linter.unusedVariables false

theorem getA_ok {R : List Pr} {a : ByteArray} {r : List UInt8} {b s : Nat} (h : getA R a = some (r, b, s)) : ∃ l, getL R (kAcc a) = some l ∧ r.length ≤ 65535 ∧ b < 18446744073709551616 ∧ s < 18446744073709551616 := by
  unfold getA at h
  cases e : getL R (kAcc a) with
  | none => rw [e] at h; cases h
  | some l =>
    rw [e] at h
    obtain ⟨h1, h2, h3⟩ := readA_ok (show readA l = some (r, b, s) from h)
    exact ⟨l, rfl, h1, h2, h3⟩
end Go.Proofs.YtniclaapiabmdaaGreatDoor
namespace Go.Proofs.YtniclaapiabmdaaGreatDoor
set_option maxRecDepth 100000
open Go Go.RowKit
set_option linter.unusedVariables false

def EarlyA (R : List Pr) (sg : ByteArray) (q : Nat) (z : Int) : Prop := (getA R sg = none ∧ z = 80) ∨ ((∃ r b s, getA R sg = some (r, b, s) ∧ q ≠ s) ∧ z = 81)
set_option maxHeartbeats 4000000 in
theorem acheck_early {W W' : World} {y : Lyr} {R : List Pr} {k : Nat} (h : Acc W y R k W') (ch sg : ByteArray) (hs : sg.size ≤ 100000000) (q : Nat) (z : Int) (hz : EarlyA R sg q z) :
    Calls Tryz.prog 9 #[.pointer (some ⟨y.b, 0, none⟩), .string ch, .agg #[.string sg, .int .u64 (q : Int), .int .u64 0, .int .u64 0, .int .u64 0, .int .u64 0, .int .u64 0, .slice none 0 0, .slice none 0 0]] W' fun e w' => e = .returned (.int .i64 z) ∧ Below W'.heap.size W' w' := by
  have HG := Lib.hid (fun (Z : World) (hb : Below W'.heap.size W' Z) => aget_any (h.up hb) sg hs)
  have HZ := Lib.hid hz
  have hbox := heap_alloc_new W' (.cells #[.string sg, .int .u64 (q : Int), .int .u64 0, .int .u64 0, .int .u64 0, .int .u64 0, .int .u64 0, .slice none 0 0, .slice none 0 0] 29)
  have ha0 : Below W'.heap.size W' (W'.alloc (.cells #[.string sg, .int .u64 (q : Int), .int .u64 0, .int .u64 0, .int .u64 0, .int .u64 0, .int .u64 0, .slice none 0 0, .slice none 0 0] 29)) := (Below.refl _ _).alloc (Nat.le_refl _) _
  clear h hs hz
  go_enter Tryz.func9, Tryz.ntmps9
  go_wp2_with fail
  generalize W'.alloc (.cells #[.string sg, .int .u64 (q : Int), .int .u64 0, .int .u64 0, .int .u64 0, .int .u64 0, .int .u64 0, .slice none 0 0, .slice none 0 0] 29) = W0 at *
  have HC : Hid (∀ Z, Below W0.heap.size W0 Z → Z.cell? ⟨W'.heap.size, 1, none⟩ = some (.int .u64 (q : Int))) := Lib.hid fun Z hb => blk_cell ((hb.block _ (blk_lt hbox)).trans hbox) 1
  refine (HG.out _ ha0).mono ?_
  rintro e w1 ⟨⟨v1, r1, b1, s1, hga, rfl, ho1⟩ | ⟨hga, rfl⟩, hb1⟩
  · have hne : ((q : Int) != (s1 : Int)) = true ∧ z = 81 := by
      rcases HZ.out with ⟨e1, -⟩ | ⟨⟨r, b, s, e1, e2⟩, e3⟩
      · rw [hga] at e1; cases e1
      · rw [hga] at e1
        injection e1 with e1
        injection e1 with _ e1
        injection e1 with _ e1
        subst e1
        exact ⟨by simp; omega, e3⟩
    obtain ⟨hne, rfl⟩ := hne
    obtain ⟨A1, c1, rfl⟩ := ho1.form
    generalize r1.length = n1 at *
    have hk1 := heap_alloc_new w1 (.cells #[.slice A1 n1 c1, .int .u64 (b1 : Int), .int .u64 (s1 : Int)] 38)
    have hb2 := hb1.alloc hb1.size (.cells #[.slice A1 n1 c1, .int .u64 (b1 : Int), .int .u64 (s1 : Int)] 38)
    have z0 := blk_cell hk1 0
    have z1 := blk_cell hk1 1
    have z2 := blk_cell hk1 2
    simp at z0 z1 z2
    have c1 := HC.out _ hb2
    have hq2 := below_chain ha0 ha0.size hb2
    clear ho1 hga hk1 HG HZ
    go_wp2_with fail
    go_ret
    exact ⟨rfl, hq2⟩
  · have hz : z = 80 := by
      rcases HZ.out with ⟨-, e1⟩ | ⟨⟨r, b, s, e1, e2⟩, e3⟩
      · exact e1
      · rw [hga] at e1; cases e1
    subst hz
    have hq2 := below_chain ha0 ha0.size (hb1.alloc hb1.size (.cells #[.slice none 0 0, .int .u64 0, .int .u64 0] 38))
    clear hga HG HZ
    go_wp2_with fail
    go_ret
    exact ⟨rfl, hq2⟩
set_option maxHeartbeats 4000000 in
theorem aante_early {W W' : World} {y : Lyr} {R : List Pr} {k : Nat} (h : Acc W y R k W') (ch sg : ByteArray) (hs : sg.size ≤ 100000000) (q : Nat) (z : Int) (hz : EarlyA R sg q z) :
    Calls Tryz.prog 10 #[.pointer (some ⟨y.b, 0, none⟩), .string ch, .agg #[.string sg, .int .u64 (q : Int), .int .u64 0, .int .u64 0, .int .u64 0, .int .u64 0, .int .u64 0, .slice none 0 0, .slice none 0 0]] W' fun e w' => e = .returned (.int .i64 z) ∧ Below W'.heap.size W' w' := by
  have HG := Lib.hid (fun (Z : World) (hb : Below W'.heap.size W' Z) => acheck_early (h.up hb) ch sg hs q z hz)
  have hne : (z != 0) = true := by rcases hz with ⟨-, rfl⟩ | ⟨-, rfl⟩ <;> rfl
  have hbox := heap_alloc_new W' (.cells #[.string sg, .int .u64 (q : Int), .int .u64 0, .int .u64 0, .int .u64 0, .int .u64 0, .int .u64 0, .slice none 0 0, .slice none 0 0] 29)
  have ha0 : Below W'.heap.size W' (W'.alloc (.cells #[.string sg, .int .u64 (q : Int), .int .u64 0, .int .u64 0, .int .u64 0, .int .u64 0, .int .u64 0, .slice none 0 0, .slice none 0 0] 29)) := (Below.refl _ _).alloc (Nat.le_refl _) _
  clear h hs hz
  go_enter Tryz.func10, Tryz.ntmps10
  go_wp2_with fail
  refine (HG.out _ ha0).mono ?_
  rintro e w1 ⟨rfl, hb1⟩
  have hq1 := below_chain ha0 ha0.size hb1
  clear HG
  go_wp2_with fail
  go_ret
  exact ⟨rfl, hq1⟩
end Go.Proofs.YtniclaapiabmdaaGreatDoor
namespace Go.Proofs.YtniclaapiabmdaaGreatDoor
set_option maxRecDepth 100000
open Go Go.RowKit
set_option linter.unusedVariables false

/-- a writer at block g whose row L lies in blocks from B on -/
def WrA (W : World) (B g : Nat) (L : List UInt8) : Prop := ∃ v, W.heap[g]? = some (.cells #[v] 158 (0, 0)) ∧ Own W B v L ∧ g < B ∧ B ≤ W.heap.size
def encW (s : ByteArray) : List UInt8 := encB (strBytes s)
theorem encB_lenW (m : List UInt8) : (encB m).length ≤ 65539 := by
  unfold encB
  simp [be_length]
  omega
theorem WrA.up {w w' : World} {B g : Nat} {L : List UInt8} (h : WrA w B g L) (hb : Below w.heap.size w w') : WrA w' B g L := by
  obtain ⟨v, h1, h2, h3, h4⟩ := h
  exact ⟨v, (hb.block _ (blk_lt h1)).trans h1, h2.below hb, h3, Nat.le_trans h4 hb.size⟩
end Go.Proofs.YtniclaapiabmdaaGreatDoor
namespace Go.Proofs.YtniclaapiabmdaaGreatDoor
set_option maxRecDepth 100000
open Go Go.RowKit
set_option linter.unusedVariables false

/-- a writer at block g, whose row is L; since W0 nothing has turned but what F names -/
structure WrX (F : Nat → Prop) (W0 W : World) (B g : Nat) (L : List UInt8) : Prop where
  v : ∃ v, W.heap[g]? = some (.cells #[v] 158 (0, 0)) ∧ Own W B v L ∧ ∀ k, v.ownBlock = some k → F k ∨ W0.heap.size ≤ k
  c : Chg W0 W F
  f : F g
  l : ∀ k, F k → g ≤ k
  gB : g < B
  bW : B ≤ W.heap.size
  gW : g < W0.heap.size
section
variable {F : Nat → Prop} {W0 w w' : World} {B g : Nat} {L : List UInt8}
theorem WrX.up (h : WrX F W0 w B g L) (hb : Below w.heap.size w w') : WrX F W0 w' B g L := by
  obtain ⟨⟨v, h1, h2, h3⟩, hc, hF, hFl, hgB, hBw, hgW⟩ := h
  exact ⟨⟨v, (hb.block _ (blk_lt h1)).trans h1, h2.below hb, h3⟩, hc.trans' (Chg.of_below hb F), hF, hFl, hgB, Nat.le_trans hBw hb.size, hgW⟩
theorem WrX.below (h : WrX F W0 w B g L) : Below g W0 w := h.c.below h.l (Nat.le_of_lt h.gW)
theorem WrX.wra (h : WrX F W0 w B g L) : WrA w B g L := by
  obtain ⟨⟨v, h1, h2, h3⟩, hc, hF, hFl, hgB, hBw, hgW⟩ := h
  exact ⟨v, h1, h2, hgB, hBw⟩
/-- a world of its own for what follows: blocks that came since are left alone, too -/
theorem WrX.open_ (h : WrX F W0 w B g L) : ∃ G : Nat → Prop, WrX G w w B g L ∧ (∀ k, G k → k < w.heap.size) ∧ (∀ w' L', WrX G w w' B g L' → WrX F W0 w' B g L') := by
  obtain ⟨⟨v, h1, h2, h3⟩, hc, hF, hFl, hgB, hBw, hgW⟩ := h
  refine ⟨fun k => k = g ∨ v.ownBlock = some k, ⟨⟨v, h1, h2, fun k e => .inl (.inr e)⟩, Chg.refl _ _, .inl rfl, fun k e => ?_, hgB, hBw, blk_lt h1⟩, fun k e => ?_, fun w' L' h' => ?_⟩
  · rcases e with rfl | e
    · exact Nat.le_refl _
    · have := (h2.lt k e).1; omega
  · rcases e with rfl | e
    · exact blk_lt h1
    · exact (h2.lt k e).2
  · obtain ⟨⟨v', k1, k2, k3⟩, kc, -, -, -, kb, -⟩ := h'
    refine ⟨⟨v', k1, k2, fun k e => ?_⟩, hc.trans (kc.mono fun k hk e => ?_), hF, hFl, hgB, kb, hgW⟩
    · rcases k3 k e with (rfl | e) | e
      · exact .inl hF
      · exact h3 k e
      · exact .inr (Nat.le_trans hc.size e)
    · rcases e with rfl | e
      · exact .inl hF
      · rcases h3 k e with e | e
        · exact .inl e
        · exact .inr ⟨e, hk⟩
/-- the same behind a box that is made -/
theorem WrX.box (h : WrX F W0 w B g L) (o : Obj) : ∃ G : Nat → Prop, WrX G (w.alloc o) (w.alloc o) B g L ∧ ¬ G w.heap.size ∧ (∀ w' L', WrX G (w.alloc o) w' B g L' → WrX F W0 w' B g L') := by
  obtain ⟨G, h1, h2, h3⟩ := h.open_
  have hb : Below w.heap.size w (w.alloc o) := (Below.refl _ _).alloc (Nat.le_refl _) _
  have h4 := h1.up hb
  obtain ⟨⟨v, k1, k2, k3⟩, kc, kF, kl, kgB, kb, kgW⟩ := h4
  refine ⟨G, ⟨⟨v, k1, k2, fun k e => ?_⟩, Chg.refl _ _, kF, kl, kgB, kb, blk_lt k1⟩, fun e => absurd (h2 _ e) (by omega), fun w' L' h' => h3 _ _ ?_⟩
  · obtain ⟨v0, j1, j2, j3⟩ := h1.v
    have : v0 = v := by
      have e0 := (hb.block _ (blk_lt j1)).trans j1
      have e1 := k1.symm.trans e0
      injection e1 with e1
      injection e1 with e1
      injection e1 with e1
      injection e1 with e1
      exact e1.symm
    subst this
    rcases j3 k e with e' | e'
    · exact .inl e'
    · exact absurd (j2.lt k e).2 (by omega)
  · obtain ⟨⟨v', m1, m2, m3⟩, mc, mF, ml, mgB, mb, mgW⟩ := h'
    have hs : w.heap.size ≤ (w.alloc o).heap.size := hb.size
    refine ⟨⟨v', m1, m2, fun k e => ?_⟩, (Chg.of_below hb G).trans' mc, mF, ml, mgB, mb, kgW⟩
    rcases m3 k e with e' | e'
    · exact .inl e'
    · exact .inr (Nat.le_trans hs e')
/-- a writer that is new -/
theorem WrX.new (w : World) : WrX (fun k => k = w.heap.size) (w.alloc (.cells #[.slice none 0 0] 158)) (w.alloc (.cells #[.slice none 0 0] 158)) (w.heap.size + 1) w.heap.size [] :=
  ⟨⟨_, heap_alloc_new w _, Own.nil _ _, fun k e => by cases e⟩, Chg.refl _ _, rfl, fun k e => Nat.le_of_eq e.symm, Nat.lt_succ_self _, by simp, by simp⟩
end
set_option maxHeartbeats 4000000 in
theorem wxn_any {F : Nat → Prop} {W0 w : World} {B g : Nat} {L : List UInt8} (h : WrX F W0 w B g L) (n : Nat) (hn : n < 18446744073709551616) (hl : L.length ≤ 100000000) :
    Calls Tryz.prog 129 #[.pointer (some ⟨g, 0, none⟩), .int .u64 (n : Int)] w fun e w' => e = .returned (.tuple #[]) ∧ WrX F W0 w' B g (L ++ be n 8) := by
  obtain ⟨i0, hi, hz, hsz, hby⟩ := info_parts Tryz.infoByte
  obtain ⟨⟨v, hb, ho, hvF⟩, hc, hF, hFl, hgB, hBw, hgW⟩ := h
  have HO := Lib.hid ho
  obtain ⟨A, c, rfl⟩ := ho.form
  have hob : ∀ k, (Value.slice A L.length c).ownBlock = some k → g < k ∧ k < w.heap.size := fun k e => by have := ho.lt _ e; omega
  have HOB := Lib.hid hob
  have HX := Lib.hid (And.intro hvF (And.intro hc (And.intro hF (And.intro hFl hgW))))
  have HB := Lib.hid hb
  have hfl := blk_lt hb
  have hm : (be n 8).length ≤ 65600 := by simp [be_length]
  have HC : Hid (∀ Z : World, Below w.heap.size w Z → Calls Tryz.prog 91 #[.slice none 0 0, .int .u64 (n : Int)] Z fun e w' => ∃ v', e = .returned v' ∧ Own w' Z.heap.size v' (be n 8) ∧ Below Z.heap.size Z w') := Lib.hid fun Z hz => by
    have := N_any (.slice none 0 0) [] n Z (Rd.nil _ _) hn (by simp)
    rwa [List.nil_append] at this
  generalize be n 8 = M at *
  obtain ⟨n0, hn0⟩ : ∃ n0, n0 = L.length := ⟨_, rfl⟩
  rw [← hn0] at HO HB HOB HX
  have HL := Lib.hid hn0
  have x0 : w.cell? ⟨g, 0, none⟩ = some (.slice A n0 c) := blk_cell HB.out 0
  clear ho hob hb hn0 hvF hc hF hFl hgW
  go_enter Tryz.func129, Tryz.ntmps129
  go_wp2_with fail
  have hd0 : Below w.heap.size w w.drew := Below.drew (Below.refl _ _)
  have xd : w.drew.cell? ⟨g, 0, none⟩ = some (.slice A n0 c) := x0
  go_region_law (first
    | (go_simp; (with_reducible refine (HC.out _ hd0).mono ?_); rintro e w1 ⟨v1, rfl, ho1, hb1⟩; dsimp only; have hb01 : Below w.heap.size w w1 := below_chain hd0 (Nat.le_refl _) hb1; have hg1 := (hb01.block _ hfl).trans HB.out; have x1 : w1.cell? ⟨g, 0, none⟩ = some (.slice A n0 c) := blk_cell hg1 0; have hO1 : Own w1 B (.slice A n0 c) L := HO.out.below hb01; have hs1 := hb01.size)
    | (refine wp_append_rd (v := .slice A n0 c) (.tmp 8) (.tmp 10) _ rfl i0 Tryz.underlying27 hi hz hsz hby rfl hO1 rfl ho1.rd (by omega) (Nat.le_trans hBw hs1) ?_; intro v2 w2 ho2 hg2 hat2; have hgB2 : w2.heap[g]? = some (.cells #[.slice A n0 c] 158 (0, 0)) := (hg2.block _ (Nat.lt_of_lt_of_le hfl hs1) (fun e => by have := HOB.out _ e.symm; omega)).trans hg1; have x2 := blk_cell hgB2 0; have f2 := blk_free hgB2 0; obtain ⟨A2, c2, hv2⟩ := ho2.form; subst hv2)
    | fail)
  all_goals
    have hset := blk_set hgB2 0 (.slice A2 (L.length + M.length) c2)
    have hown : Own (w2.setCell ⟨g, 0, none⟩ (.slice A2 (L.length + M.length) c2)) B (.slice A2 (L.length + M.length) c2) (L ++ M) := by
      have h9 := ho2.grown (grown_setR w2 g 0 (.slice A2 (L.length + M.length) c2)) (Or.inr (fun e => by have := (ho2.lt _ e).1; omega))
      rw [List.length_append] at h9
      exact h9
    have hcc : Chg W0 (w2.setCell ⟨g, 0, none⟩ (.slice A2 (L.length + M.length) c2)) F :=
      ((HX.out.2.1.trans' (Chg.of_below hb01 F)).trans (Chg.of_grown hg2 (fun k e => by
        rcases HX.out.1 k e with h | h
        · exact .inl h
        · exact .inr ⟨h, by have := (HOB.out k e).2; omega⟩))).trans' (Chg.set _ HX.out.2.2.1 _)
    have hvv : ∀ k, (Value.slice A2 (L.length + M.length) c2).ownBlock = some k → F k ∨ W0.heap.size ≤ k := fun k e => by
      rcases hat2 with h | h
      · rw [List.length_append] at h
        exact HX.out.1 k (h.symm.trans e)
      · rw [List.length_append] at h
        have := h.symm.trans e
        injection this with this
        right
        have h1 := HX.out.2.1.size
        omega
    have HF := Lib.hid (And.intro hset (And.intro hown (And.intro hcc (And.intro hvv (Nat.le_trans (Nat.le_trans hBw hs1) hg2.size)))))
    clear hset hown ho2 hO1 ho1 hgB2 hg1 hcc hvv hat2
    go_wp2_with fail
    go_end0
    exact ⟨rfl, ⟨⟨_, by simpa using HF.out.1, HF.out.2.1, HF.out.2.2.2.1⟩, HF.out.2.2.1, HX.out.2.2.1, HX.out.2.2.2.1, hgB, by simpa using HF.out.2.2.2.2, HX.out.2.2.2.2⟩⟩
set_option maxHeartbeats 4000000 in
theorem wxt_any {F : Nat → Prop} {W0 w : World} {B g : Nat} {L : List UInt8} (h : WrX F W0 w B g L) (s : ByteArray) (hs : s.size ≤ maxLen) (hl : L.length ≤ 100000000) :
    Calls Tryz.prog 128 #[.pointer (some ⟨g, 0, none⟩), .string s] w fun e w' => e = .returned (.tuple #[]) ∧ WrX F W0 w' B g (L ++ encW s) := by
  obtain ⟨i0, hi, hz, hsz, hby⟩ := info_parts Tryz.infoByte
  obtain ⟨⟨v, hb, ho, hvF⟩, hc, hF, hFl, hgB, hBw, hgW⟩ := h
  have HO := Lib.hid ho
  obtain ⟨A, c, rfl⟩ := ho.form
  have hob : ∀ k, (Value.slice A L.length c).ownBlock = some k → g < k ∧ k < w.heap.size := fun k e => by have := ho.lt _ e; omega
  have HOB := Lib.hid hob
  have HX := Lib.hid (And.intro hvF (And.intro hc (And.intro hF (And.intro hFl hgW))))
  have HB := Lib.hid hb
  have hfl := blk_lt hb
  have hm : (encW s).length ≤ 65600 := Nat.le_trans (encB_lenW _) (by decide)
  have HC : Hid (∀ Z : World, Below w.heap.size w Z → Calls Tryz.prog 78 #[.slice none 0 0, .string s] Z fun e w' => ∃ v', e = .returned v' ∧ Own w' Z.heap.size v' (encW s) ∧ Below Z.heap.size Z w') := Lib.hid fun Z hz => by
    exact (T_any (.slice none 0 0) s [] Z (Rd.nil _ _) hs (by simp)).mono fun e w' ⟨v', h1, h2, h3⟩ => ⟨v', h1, by rw [List.nil_append] at h2; exact h2, h3⟩
  generalize encW s = M at *
  obtain ⟨n0, hn0⟩ : ∃ n0, n0 = L.length := ⟨_, rfl⟩
  rw [← hn0] at HO HB HOB HX
  have HL := Lib.hid hn0
  have x0 : w.cell? ⟨g, 0, none⟩ = some (.slice A n0 c) := blk_cell HB.out 0
  clear ho hob hb hn0 hvF hc hF hFl hgW
  go_enter Tryz.func128, Tryz.ntmps128
  go_wp2_with fail
  have hd0 : Below w.heap.size w w.drew := Below.drew (Below.refl _ _)
  have xd : w.drew.cell? ⟨g, 0, none⟩ = some (.slice A n0 c) := x0
  go_region_law (first
    | (go_simp; (with_reducible refine (HC.out _ hd0).mono ?_); rintro e w1 ⟨v1, rfl, ho1, hb1⟩; dsimp only; have hb01 : Below w.heap.size w w1 := below_chain hd0 (Nat.le_refl _) hb1; have hg1 := (hb01.block _ hfl).trans HB.out; have x1 : w1.cell? ⟨g, 0, none⟩ = some (.slice A n0 c) := blk_cell hg1 0; have hO1 : Own w1 B (.slice A n0 c) L := HO.out.below hb01; have hs1 := hb01.size)
    | (refine wp_append_rd (v := .slice A n0 c) (.tmp 8) (.tmp 10) _ rfl i0 Tryz.underlying27 hi hz hsz hby rfl hO1 rfl ho1.rd (by omega) (Nat.le_trans hBw hs1) ?_; intro v2 w2 ho2 hg2 hat2; have hgB2 : w2.heap[g]? = some (.cells #[.slice A n0 c] 158 (0, 0)) := (hg2.block _ (Nat.lt_of_lt_of_le hfl hs1) (fun e => by have := HOB.out _ e.symm; omega)).trans hg1; have x2 := blk_cell hgB2 0; have f2 := blk_free hgB2 0; obtain ⟨A2, c2, hv2⟩ := ho2.form; subst hv2)
    | fail)
  all_goals
    have hset := blk_set hgB2 0 (.slice A2 (L.length + M.length) c2)
    have hown : Own (w2.setCell ⟨g, 0, none⟩ (.slice A2 (L.length + M.length) c2)) B (.slice A2 (L.length + M.length) c2) (L ++ M) := by
      have h9 := ho2.grown (grown_setR w2 g 0 (.slice A2 (L.length + M.length) c2)) (Or.inr (fun e => by have := (ho2.lt _ e).1; omega))
      rw [List.length_append] at h9
      exact h9
    have hcc : Chg W0 (w2.setCell ⟨g, 0, none⟩ (.slice A2 (L.length + M.length) c2)) F :=
      ((HX.out.2.1.trans' (Chg.of_below hb01 F)).trans (Chg.of_grown hg2 (fun k e => by
        rcases HX.out.1 k e with h | h
        · exact .inl h
        · exact .inr ⟨h, by have := (HOB.out k e).2; omega⟩))).trans' (Chg.set _ HX.out.2.2.1 _)
    have hvv : ∀ k, (Value.slice A2 (L.length + M.length) c2).ownBlock = some k → F k ∨ W0.heap.size ≤ k := fun k e => by
      rcases hat2 with h | h
      · rw [List.length_append] at h
        exact HX.out.1 k (h.symm.trans e)
      · rw [List.length_append] at h
        have := h.symm.trans e
        injection this with this
        right
        have h1 := HX.out.2.1.size
        omega
    have HF := Lib.hid (And.intro hset (And.intro hown (And.intro hcc (And.intro hvv (Nat.le_trans (Nat.le_trans hBw hs1) hg2.size)))))
    clear hset hown ho2 hO1 ho1 hgB2 hg1 hcc hvv hat2
    go_wp2_with fail
    go_end0
    exact ⟨rfl, ⟨⟨_, by simpa using HF.out.1, HF.out.2.1, HF.out.2.2.2.1⟩, HF.out.2.2.1, HX.out.2.2.1, HX.out.2.2.2.1, hgB, by simpa using HF.out.2.2.2.2, HX.out.2.2.2.2⟩⟩
set_option maxHeartbeats 4000000 in
theorem wxb_any {F : Nat → Prop} {W0 w : World} {B g : Nat} {L : List UInt8} (h : WrX F W0 w B g L) (Ax : Option Addr) (nx cx : Nat) (m : List UInt8) (hr : Rd w w.heap.size (.slice Ax nx cx) m) (hl : L.length ≤ 100000000) :
    Calls Tryz.prog 132 #[.pointer (some ⟨g, 0, none⟩), .slice Ax nx cx] w fun e w' => e = .returned (.tuple #[]) ∧ WrX F W0 w' B g (L ++ encB m) := by
  obtain ⟨i0, hi, hz, hsz, hby⟩ := info_parts Tryz.infoByte
  obtain ⟨⟨v, hb, ho, hvF⟩, hc, hF, hFl, hgB, hBw, hgW⟩ := h
  have HO := Lib.hid ho
  obtain ⟨A, c, rfl⟩ := ho.form
  have hob : ∀ k, (Value.slice A L.length c).ownBlock = some k → g < k ∧ k < w.heap.size := fun k e => by have := ho.lt _ e; omega
  have HOB := Lib.hid hob
  have HX := Lib.hid (And.intro hvF (And.intro hc (And.intro hF (And.intro hFl hgW))))
  have HB := Lib.hid hb
  have hfl := blk_lt hb
  have hm : (encB m).length ≤ 65600 := Nat.le_trans (encB_lenW _) (by decide)
  have HC : Hid (∀ Z : World, Below w.heap.size w Z → Calls Tryz.prog 77 #[.slice none 0 0, .slice Ax nx cx] Z fun e w' => ∃ v', e = .returned v' ∧ Own w' Z.heap.size v' (encB m) ∧ Below Z.heap.size Z w') := Lib.hid fun Z hz => by
    exact (B_any (.slice none 0 0) (.slice Ax nx cx) [] m Z (Rd.nil _ _) (hr.up (Nat.le_refl _) hz) (by simp)).mono fun e w' ⟨v', h1, h2, h3⟩ => ⟨v', h1, by rw [List.nil_append] at h2; exact h2, h3⟩
  generalize encB m = M at *
  obtain ⟨n0, hn0⟩ : ∃ n0, n0 = L.length := ⟨_, rfl⟩
  rw [← hn0] at HO HB HOB HX
  have HL := Lib.hid hn0
  have x0 : w.cell? ⟨g, 0, none⟩ = some (.slice A n0 c) := blk_cell HB.out 0
  clear ho hob hb hn0 hvF hc hF hFl hgW
  go_enter Tryz.func132, Tryz.ntmps132
  go_wp2_with fail
  have hd0 : Below w.heap.size w w.drew := Below.drew (Below.refl _ _)
  have xd : w.drew.cell? ⟨g, 0, none⟩ = some (.slice A n0 c) := x0
  go_region_law (first
    | (go_simp; (with_reducible refine (HC.out _ hd0).mono ?_); rintro e w1 ⟨v1, rfl, ho1, hb1⟩; dsimp only; have hb01 : Below w.heap.size w w1 := below_chain hd0 (Nat.le_refl _) hb1; have hg1 := (hb01.block _ hfl).trans HB.out; have x1 : w1.cell? ⟨g, 0, none⟩ = some (.slice A n0 c) := blk_cell hg1 0; have hO1 : Own w1 B (.slice A n0 c) L := HO.out.below hb01; have hs1 := hb01.size)
    | (refine wp_append_rd (v := .slice A n0 c) (.tmp 8) (.tmp 10) _ rfl i0 Tryz.underlying27 hi hz hsz hby rfl hO1 rfl ho1.rd (by omega) (Nat.le_trans hBw hs1) ?_; intro v2 w2 ho2 hg2 hat2; have hgB2 : w2.heap[g]? = some (.cells #[.slice A n0 c] 158 (0, 0)) := (hg2.block _ (Nat.lt_of_lt_of_le hfl hs1) (fun e => by have := HOB.out _ e.symm; omega)).trans hg1; have x2 := blk_cell hgB2 0; have f2 := blk_free hgB2 0; obtain ⟨A2, c2, hv2⟩ := ho2.form; subst hv2)
    | fail)
  all_goals
    have hset := blk_set hgB2 0 (.slice A2 (L.length + M.length) c2)
    have hown : Own (w2.setCell ⟨g, 0, none⟩ (.slice A2 (L.length + M.length) c2)) B (.slice A2 (L.length + M.length) c2) (L ++ M) := by
      have h9 := ho2.grown (grown_setR w2 g 0 (.slice A2 (L.length + M.length) c2)) (Or.inr (fun e => by have := (ho2.lt _ e).1; omega))
      rw [List.length_append] at h9
      exact h9
    have hcc : Chg W0 (w2.setCell ⟨g, 0, none⟩ (.slice A2 (L.length + M.length) c2)) F :=
      ((HX.out.2.1.trans' (Chg.of_below hb01 F)).trans (Chg.of_grown hg2 (fun k e => by
        rcases HX.out.1 k e with h | h
        · exact .inl h
        · exact .inr ⟨h, by have := (HOB.out k e).2; omega⟩))).trans' (Chg.set _ HX.out.2.2.1 _)
    have hvv : ∀ k, (Value.slice A2 (L.length + M.length) c2).ownBlock = some k → F k ∨ W0.heap.size ≤ k := fun k e => by
      rcases hat2 with h | h
      · rw [List.length_append] at h
        exact HX.out.1 k (h.symm.trans e)
      · rw [List.length_append] at h
        have := h.symm.trans e
        injection this with this
        right
        have h1 := HX.out.2.1.size
        omega
    have HF := Lib.hid (And.intro hset (And.intro hown (And.intro hcc (And.intro hvv (Nat.le_trans (Nat.le_trans hBw hs1) hg2.size)))))
    clear hset hown ho2 hO1 ho1 hgB2 hg1 hcc hvv hat2
    go_wp2_with fail
    go_end0
    exact ⟨rfl, ⟨⟨_, by simpa using HF.out.1, HF.out.2.1, HF.out.2.2.2.1⟩, HF.out.2.2.1, HX.out.2.2.1, HX.out.2.2.2.1, hgB, by simpa using HF.out.2.2.2.2, HX.out.2.2.2.2⟩⟩
set_option maxHeartbeats 4000000 in
theorem wxf_any {F : Nat → Prop} {W0 w : World} {B g : Nat} {L : List UInt8} (h : WrX F W0 w B g L) (yes : Bool) (hl : L.length ≤ 100000000) :
    Calls Tryz.prog 169 #[.pointer (some ⟨g, 0, none⟩), .bool yes] w fun e w' => e = .returned (.tuple #[]) ∧ WrX F W0 w' B g (L ++ [fb yes]) := by
  obtain ⟨i0, hi, hz, hsz, hby⟩ := info_parts Tryz.infoByte
  obtain ⟨⟨v, hb, ho, hvF⟩, hc, hF, hFl, hgB, hBw, hgW⟩ := h
  have HO := Lib.hid ho
  obtain ⟨A, c, rfl⟩ := ho.form
  have hob : ∀ k, (Value.slice A L.length c).ownBlock = some k → g < k ∧ k < w.heap.size := fun k e => by have := ho.lt _ e; omega
  have HOB := Lib.hid hob
  have HX := Lib.hid (And.intro hvF (And.intro hc (And.intro hF (And.intro hFl hgW))))
  have HB := Lib.hid hb
  have hfl := blk_lt hb
  have hm : ([fb yes]).length ≤ 65600 := by simp
  have HC : Hid (∀ Z : World, Below w.heap.size w Z → Calls Tryz.prog 196 #[.slice none 0 0, .bool yes] Z fun e w' => ∃ v', e = .returned v' ∧ Own w' Z.heap.size v' ([fb yes]) ∧ Below Z.heap.size Z w') := Lib.hid fun Z hz => by
    have := F_any (.slice none 0 0) yes [] Z (Rd.nil _ _) (by simp)
    rwa [List.nil_append] at this
  generalize [fb yes] = M at *
  obtain ⟨n0, hn0⟩ : ∃ n0, n0 = L.length := ⟨_, rfl⟩
  rw [← hn0] at HO HB HOB HX
  have HL := Lib.hid hn0
  have x0 : w.cell? ⟨g, 0, none⟩ = some (.slice A n0 c) := blk_cell HB.out 0
  clear ho hob hb hn0 hvF hc hF hFl hgW
  go_enter Tryz.func169, Tryz.ntmps169
  go_wp2_with fail
  have hd0 : Below w.heap.size w w.drew := Below.drew (Below.refl _ _)
  have xd : w.drew.cell? ⟨g, 0, none⟩ = some (.slice A n0 c) := x0
  go_region_law (first
    | (go_simp; (with_reducible refine (HC.out _ hd0).mono ?_); rintro e w1 ⟨v1, rfl, ho1, hb1⟩; dsimp only; have hb01 : Below w.heap.size w w1 := below_chain hd0 (Nat.le_refl _) hb1; have hg1 := (hb01.block _ hfl).trans HB.out; have x1 : w1.cell? ⟨g, 0, none⟩ = some (.slice A n0 c) := blk_cell hg1 0; have hO1 : Own w1 B (.slice A n0 c) L := HO.out.below hb01; have hs1 := hb01.size)
    | (refine wp_append_rd (v := .slice A n0 c) (.tmp 8) (.tmp 10) _ rfl i0 Tryz.underlying27 hi hz hsz hby rfl hO1 rfl ho1.rd (by omega) (Nat.le_trans hBw hs1) ?_; intro v2 w2 ho2 hg2 hat2; have hgB2 : w2.heap[g]? = some (.cells #[.slice A n0 c] 158 (0, 0)) := (hg2.block _ (Nat.lt_of_lt_of_le hfl hs1) (fun e => by have := HOB.out _ e.symm; omega)).trans hg1; have x2 := blk_cell hgB2 0; have f2 := blk_free hgB2 0; obtain ⟨A2, c2, hv2⟩ := ho2.form; subst hv2)
    | fail)
  all_goals
    have hset := blk_set hgB2 0 (.slice A2 (L.length + M.length) c2)
    have hown : Own (w2.setCell ⟨g, 0, none⟩ (.slice A2 (L.length + M.length) c2)) B (.slice A2 (L.length + M.length) c2) (L ++ M) := by
      have h9 := ho2.grown (grown_setR w2 g 0 (.slice A2 (L.length + M.length) c2)) (Or.inr (fun e => by have := (ho2.lt _ e).1; omega))
      rw [List.length_append] at h9
      exact h9
    have hcc : Chg W0 (w2.setCell ⟨g, 0, none⟩ (.slice A2 (L.length + M.length) c2)) F :=
      ((HX.out.2.1.trans' (Chg.of_below hb01 F)).trans (Chg.of_grown hg2 (fun k e => by
        rcases HX.out.1 k e with h | h
        · exact .inl h
        · exact .inr ⟨h, by have := (HOB.out k e).2; omega⟩))).trans' (Chg.set _ HX.out.2.2.1 _)
    have hvv : ∀ k, (Value.slice A2 (L.length + M.length) c2).ownBlock = some k → F k ∨ W0.heap.size ≤ k := fun k e => by
      rcases hat2 with h | h
      · rw [List.length_append] at h
        exact HX.out.1 k (h.symm.trans e)
      · rw [List.length_append] at h
        have := h.symm.trans e
        injection this with this
        right
        have h1 := HX.out.2.1.size
        omega
    have HF := Lib.hid (And.intro hset (And.intro hown (And.intro hcc (And.intro hvv (Nat.le_trans (Nat.le_trans hBw hs1) hg2.size)))))
    clear hset hown ho2 hO1 ho1 hgB2 hg1 hcc hvv hat2
    go_wp2_with fail
    go_end0
    exact ⟨rfl, ⟨⟨_, by simpa using HF.out.1, HF.out.2.1, HF.out.2.2.2.1⟩, HF.out.2.2.1, HX.out.2.2.1, HX.out.2.2.2.1, hgB, by simpa using HF.out.2.2.2.2, HX.out.2.2.2.2⟩⟩
set_option maxHeartbeats 4000000 in
theorem wxu_any {F : Nat → Prop} {W0 w : World} {B g : Nat} {L : List UInt8} (h : WrX F W0 w B g L) (x : U4) (hx : x.ok) (hl : L.length ≤ 100000000) :
    Calls Tryz.prog 130 #[.pointer (some ⟨g, 0, none⟩), x.val] w fun e w' => e = .returned (.tuple #[]) ∧ WrX F W0 w' B g (L ++ encB (be x.nat 32)) := by
  have hbox := heap_alloc_new w (.cells #[.int .u64 (x.a : Int), .int .u64 (x.b : Int), .int .u64 (x.c : Int), .int .u64 (x.d : Int)] 25)
  have ha0 : Below w.heap.size w (w.alloc (.cells #[.int .u64 (x.a : Int), .int .u64 (x.b : Int), .int .u64 (x.c : Int), .int .u64 (x.d : Int)] 25)) := (Below.refl _ _).alloc (Nat.le_refl _) _
  have HB := Lib.hid (fun Z : World => bytes_any x Z hx)
  have h0 := h.up ha0
  generalize hW0 : w.alloc (.cells #[.int .u64 (x.a : Int), .int .u64 (x.b : Int), .int .u64 (x.c : Int), .int .u64 (x.d : Int)] 25) = W1 at *
  have c0 := blk_cell hbox 0
  have c1 := blk_cell hbox 1
  have c2 := blk_cell hbox 2
  have c3 := blk_cell hbox 3
  unfold U4.val U4.cells at *
  generalize be x.nat 32 = M at *
  clear h hx hbox
  go_enter Tryz.func130, Tryz.ntmps130
  go_wp2_with fail
  try rw [hW0]
  clear hW0
  refine (HB.out _).mono ?_
  rintro e w1 ⟨v1, rfl, ho1, hb1⟩
  have h1 := h0.up hb1
  have hr1 := ho1.rd
  obtain ⟨A1, k1, rfl⟩ := ho1.form
  have HW := Lib.hid (wxb_any h1 A1 M.length k1 M hr1 hl)
  clear HB h0 c0 c1 c2 c3 ho1 hr1 h1 ha0 hb1
  generalize M.length = n1 at *
  go_wp2_with fail
  refine HW.out.mono ?_
  rintro e w2 ⟨rfl, h2⟩
  go_wp2_with fail
  go_end0
  exact ⟨rfl, h2⟩
end Go.Proofs.YtniclaapiabmdaaGreatDoor
namespace Go.Proofs.YtniclaapiabmdaaGreatDoor
set_option maxRecDepth 100000
open Go

structure VD where
  name : ByteArray
  power : Nat

def VD.key (x : VD) : List UInt8 := x.name.data.toList
def okV (x : VD) : Bool := identL x.key && decide (1 ≤ x.power) && decide (x.power ≤ 4294967296)
def lessV (x y : VD) : Bool := Op.bytesLess x.name.toList y.name.toList
/-- is what stands at a place as it must be? -/
def goodAt (l : List VD) : Nat → Bool
  | 0 => (l[0]?).any okV
  | j + 1 => (l[j + 1]?).any fun x => okV x && (l[j]?).any fun y => lessV y x
def rightB (l : List VD) : Bool := decide (1 ≤ l.length) && decide (l.length ≤ 8) && (List.range l.length).all (goodAt l)

/-- the power of those whose name has a property -/
def vsum (p : List UInt8 → Bool) (l : List VD) : Nat := (l.map fun x => if p x.key = true then x.power else 0).sum
def powerN (l : List VD) : Nat := vsum (fun _ => true) l
def votedN (l : List VD) (votes : List (List UInt8)) : Nat := vsum (fun k => votes.contains k) l

def quorumB (l : List VD) (votes : List (List UInt8)) : Bool := rightB l && decide (2 * powerN l < 3 * votedN l votes)
def thirdB (l : List VD) (votes : List (List UInt8)) : Bool := rightB l && decide (powerN l < 3 * votedN l votes)

end Go.Proofs.YtniclaapiabmdaaGreatDoor
namespace Go.Proofs.YtniclaapiabmdaaGreatDoor
set_option maxRecDepth 100000
open Go Go.RowKit

def VD.fits (x : VD) : Prop := x.name.size ≤ maxLen ∧ x.power < 18446744073709551616
def ValAt (w : World) (b o : Nat) (x : VD) : Prop := w.cell? ⟨b, o, none⟩ = some (.string x.name) ∧ w.cell? ⟨b, o + 1, none⟩ = some (.int .u64 (x.power : Int))
/-- the slice value v reads as the validators l, in blocks below B -/
def ValsAt (w : World) (B : Nat) (v : Value) (l : List VD) : Prop :=
  ∃ A c, v = .slice A l.length c ∧ l.length ≤ c ∧ c ≤ maxLen ∧ (∀ x ∈ l, x.fits) ∧
    (0 < l.length → ∃ b o, A = some ⟨b, o, none⟩ ∧ b < B ∧ ∀ j (h : j < l.length), ValAt w b (o + j * 2) l[j])
/-- the slice value v reads as the texts l, in blocks below B -/
def StrsAt (w : World) (B : Nat) (v : Value) (l : List ByteArray) : Prop :=
  ∃ A c, v = .slice A l.length c ∧ l.length ≤ c ∧ c ≤ maxLen ∧ (∀ x ∈ l, x.size ≤ maxLen) ∧
    (0 < l.length → ∃ b o, A = some ⟨b, o, none⟩ ∧ b < B ∧ ∀ j (h : j < l.length), w.cell? ⟨b, o + j, none⟩ = some (.string l[j]))

section
variable {w w' : World} {B B' : Nat} {v : Value}
theorem ValsAt.below {l : List VD} (h : ValsAt w B v l) (hk : Below B w w') : ValsAt w' B v l := by
  obtain ⟨A, c, hv, hc, hm, hf, hp⟩ := h
  refine ⟨A, c, hv, hc, hm, hf, fun h0 => ?_⟩
  obtain ⟨b, o, hA, hb, ha⟩ := hp h0
  exact ⟨b, o, hA, hb, fun j hj => ⟨(hk.cell (p := ⟨b, o + j * 2, none⟩) hb).trans (ha j hj).1, (hk.cell (p := ⟨b, o + j * 2 + 1, none⟩) hb).trans (ha j hj).2⟩⟩
theorem ValsAt.more {l : List VD} (h : ValsAt w B v l) (hB : B ≤ B') : ValsAt w B' v l := by
  obtain ⟨A, c, hv, hc, hm, hf, hp⟩ := h
  refine ⟨A, c, hv, hc, hm, hf, fun h0 => ?_⟩
  obtain ⟨b, o, hA, hb, ha⟩ := hp h0
  exact ⟨b, o, hA, by omega, ha⟩
theorem ValsAt.up {l : List VD} (h : ValsAt w B v l) (hB : B ≤ w.heap.size) (hb : Below w.heap.size w w') : ValsAt w' w'.heap.size v l := ((h.more hB).below hb).more hb.size
theorem StrsAt.below {l : List ByteArray} (h : StrsAt w B v l) (hk : Below B w w') : StrsAt w' B v l := by
  obtain ⟨A, c, hv, hc, hm, hf, hp⟩ := h
  refine ⟨A, c, hv, hc, hm, hf, fun h0 => ?_⟩
  obtain ⟨b, o, hA, hb, ha⟩ := hp h0
  exact ⟨b, o, hA, hb, fun j hj => (hk.cell (p := ⟨b, o + j, none⟩) hb).trans (ha j hj)⟩
theorem StrsAt.more {l : List ByteArray} (h : StrsAt w B v l) (hB : B ≤ B') : StrsAt w B' v l := by
  obtain ⟨A, c, hv, hc, hm, hf, hp⟩ := h
  refine ⟨A, c, hv, hc, hm, hf, fun h0 => ?_⟩
  obtain ⟨b, o, hA, hb, ha⟩ := hp h0
  exact ⟨b, o, hA, by omega, ha⟩
theorem StrsAt.up {l : List ByteArray} (h : StrsAt w B v l) (hB : B ≤ w.heap.size) (hb : Below w.heap.size w w') : StrsAt w' w'.heap.size v l := ((h.more hB).below hb).more hb.size
theorem StrsAt.nil (w : World) (B : Nat) : StrsAt w B (.slice none 0 0) [] := ⟨none, 0, rfl, Nat.le_refl _, Nat.zero_le _, fun _ h => absurd h (by simp), fun h => absurd h (by simp)⟩
theorem StrsAt.form {l : List ByteArray} (h : StrsAt w B v l) : ∃ A c, v = .slice A l.length c := by obtain ⟨A, c, h, _⟩ := h; exact ⟨A, c, h⟩
theorem ValsAt.form {l : List VD} (h : ValsAt w B v l) : ∃ A c, v = .slice A l.length c := by obtain ⟨A, c, h, _⟩ := h; exact ⟨A, c, h⟩
end

def keysOf (l : List ByteArray) : List (List UInt8) := l.map fun s => s.data.toList
end Go.Proofs.YtniclaapiabmdaaGreatDoor
namespace Go.Proofs.YtniclaapiabmdaaGreatDoor
set_option maxRecDepth 100000
open Go Go.RowKit
set_option linter.unusedVariables false

structure OrdV where
  t : ByteArray
  d : ByteArray
  x : U4
def OrdV.cells (o : OrdV) : Array Value := #[.string o.t, .string o.d, .int .u64 (o.x.a : Int), .int .u64 (o.x.b : Int), .int .u64 (o.x.c : Int), .int .u64 (o.x.d : Int)]
def OrdsAt (W : World) (v : Value) (l : List OrdV) : Prop := ∃ A c, v = .slice A l.length c ∧ (0 < l.length → ∃ b o, A = some ⟨b, o, none⟩ ∧ b < W.heap.size ∧
  ∀ (j : Nat) (h : j < l.length) (i : Nat) (u : Value), i < 6 → l[j].cells[i]? = some u → W.cell? ⟨b, o + j * 6 + i, none⟩ = some u)
theorem OrdsAt.keptX {W W' : World} {v : Value} {l : List OrdV} (h : OrdsAt W v l) (hk : Kept W W') : OrdsAt W' v l := by
  obtain ⟨A, c, rfl, hc⟩ := h
  refine ⟨A, c, rfl, fun h0 => ?_⟩
  obtain ⟨b, o, rfl, hb1, hcell⟩ := hc h0
  have hs : W.heap.size ≤ W'.heap.size := by obtain ⟨F, h1, _⟩ := hk; exact h1.size
  exact ⟨b, o, rfl, Nat.lt_of_lt_of_le hb1 hs, fun j hj i u hi hu => hk.cell (hcell j hj i u hi hu)⟩
end Go.Proofs.YtniclaapiabmdaaGreatDoor
namespace Go.Proofs.YtniclaapiabmdaaGreatDoor
set_option maxRecDepth 100000
open Go Go.RowKit
set_option linter.unusedVariables false

section
variable {W W' : World} {v : Value}
theorem Kept.sizeM (h : Kept W W') : W.heap.size ≤ W'.heap.size := by obtain ⟨F, h1, _⟩ := h; exact h1.size
theorem ValsAt.keptM {l : List VD} (h : ValsAt W W.heap.size v l) (hk : Kept W W') : ValsAt W' W'.heap.size v l := by
  obtain ⟨A, c, hv, hc, hm, hf, hp⟩ := h
  refine ⟨A, c, hv, hc, hm, hf, fun h0 => ?_⟩
  obtain ⟨b, o, hA, hb, ha⟩ := hp h0
  exact ⟨b, o, hA, Nat.lt_of_lt_of_le hb hk.sizeM, fun j hj => ⟨hk.cell (ha j hj).1, hk.cell (ha j hj).2⟩⟩
theorem StrsAt.keptM {l : List ByteArray} (h : StrsAt W W.heap.size v l) (hk : Kept W W') : StrsAt W' W'.heap.size v l := by
  obtain ⟨A, c, hv, hc, hm, hf, hp⟩ := h
  refine ⟨A, c, hv, hc, hm, hf, fun h0 => ?_⟩
  obtain ⟨b, o, hA, hb, ha⟩ := hp h0
  exact ⟨b, o, hA, Nat.lt_of_lt_of_le hb hk.sizeM, fun j hj => hk.cell (ha j hj)⟩
theorem PathV.keptM {ps : List (List UInt8)} (h : PathV W W.heap.size v ps) (hk : Kept W W') : PathV W' W'.heap.size v ps := by
  obtain ⟨A, c, rfl, h1, h2, hp⟩ := h
  refine ⟨A, c, rfl, h1, h2, fun h0 => ?_⟩
  obtain ⟨b, o, rfl, hlt, hc⟩ := hp h0
  refine ⟨b, o, rfl, Nat.lt_of_lt_of_le hlt hk.sizeM, fun j hj => ?_⟩
  obtain ⟨x, q2, q3⟩ := hc j hj
  exact ⟨x, hk.cell q2, hk.rd q3⟩
theorem LeafV.keptM {l : Lf} (h : LeafV W W.heap.size v l) (hk : Kept W W') : LeafV W' W'.heap.size v l := by
  obtain ⟨sv, pv, rfl, h1, h2, h3⟩ := h
  exact ⟨sv, pv, rfl, hk.rd h1, h2.keptM hk, h3⟩
theorem LeafAt.keptM {b o : Nat} {l : Lf} (h : LeafAt W W.heap.size b o l) (hk : Kept W W') : LeafAt W' W'.heap.size b o l := by
  obtain ⟨sv, pv, h0, h1, h2, h3, h4⟩ := h
  exact ⟨sv, pv, hk.cell h0, hk.cell h1, hk.cell h2, hk.cell h3, h4.keptM hk⟩
theorem LeavesV.keptM {ls : List Lf} (h : LeavesV W W.heap.size v ls) (hk : Kept W W') : LeavesV W' W'.heap.size v ls := by
  obtain ⟨A, c, rfl, h1, h2, hp⟩ := h
  refine ⟨A, c, rfl, h1, h2, fun h0 => ?_⟩
  obtain ⟨b, o, rfl, hlt, hc⟩ := hp h0
  exact ⟨b, o, rfl, Nat.lt_of_lt_of_le hlt hk.sizeM, fun j hj => (hc j hj).keptM hk⟩
end
/-- a header, with the rows of bytes that it names -/
structure HdW where
  ch : ByteArray
  ht : Nat
  tm : Nat
  vr : Value
  vv : Value
  vn : Value
  rt : List UInt8
  va : List UInt8
  nx : List UInt8
structure HdW.rd (W : World) (h : HdW) : Prop where
  r : Rd W W.heap.size h.vr h.rt
  v : Rd W W.heap.size h.vv h.va
  n : Rd W W.heap.size h.vn h.nx
  ht : h.ht < 18446744073709551616
  tm : h.tm < 18446744073709551616
theorem HdW.rd.keptM {W W' : World} {h : HdW} (k : h.rd W) (hk : Kept W W') : h.rd W' := ⟨hk.rd k.r, hk.rd k.v, hk.rd k.n, k.ht, k.tm⟩
/-- a packet -/
structure PkW where
  src : ByteArray
  dst : ByteArray
  seq : Nat
  vd : Value
  da : List UInt8
  ht : Nat
  tm : Nat
structure PkW.rd (W : World) (p : PkW) : Prop where
  d : Rd W W.heap.size p.vd p.da
  sq : p.seq < 18446744073709551616
  ht : p.ht < 18446744073709551616
  tm : p.tm < 18446744073709551616
theorem PkW.rd.keptM {W W' : World} {p : PkW} (k : p.rd W) (hk : Kept W W') : p.rd W' := ⟨hk.rd k.d, k.sq, k.ht, k.tm⟩
/-- fees -/
structure PyW where
  d : ByteArray
  x : U4
  y : U4
  z : U4
/-- a message -/
structure MsgV where
  kd : Int
  to : ByteArray
  dn : ByteArray
  am : U4
  cl : ByteArray
  cc : ByteArray
  cn : ByteArray
  cd : ByteArray
  ch : ByteArray
  ce : ByteArray
  po : ByteArray
  pe : ByteArray
  ve : ByteArray
  od : Bool
  h : HdW
  o : HdW
  vs1 : Value
  s1 : List VD
  vs2 : Value
  s2 : List VD
  vs3 : Value
  s3 : List VD
  vt1 : Value
  t1 : List ByteArray
  vt2 : Value
  t2 : List ByteArray
  ht : Nat
  tm : Nat
  at_ : Nat
  per : Nat
  pk : PkW
  vak : Value
  ak : List UInt8
  vpf : Value
  pf : Pf
  nx : Nat
  pay : PyW
  vos : Value
  os : List OrdV
def MsgV.cells (m : MsgV) : List Value := [.int .i64 m.kd, .string m.to, .string m.dn, .int .u64 (m.am.a : Int), .int .u64 (m.am.b : Int), .int .u64 (m.am.c : Int), .int .u64 (m.am.d : Int), .string m.cl, .string m.cc, .string m.cn, .string m.cd, .string m.ch, .string m.ce, .string m.po, .string m.pe, .string m.ve, .bool m.od, .string m.h.ch, .int .u64 (m.h.ht : Int), .int .u64 (m.h.tm : Int), m.h.vr, m.h.vv, m.h.vn, .string m.o.ch, .int .u64 (m.o.ht : Int), .int .u64 (m.o.tm : Int), m.o.vr, m.o.vv, m.o.vn, m.vs1, m.vs2, m.vs3, m.vt1, m.vt2, .int .u64 (m.ht : Int), .int .u64 (m.tm : Int), .int .u64 (m.at_ : Int), .int .u64 (m.per : Int), .string m.pk.src, .string m.pk.dst, .int .u64 (m.pk.seq : Int), m.pk.vd, .int .u64 (m.pk.ht : Int), .int .u64 (m.pk.tm : Int), m.vak, .int .i64 m.pf.n, m.vpf, .int .u64 (m.nx : Int), .string m.pay.d, .int .u64 (m.pay.x.a : Int), .int .u64 (m.pay.x.b : Int), .int .u64 (m.pay.x.c : Int), .int .u64 (m.pay.x.d : Int), .int .u64 (m.pay.y.a : Int), .int .u64 (m.pay.y.b : Int), .int .u64 (m.pay.y.c : Int), .int .u64 (m.pay.y.d : Int), .int .u64 (m.pay.z.a : Int), .int .u64 (m.pay.z.b : Int), .int .u64 (m.pay.z.c : Int), .int .u64 (m.pay.z.d : Int), m.vos]
def MsgV.texts (m : MsgV) : List ByteArray := [m.to, m.dn, m.cl, m.cc, m.cn, m.cd, m.ch, m.ce, m.po, m.pe, m.ve, m.h.ch, m.o.ch, m.pk.src, m.pk.dst, m.pay.d]
def MsgV.lens (m : MsgV) : List Nat := [m.h.rt.length, m.h.va.length, m.h.nx.length, m.o.rt.length, m.o.va.length, m.o.nx.length, m.s1.length, m.s2.length, m.s3.length, m.t1.length, m.t2.length, m.pk.da.length, m.ak.length, m.pf.ls.length, m.os.length]
structure MsgV.rd (W : World) (m : MsgV) : Prop where
  in_kd : -9223372036854775808 ≤ m.kd ∧ m.kd ≤ 9223372036854775807
  ok_am : m.am.ok
  r_h : m.h.rd W
  r_o : m.o.rd W
  r_s1 : ValsAt W W.heap.size m.vs1 m.s1
  r_s2 : ValsAt W W.heap.size m.vs2 m.s2
  r_s3 : ValsAt W W.heap.size m.vs3 m.s3
  r_t1 : StrsAt W W.heap.size m.vt1 m.t1
  r_t2 : StrsAt W W.heap.size m.vt2 m.t2
  lt_ht : m.ht < 18446744073709551616
  lt_tm : m.tm < 18446744073709551616
  lt_at_ : m.at_ < 18446744073709551616
  lt_per : m.per < 18446744073709551616
  r_pk : m.pk.rd W
  r_ak : Rd W W.heap.size m.vak m.ak
  r_pf : LeavesV W W.heap.size m.vpf m.pf.ls
  in_pf : -9223372036854775808 ≤ m.pf.n ∧ m.pf.n ≤ 9223372036854775807
  lt_nx : m.nx < 18446744073709551616
  ok_pay : m.pay.x.ok ∧ m.pay.y.ok ∧ m.pay.z.ok
  r_os : OrdsAt W m.vos m.os
  ok_os : ∀ q ∈ m.os, q.x.ok ∧ q.t.size ≤ maxLen ∧ q.d.size ≤ maxLen
theorem MsgV.rd.keptM {W W' : World} {m : MsgV} (k : m.rd W) (hk : Kept W W') : m.rd W' := ⟨k.in_kd, k.ok_am, k.r_h.keptM hk, k.r_o.keptM hk, k.r_s1.keptM hk, k.r_s2.keptM hk, k.r_s3.keptM hk, k.r_t1.keptM hk, k.r_t2.keptM hk, k.lt_ht, k.lt_tm, k.lt_at_, k.lt_per, k.r_pk.keptM hk, hk.rd k.r_ak, k.r_pf.keptM hk, k.in_pf, k.lt_nx, k.ok_pay, k.r_os.keptX hk, k.ok_os⟩
/-- all texts and rows are of at most n bytes or parts -/
structure MsgV.small (n : Nat) (m : MsgV) : Prop where
  t : ∀ s ∈ m.texts, s.size ≤ n
  l : ∀ k ∈ m.lens, k ≤ n
/-- a step -/
structure StepV where
  on : Int
  self : Nat
  now : Nat
  sg : ByteArray
  m : MsgV
def StepV.cells (x : StepV) : List Value := .int .i64 x.on :: .int .u64 (x.self : Int) :: .int .u64 (x.now : Int) :: .string x.sg :: x.m.cells
structure StepV.fine (x : StepV) : Prop where
  on : -9223372036854775808 ≤ x.on ∧ x.on ≤ 9223372036854775807
  self : x.self < 18446744073709551616
  now : x.now < 18446744073709551616
  sg : x.sg.size ≤ 1048576
  m : x.m.small 1048576
theorem MsgV.cells_len (m : MsgV) : m.cells.length = 62 := rfl
theorem StepV.cells_len (x : StepV) : x.cells.length = 66 := rfl
/-- steps handed in -/
def RdSt (W : World) (v : Value) (l : List StepV) : Prop := ∃ A c, v = .slice A l.length c ∧ (∀ x ∈ l, x.m.rd W) ∧ (0 < l.length → ∃ b o, A = some ⟨b, o, none⟩ ∧ b < W.heap.size ∧
  ∀ (j : Nat) (h : j < l.length) (i : Nat) (u : Value), i < 66 → l[j].cells[i]? = some u → W.cell? ⟨b, o + j * 66 + i, none⟩ = some u)
theorem RdSt.keptM {W W' : World} {v : Value} {l : List StepV} (h : RdSt W v l) (hk : Kept W W') : RdSt W' v l := by
  obtain ⟨A, c, rfl, hr, hc⟩ := h
  refine ⟨A, c, rfl, fun x hx => (hr x hx).keptM hk, fun h0 => ?_⟩
  obtain ⟨b, o, rfl, hb1, hcell⟩ := hc h0
  exact ⟨b, o, rfl, Nat.lt_of_lt_of_le hb1 hk.sizeM, fun j hj i u hi hu => hk.cell (hcell j hj i u hi hu)⟩
end Go.Proofs.YtniclaapiabmdaaGreatDoor
