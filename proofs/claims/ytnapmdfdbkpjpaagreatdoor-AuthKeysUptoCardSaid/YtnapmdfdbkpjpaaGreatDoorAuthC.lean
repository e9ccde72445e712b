
/- The walk of an account being read. -/
import Derived.Test.YtnapmdfdbkpjpaaGreatDoorAuthA
namespace Go.Proofs.YtnapmdfdbkpjpaaGreatDoor
set_option maxRecDepth 100000
open Go Go.RowKit
set_option linter.unusedVariables false

theorem set3 {w : World} {g : Nat} {x0 x1 x2 : Value} {t : TypeId} (h : w.heap[g]? = some (.cells #[x0, x1, x2] t (0, 0))) (y0 y1 y2 : Value) : (((w.setCell ⟨g, 0, none⟩ y0).setCell ⟨g, 1, none⟩ y1).setCell ⟨g, 2, none⟩ y2).heap[g]? = some (.cells #[y0, y1, y2] t (0, 0)) := by
  simpa using blk_set (blk_set (blk_set h 0 y0) 1 y1) 2 y2
theorem below_set3 {B : Nat} {w w' : World} {g : Nat} (h : Below B w w') (hg : B ≤ g) (x0 x1 x2 : Value) : Below B w (((w'.setCell ⟨g, 0, none⟩ x0).setCell ⟨g, 1, none⟩ x1).setCell ⟨g, 2, none⟩ x2) :=
  ((h.setCell hg _).setCell hg _).setCell hg _
theorem Own.set3 {w : World} {B g : Nat} {v : Value} {l : List UInt8} (h : Own w B v l) (hg : g < B) (x0 x1 x2 : Value) : Own (((w.setCell ⟨g, 0, none⟩ x0).setCell ⟨g, 1, none⟩ x1).setCell ⟨g, 2, none⟩ x2) B v l := by
  have hne : ∀ {w : World}, Own w B v l → v.ownBlock ≠ some g := fun h e => by have := h.lt _ e; omega
  have h1 := h.grown (grown_setR w g 0 x0) (Or.inr (hne h))
  have h2 := h1.grown (grown_setR _ g 1 x1) (Or.inr (hne h1))
  exact h2.grown (grown_setR _ g 2 x2) (Or.inr (hne h2))

set_option maxHeartbeats 4000000 in
theorem aget_any {W W' : World} {y : Lyr} {R : List Pr} {k : Nat} (h : Acc W y R k W') (a : ByteArray) (ha : a.size ≤ 100000000) :
    Calls Tryz.prog 7 #[.pointer (some ⟨y.b, 0, none⟩), .string a] W' fun e w' => ((∃ v r b s, getA R a = some (r, b, s) ∧ e = .returned (.tuple #[.agg #[v, .int .u64 ((b : Nat) : Int), .int .u64 ((s : Nat) : Int)], .bool true]) ∧ Own w' W'.heap.size v r) ∨ (getA R a = none ∧ e = .returned (.tuple #[.agg #[.slice none 0 0, .int .u64 0, .int .u64 0], .bool false]))) ∧ Below W'.heap.size W' w' := by
  have s1 := kAcc_size a
  have HK := Lib.hid (fun W => (accKey_any a W ha).mono fun e w' ⟨h1, h2⟩ => (⟨h1, h2.symm⟩ : _ ∧ w' = W))
  have HG := Lib.hid (fun (Z : World) (hz : Below W'.heap.size W' Z) => (h.up hz).get (kAcc a) (by unfold maxLen; omega))
  have HF := Lib.hid (fun v e => h.fits (key := kAcc a) (v := v) e)
  obtain ⟨o, ho⟩ : ∃ o, o = getL R (kAcc a) := ⟨_, rfl⟩
  have hga : getA R a = o.bind readA := by unfold getA; rw [← ho]
  rw [← ho] at HG HF
  rw [hga]
  clear hga ho h s1 ha
  have hk0 := heap_alloc_new W' (.cells #[.slice none 0 0, .int .u64 0, .int .u64 0] 31)
  have ha0 : Below W'.heap.size W' (W'.alloc (.cells #[.slice none 0 0, .int .u64 0, .int .u64 0] 31)) := (Below.refl _ _).alloc (Nat.le_refl _) _
  go_enter Tryz.func7, Tryz.ntmps7
  go_wp2_with fail
  generalize W'.alloc (.cells #[.slice none 0 0, .int .u64 0, .int .u64 0] 31) = W0 at *
  refine (HK.out _).mono ?_
  rintro e w1 ⟨rfl, rfl⟩
  have hl0 := blk_lt hk0
  go_wp2_with fail
  refine (HG.out _ ha0).mono ?_
  rintro e w2 ⟨v, rfl, hov, hb2⟩
  have hq2 := below_chain ha0 ha0.size hb2
  have hk2 := (hb2.block _ hl0).trans hk0
  clear HG HK
  cases o with
  | none =>
    have z0 := blk_cell hk2 0
    have z1 := blk_cell hk2 1
    have z2 := blk_cell hk2 2
    have f0 := blk_free hk2 0
    have f1 := blk_free hk2 1
    have f2 := blk_free hk2 2
    obtain ⟨A, c, rfl⟩ := hov.form
    have hk3 := set3 hk2 (.slice none 0 0) (.int .u64 0) (.int .u64 0)
    have HD := Lib.hid (And.intro (blk_cell hk3 0) (And.intro (blk_cell hk3 1) (blk_cell hk3 2)))
    clear hk3 hov
    go_wp2_with fail
    obtain ⟨d0, d1, d2⟩ := HD.out
    refine bodyPost_ret (v := .tuple #[.agg #[.slice none 0 0, .int .u64 0, .int .u64 0], .bool false]) ?_ rfl ⟨Or.inr ⟨rfl, rfl⟩, ?_⟩
    · simp at d0 d1 d2; simp [results, Tryz.results7, go_sem, d0, d1, d2]
    · exact below_set3 hq2 (Nat.le_refl _) _ _ _
  | some l =>
    have hll := (HF.out l rfl).2
    have HO := Lib.hid (open_rd v l w2 hov.rd (by omega))
    obtain ⟨A, c, rfl⟩ := hov.form
    have hra : readA l = if rEnd (rN (rN (rB l 0).2.1 (rB l 0).2.2).2.1 (rN (rB l 0).2.1 (rB l 0).2.2).2.2).2.1 (rN (rN (rB l 0).2.1 (rB l 0).2.2).2.1 (rN (rB l 0).2.1 (rB l 0).2.2).2.2).2.2 = 0 then
      some ((rB l 0).1, (rN (rB l 0).2.1 (rB l 0).2.2).1, (rN (rN (rB l 0).2.1 (rB l 0).2.2).2.1 (rN (rB l 0).2.1 (rB l 0).2.2).2.2).1) else none := rfl
    have HB := Lib.hid (fun (Z : World) (lo g : Nat) (h : Rdr Z lo g l 0) => rdB_any h)
    have HN1 := Lib.hid (fun (Z : World) (lo g : Nat) (h : Rdr Z lo g (rB l 0).2.1 (rB l 0).2.2) => rN_any h)
    have HN2 := Lib.hid (fun (Z : World) (lo g : Nat) (h : Rdr Z lo g (rN (rB l 0).2.1 (rB l 0).2.2).2.1 (rN (rB l 0).2.1 (rB l 0).2.2).2.2) => rN_any h)
    have HE := Lib.hid (fun (Z : World) (lo g : Nat) (h : Rdr Z lo g (rN (rN (rB l 0).2.1 (rB l 0).2.2).2.1 (rN (rB l 0).2.1 (rB l 0).2.2).2.2).2.1 (rN (rN (rB l 0).2.1 (rB l 0).2.2).2.1 (rN (rB l 0).2.1 (rB l 0).2.2).2.2).2.2) => rdEnd_any h)
    generalize rB l 0 = P1 at *
    generalize rN P1.2.1 P1.2.2 = P2 at *
    generalize rN P2.2.1 P2.2.2 = P3 at *
    generalize rEnd P3.2.1 P3.2.2 = E at *
    obtain ⟨r, l1, fl1⟩ := P1
    obtain ⟨b, l2, fl2⟩ := P2
    obtain ⟨s, l3, fl3⟩ := P3
    dsimp only at hra HB HN1 HN2 HE
    have HRA := Lib.hid hra
    clear hra HF hov hll
    go_wp2_with fail
    refine HO.out.mono ?_
    rintro e w3 ⟨g, rfl, hr3, hb3⟩
    have hq3 := below_chain hq2 hq2.size hb3
    have hg1 := hr3.from_
    have hg2 := hr3.lt
    have hl2 := blk_lt hk2
    have hk3 := (hb3.block _ hl2).trans hk2
    have hgn : (some W'.heap.size : Option Nat) ≠ some g := fun e => by injection e with e; omega
    have HD3 := Lib.hid (HB.out _ _ _ hr3)
    clear HO HB
    go_wp2_with fail
    refine HD3.out.mono ?_
    rintro e w4 ⟨vB, rfl, hoB, hr4, hg4⟩
    have hq4 := hq3.grown hg4 hq3.size (fun k hk => by injection hk with hk; have := hq2.size; omega)
    have hk4 := (hg4.block _ (blk_lt hk3) hgn).trans hk3
    have hBg : vB.ownBlock ≠ some g := fun e => by have := (hoB.lt _ e).1; omega
    have HD4 := Lib.hid (HN1.out _ _ _ hr4)
    clear HD3 HN1 hr3
    go_wp2_with fail
    refine HD4.out.mono ?_
    rintro e w5 ⟨rfl, hr5, hg5⟩
    have hq5 := hq4.grown hg5 hq4.size (fun k hk => by injection hk with hk; have := hq2.size; omega)
    have hk5 := (hg5.block _ (blk_lt hk4) hgn).trans hk4
    have ho5 := hoB.grown hg5 (Or.inr hBg)
    have HD5 := Lib.hid (HN2.out _ _ _ hr5)
    clear HD4 HN2 hr4
    go_wp2_with fail
    refine HD5.out.mono ?_
    rintro e w6 ⟨rfl, hr6, hg6⟩
    have hq6 := hq5.grown hg6 hq5.size (fun k hk => by injection hk with hk; have := hq2.size; omega)
    have hk6 := (hg6.block _ (blk_lt hk5) hgn).trans hk5
    have ho6 := ho5.grown hg6 (Or.inr hBg)
    have HD6 := Lib.hid (HE.out _ _ _ hr6)
    obtain ⟨AB, cB, rfl⟩ := ho6.form
    have hW3 : W'.heap.size < w3.heap.size := blk_lt hk3
    clear HD5 HE hr5 hr6 hg4 hg5 hg6 hoB ho5 hk2 hk3 hk4 hk5 hBg
    go_wp2_with fail
    refine HD6.out.mono ?_
    rintro e w7 ⟨rfl, rfl⟩
    clear HD6
    have z0 := blk_cell hk6 0
    have z1 := blk_cell hk6 1
    have z2 := blk_cell hk6 2
    have f0 := blk_free hk6 0
    have f1 := blk_free hk6 1
    have f2 := blk_free hk6 2
    by_cases e0 : E = 0
    · have hres := HRA.out
      rw [if_pos e0] at hres
      subst e0
      have HRS := Lib.hid hres
      have hk7 := set3 hk6 (.slice AB r.length cB) (.int .u64 (b : Int)) (.int .u64 (s : Int))
      have HD := Lib.hid (And.intro (blk_cell hk7 0) (And.intro (blk_cell hk7 1) (blk_cell hk7 2)))
      clear hk7 hres HRA
      go_wp2_with fail
      obtain ⟨d0, d1, d2⟩ := HD.out
      refine bodyPost_ret (v := .tuple #[.agg #[.slice AB r.length cB, .int .u64 (b : Int), .int .u64 (s : Int)], .bool true]) ?_ rfl ⟨Or.inl ⟨_, r, b, s, ?_, rfl, ?_⟩, ?_⟩
      · simp at d0 d1 d2; simp [results, Tryz.results7, go_sem, d0, d1, d2]
      · simp [HRS.out]
      · exact (ho6.set3 hW3 _ _ _).more (by omega)
      · exact below_set3 hq6 (Nat.le_refl _) _ _ _
    · have hres := HRA.out
      rw [if_neg e0] at hres
      have HRS := Lib.hid hres
      have hne : (E != 0) = true := by simpa using e0
      have hk7 := set3 hk6 (.slice none 0 0) (.int .u64 0) (.int .u64 0)
      have HD := Lib.hid (And.intro (blk_cell hk7 0) (And.intro (blk_cell hk7 1) (blk_cell hk7 2)))
      clear hk7 hres HRA e0
      go_wp2_with fail
      obtain ⟨d0, d1, d2⟩ := HD.out
      refine bodyPost_ret (v := .tuple #[.agg #[.slice none 0 0, .int .u64 0, .int .u64 0], .bool false]) ?_ rfl ⟨Or.inr ⟨by simp [HRS.out], rfl⟩, ?_⟩
      · simp at d0 d1 d2; simp [results, Tryz.results7, go_sem, d0, d1, d2]
      · exact below_set3 hq6 (Nat.le_refl _) _ _ _
end Go.Proofs.YtnapmdfdbkpjpaaGreatDoor
