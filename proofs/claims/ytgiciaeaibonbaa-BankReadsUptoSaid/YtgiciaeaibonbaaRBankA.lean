
/- The document's bank, walked: keys, read, Bal, Supply. -/
import Derived.Test.YtgiciaeaibonbaaBankF0
import Derived.Test.YtgiciaeaibonbaaRStoG
import Derived.Test.YtgiciaeaibonbaaNameK
namespace Go.Proofs.Ytgiciaeaibonbaa
set_option maxRecDepth 100000
open Go Go.RowKit
set_option linter.unusedVariables false

set_option maxHeartbeats 1000000 in
theorem rbalance_any (a d : ByteArray) (w : World) (ha : a.size ≤ 100000000) (hd : d.size ≤ 100000000) : Calls Try.prog 36 #[.string a, .string d] w fun e w' => e = .returned (.string (kBal a d)) ∧ w = w' := by
  have s1 : balP.size = 4 := rfl
  have s2 : slB.size = 1 := rfl
  have h1 := fun W => txt_add balP a (by rw [s1]; omega) W
  have h2 := fun W => txt_add (balP ++ a) slB (by rw [ByteArray.size_append, s1, s2]; omega) W
  have h3 := fun W => txt_add ((balP ++ a) ++ slB) d (by rw [ByteArray.size_append, ByteArray.size_append, s1, s2]; omega) W
  unfold kBal
  unfold balP slB at *
  go_enter Try.func36, Try.ntmps36
  go_wp2
  go_ret
  exact ⟨rfl, rfl⟩
set_option maxHeartbeats 1000000 in
theorem rsupkey_any (d : ByteArray) (w : World) (hd : d.size ≤ 100000000) : Calls Try.prog 37 #[.string d] w fun e w' => e = .returned (.string (kSup d)) ∧ w = w' := by
  have s1 : supP.size = 4 := rfl
  have h1 := fun W => txt_add supP d (by rw [s1]; omega) W
  unfold kSup
  unfold supP at *
  go_enter Try.func37, Try.ntmps37
  go_wp2
  go_ret
  exact ⟨rfl, rfl⟩
theorem LBlk.all0 {w : World} {g : Nat} (h : LBlk w g U4.zero.cells) : w.cell? ⟨g, 0, none⟩ = some (.int .u64 0) ∧ w.cell? ⟨g, 1, none⟩ = some (.int .u64 0) ∧ w.cell? ⟨g, 2, none⟩ = some (.int .u64 0) ∧ w.cell? ⟨g, 3, none⟩ = some (.int .u64 0) := h.all
theorem LBlk.zero4 {w : World} {g : Nat} (h : LBlk w g U4.zero.cells) : LBlk ((((w.setCell ⟨g, 0, none⟩ (.int .u64 0)).setCell ⟨g, 1, none⟩ (.int .u64 0)).setCell ⟨g, 2, none⟩ (.int .u64 0)).setCell ⟨g, 3, none⟩ (.int .u64 0)) g U4.zero.cells := LBlk.set4 (s := U4.zero) h U4.zero
/-- a document's store of which values are short -/
structure DocR (w : World) (b : Nat) (R : List Pr) : Prop where
  s : DocS w b R
  n : R.length ≤ 100000000
  v : ∀ p ∈ R, p.2.length ≤ 2000000
theorem DocS.up {w w' : World} {b : Nat} {R : List Pr} (h : DocS w b R) (hb : Below w.heap.size w w') : DocS w' b R := by
  obtain ⟨v, h1, h2⟩ := h
  exact ⟨v, (hb.block b (blk_lt h1)).trans h1, h2.kept (Kept.of_below hb)⟩
theorem DocS.kept {w w' : World} {b : Nat} {R : List Pr} (h : DocS w b R) (hk : Kept w w') : DocS w' b R := by
  obtain ⟨v, h1, h2⟩ := h
  obtain ⟨F, k1, k2⟩ := id hk
  have hn : ¬ F b := fun k => by
    obtain ⟨es, c, e⟩ := k2 _ k
    rw [h1] at e; cases e
  exact ⟨v, (k1.block b (blk_lt h1) hn).trans h1, h2.kept hk⟩
theorem DocR.up {w w' : World} {b : Nat} {R : List Pr} (h : DocR w b R) (hb : Below w.heap.size w w') : DocR w' b R := ⟨h.s.up hb, h.n, h.v⟩
theorem DocR.kept {w w' : World} {b : Nat} {R : List Pr} (h : DocR w b R) (hk : Kept w w') : DocR w' b R := ⟨h.s.kept hk, h.n, h.v⟩
set_option maxHeartbeats 2000000 in
theorem rread_any {w : World} {b : Nat} {R : List Pr} (h : DocR w b R) (key : ByteArray) :
    Calls Try.prog 35 #[.pointer (some ⟨b, 0, none⟩), .string key] w fun e w' => e = .returned (amtU R key).val ∧ Below w.heap.size w w' := by
  have HG := Lib.hid (fun (W : World) (hb : Below w.heap.size w W) => rget_any (h.up hb).s h.n h.v key)
  have HF := Lib.hid (fun (v : Value) (l : List UInt8) (W : World) (hr : Rd W W.heap.size v l) => rfrom_any v l W hr)
  have ha0 : Below w.heap.size w (w.alloc (.cells #[.int .u64 0, .int .u64 0, .int .u64 0, .int .u64 0] 25)) := (Below.refl _ _).alloc (Nat.le_refl _) _
  have HK0 := Lib.hid (heap_alloc_new w (.cells #[.int .u64 0, .int .u64 0, .int .u64 0, .int .u64 0] 25))
  clear h
  unfold amtU
  cases hg : getL R key with
  | none =>
    rw [hg] at HG
    clear hg
    show Calls Try.prog 35 _ _ fun e w' => e = .returned U4.zero.val ∧ _
    go_enter Try.func35, Try.ntmps35
    go_wp2_with fail
    refine (HG.out _ ha0).mono ?_
    rintro e w1 ⟨v1, rfl, ho1, hb1⟩
    have hq := below_chain ha0 ha0.size hb1
    have hk3 : LBlk w1 w.heap.size U4.zero.cells := (hb1.block w.heap.size (Array.getElem?_eq_some_iff.1 HK0.out).1).trans HK0.out
    obtain ⟨A1, c1, rfl⟩ := ho1.form
    clear ho1
    obtain ⟨z0, z1, z2, z3⟩ := hk3.all
    have y0 := blk_free hk3 0
    have y1 := blk_free hk3 1
    have y2 := blk_free hk3 2
    have y3 := blk_free hk3 3
    have hk4 := LBlk.zero4 hk3
    obtain ⟨d0, d1, d2, d3⟩ := hk4.all0
    have HD := Lib.hid (⟨d0, d1, d2, d3⟩ : _ ∧ _ ∧ _ ∧ _)
    clear hk3 hk4 d0 d1 d2 d3
    go_wp2_with fail
    obtain ⟨d0, d1, d2, d3⟩ := HD.out
    refine bodyPost_ret (v := .agg #[.int .u64 0, .int .u64 0, .int .u64 0, .int .u64 0]) ?_ rfl ⟨rfl, ?_⟩
    · simp [results, Try.results35, go_sem, d0, d1, d2, d3]
    · first | exact hq | exact (((hq.setCell (Nat.le_refl _) _).setCell (Nat.le_refl _) _).setCell (Nat.le_refl _) _).setCell (Nat.le_refl _) _
  | some l =>
    rw [hg] at HG
    clear hg
    show Calls Try.prog 35 _ _ fun e w' => e = .returned (fromU l).1.val ∧ _
    have HF' := Lib.hid (fun (v : Value) (W : World) (hr : Rd W W.heap.size v l) => HF.out v l W hr)
    obtain ⟨X, hX⟩ : ∃ X : U4, X = (fromU l).1 := ⟨_, rfl⟩
    obtain ⟨E, hE⟩ : ∃ E : Int, E = (fromU l).2 := ⟨_, rfl⟩
    rw [← hX, ← hE] at HF'
    rw [← hX]
    clear hX hE HF
    unfold U4.val U4.cells at *
    go_enter Try.func35, Try.ntmps35
    go_wp2_with fail
    refine (HG.out _ ha0).mono ?_
    rintro e w1 ⟨v1, rfl, ho1, hb1⟩
    have hq1 := below_chain ha0 ha0.size hb1
    have HK1 := Lib.hid ((hb1.block w.heap.size (Array.getElem?_eq_some_iff.1 HK0.out).1).trans HK0.out)
    replace ho1 : Own w1 _ v1 l := ho1
    have HC := Lib.hid (HF'.out v1 w1 ho1.rd)
    obtain ⟨A1, c1, rfl⟩ := ho1.form
    clear ho1 HG
    go_wp2_with fail
    refine HC.out.mono ?_
    rintro e w2 ⟨rfl, hb2⟩
    have hq2 := below_chain hq1 hq1.size hb2
    have hk2 := (hb2.block w.heap.size (Array.getElem?_eq_some_iff.1 HK1.out).1).trans HK1.out
    have hk3 : LBlk (w2.alloc (.cells #[.int .u64 (X.a : Int), .int .u64 (X.b : Int), .int .u64 (X.c : Int), .int .u64 (X.d : Int)] 25)) w.heap.size U4.zero.cells := LBlk.alloc hk2 _
    have hq3 := hq2.alloc hq2.size (.cells #[.int .u64 (X.a : Int), .int .u64 (X.b : Int), .int .u64 (X.c : Int), .int .u64 (X.d : Int)] 25)
    clear hk2 HC HF'
    obtain ⟨z0, z1, z2, z3⟩ := hk3.all
    have y0 := blk_free hk3 0
    have y1 := blk_free hk3 1
    have y2 := blk_free hk3 2
    have y3 := blk_free hk3 3
    have hk4 := LBlk.set4 (s := U4.zero) hk3 X
    obtain ⟨d0, d1, d2, d3⟩ := hk4.all
    have HD := Lib.hid (⟨d0, d1, d2, d3⟩ : _ ∧ _ ∧ _ ∧ _)
    clear hk3 hk4 d0 d1 d2 d3
    go_wp2_with fail
    obtain ⟨d0, d1, d2, d3⟩ := HD.out
    refine bodyPost_ret (v := .agg #[.int .u64 X.a, .int .u64 X.b, .int .u64 X.c, .int .u64 X.d]) ?_ rfl ⟨rfl, ?_⟩
    · simp [results, Try.results35, go_sem, d0, d1, d2, d3]
    · first | exact hq3 | exact (((hq3.setCell (Nat.le_refl _) _).setCell (Nat.le_refl _) _).setCell (Nat.le_refl _) _).setCell (Nat.le_refl _) _

theorem rbal_any {w : World} {b : Nat} {R : List Pr} (h : DocR w b R) (a d : ByteArray) (ha : a.size ≤ 100000000) (hd : d.size ≤ 100000000) :
    Calls Try.prog 13 #[.pointer (some ⟨b, 0, none⟩), .string a, .string d] w fun e w' => e = .returned (balM R a d).val ∧ Below w.heap.size w w' := by
  have HI := Lib.hid (fun W => rident_any a W (by unfold maxLen; omega))
  have HD := Lib.hid (fun W => rdenom_any d W (by unfold maxLen; omega))
  have HK := Lib.hid (fun W => rbalance_any a d W ha hd)
  have HR := Lib.hid (fun (W : World) (hb : Below w.heap.size w W) => rread_any (h.up hb) (kBal a d))
  have ha0 : Below w.heap.size w (w.alloc (.cells #[.int .u64 0, .int .u64 0, .int .u64 0, .int .u64 0] 25)) := (Below.refl _ _).alloc (Nat.le_refl _) _
  have HK0 := Lib.hid (heap_alloc_new w (.cells #[.int .u64 0, .int .u64 0, .int .u64 0, .int .u64 0] 25))
  clear h
  unfold balM
  cases h0 : identB a with
  | false =>
    have h0' : identL a.data.toList = false := h0
    rw [h0'] at HI
    clear h0 h0'
    show Calls Try.prog 13 _ _ fun e w' => e = .returned U4.zero.val ∧ _
    go_enter Try.func13, Try.ntmps13
    go_wp2_with fail
    refine (HI.out _).mono ?_
    rintro e w1 ⟨rfl, rfl⟩
    have hk3 : LBlk (w.alloc (.cells #[.int .u64 0, .int .u64 0, .int .u64 0, .int .u64 0] 25)) w.heap.size U4.zero.cells := HK0.out
    obtain ⟨z0, z1, z2, z3⟩ := hk3.all
    have y0 := blk_free hk3 0
    have y1 := blk_free hk3 1
    have y2 := blk_free hk3 2
    have y3 := blk_free hk3 3
    have hk4 := LBlk.zero4 hk3
    obtain ⟨d0, d1, d2, d3⟩ := hk4.all0
    have HD := Lib.hid (⟨d0, d1, d2, d3⟩ : _ ∧ _ ∧ _ ∧ _)
    clear hk3 hk4 d0 d1 d2 d3
    go_wp2_with fail
    obtain ⟨d0, d1, d2, d3⟩ := HD.out
    refine bodyPost_ret (v := .agg #[.int .u64 0, .int .u64 0, .int .u64 0, .int .u64 0]) ?_ rfl ⟨rfl, ?_⟩
    · simp [results, Try.results13, go_sem, d0, d1, d2, d3]
    · first | exact ha0 | exact (((ha0.setCell (Nat.le_refl _) _).setCell (Nat.le_refl _) _).setCell (Nat.le_refl _) _).setCell (Nat.le_refl _) _
  | true =>
    have h0' : identL a.data.toList = true := h0
    rw [h0'] at HI
    cases h1 : denomB d with
    | false =>
      have h1' : denomL d.data.toList = false := h1
      rw [h1'] at HD
      clear h1 h1' h0 h0'
      show Calls Try.prog 13 _ _ fun e w' => e = .returned U4.zero.val ∧ _
      go_enter Try.func13, Try.ntmps13
      go_wp2_with fail
      refine (HI.out _).mono ?_
      rintro e w1 ⟨rfl, rfl⟩
      go_wp2_with fail
      refine (HD.out _).mono ?_
      rintro e w2 ⟨rfl, hb2⟩
      have hq := below_chain ha0 ha0.size hb2
      have hk3 : LBlk w2 w.heap.size U4.zero.cells := (hb2.block w.heap.size (Array.getElem?_eq_some_iff.1 HK0.out).1).trans HK0.out
      obtain ⟨z0, z1, z2, z3⟩ := hk3.all
      have y0 := blk_free hk3 0
      have y1 := blk_free hk3 1
      have y2 := blk_free hk3 2
      have y3 := blk_free hk3 3
      have hk4 := LBlk.zero4 hk3
      obtain ⟨d0, d1, d2, d3⟩ := hk4.all0
      have HD := Lib.hid (⟨d0, d1, d2, d3⟩ : _ ∧ _ ∧ _ ∧ _)
      clear hk3 hk4 d0 d1 d2 d3
      go_wp2_with fail
      obtain ⟨d0, d1, d2, d3⟩ := HD.out
      refine bodyPost_ret (v := .agg #[.int .u64 0, .int .u64 0, .int .u64 0, .int .u64 0]) ?_ rfl ⟨rfl, ?_⟩
      · simp [results, Try.results13, go_sem, d0, d1, d2, d3]
      · first | exact hq | exact (((hq.setCell (Nat.le_refl _) _).setCell (Nat.le_refl _) _).setCell (Nat.le_refl _) _).setCell (Nat.le_refl _) _
    | true =>
      have h1' : denomL d.data.toList = true := h1
      rw [h1'] at HD
      clear h1 h1' h0 h0'
      show Calls Try.prog 13 _ _ fun e w' => e = .returned (amtU R (kBal a d)).val ∧ _
      generalize amtU R (kBal a d) = X at *
      unfold U4.val U4.cells at *
      go_enter Try.func13, Try.ntmps13
      go_wp2_with fail
      refine (HI.out _).mono ?_
      rintro e w1 ⟨rfl, rfl⟩
      go_wp2_with fail
      refine (HD.out _).mono ?_
      rintro e w2 ⟨rfl, hb2⟩
      have hq := below_chain ha0 ha0.size hb2
      have HK1 := Lib.hid ((hb2.block w.heap.size (Array.getElem?_eq_some_iff.1 HK0.out).1).trans HK0.out)
      go_wp2_with fail
      refine (HK.out _).mono ?_
      rintro e w3 ⟨rfl, rfl⟩
      go_wp2_with fail
      refine (HR.out _ hq).mono ?_
      rintro e w4 ⟨rfl, hb4⟩
      have hq4 := below_chain hq hq.size hb4
      have hk3 : LBlk w4 w.heap.size U4.zero.cells := (hb4.block w.heap.size (Array.getElem?_eq_some_iff.1 HK1.out).1).trans HK1.out
      obtain ⟨z0, z1, z2, z3⟩ := hk3.all
      have y0 := blk_free hk3 0
      have y1 := blk_free hk3 1
      have y2 := blk_free hk3 2
      have y3 := blk_free hk3 3
      have hk4 := LBlk.set4 (s := U4.zero) hk3 X
      obtain ⟨d0, d1, d2, d3⟩ := hk4.all
      have HD := Lib.hid (⟨d0, d1, d2, d3⟩ : _ ∧ _ ∧ _ ∧ _)
      clear hk3 hk4 d0 d1 d2 d3
      go_wp2_with fail
      obtain ⟨d0, d1, d2, d3⟩ := HD.out
      refine bodyPost_ret (v := .agg #[.int .u64 X.a, .int .u64 X.b, .int .u64 X.c, .int .u64 X.d]) ?_ rfl ⟨rfl, ?_⟩
      · simp [results, Try.results13, go_sem, d0, d1, d2, d3]
      · first | exact hq4 | exact (((hq4.setCell (Nat.le_refl _) _).setCell (Nat.le_refl _) _).setCell (Nat.le_refl _) _).setCell (Nat.le_refl _) _

theorem rsup_any {w : World} {b : Nat} {R : List Pr} (h : DocR w b R) (d : ByteArray) (hd : d.size ≤ 100000000) :
    Calls Try.prog 14 #[.pointer (some ⟨b, 0, none⟩), .string d] w fun e w' => e = .returned (supM R d).val ∧ Below w.heap.size w w' := by
  have HD := Lib.hid (fun W => rdenom_any d W (by unfold maxLen; omega))
  have HK := Lib.hid (fun W => rsupkey_any d W hd)
  have HR := Lib.hid (fun (W : World) (hb : Below w.heap.size w W) => rread_any (h.up hb) (kSup d))
  have ha0 : Below w.heap.size w (w.alloc (.cells #[.int .u64 0, .int .u64 0, .int .u64 0, .int .u64 0] 25)) := (Below.refl _ _).alloc (Nat.le_refl _) _
  have HK0 := Lib.hid (heap_alloc_new w (.cells #[.int .u64 0, .int .u64 0, .int .u64 0, .int .u64 0] 25))
  clear h
  unfold supM
  cases h1 : denomB d with
  | false =>
    have h1' : denomL d.data.toList = false := h1
    rw [h1'] at HD
    clear h1 h1'
    show Calls Try.prog 14 _ _ fun e w' => e = .returned U4.zero.val ∧ _
    go_enter Try.func14, Try.ntmps14
    go_wp2_with fail
    refine (HD.out _).mono ?_
    rintro e w2 ⟨rfl, hb2⟩
    have hq := below_chain ha0 ha0.size hb2
    have hk3 : LBlk w2 w.heap.size U4.zero.cells := (hb2.block w.heap.size (Array.getElem?_eq_some_iff.1 HK0.out).1).trans HK0.out
    obtain ⟨z0, z1, z2, z3⟩ := hk3.all
    have y0 := blk_free hk3 0
    have y1 := blk_free hk3 1
    have y2 := blk_free hk3 2
    have y3 := blk_free hk3 3
    have hk4 := LBlk.zero4 hk3
    obtain ⟨d0, d1, d2, d3⟩ := hk4.all0
    have HD := Lib.hid (⟨d0, d1, d2, d3⟩ : _ ∧ _ ∧ _ ∧ _)
    clear hk3 hk4 d0 d1 d2 d3
    go_wp2_with fail
    obtain ⟨d0, d1, d2, d3⟩ := HD.out
    refine bodyPost_ret (v := .agg #[.int .u64 0, .int .u64 0, .int .u64 0, .int .u64 0]) ?_ rfl ⟨rfl, ?_⟩
    · simp [results, Try.results14, go_sem, d0, d1, d2, d3]
    · first | exact hq | exact (((hq.setCell (Nat.le_refl _) _).setCell (Nat.le_refl _) _).setCell (Nat.le_refl _) _).setCell (Nat.le_refl _) _
  | true =>
    have h1' : denomL d.data.toList = true := h1
    rw [h1'] at HD
    clear h1 h1'
    show Calls Try.prog 14 _ _ fun e w' => e = .returned (amtU R (kSup d)).val ∧ _
    generalize amtU R (kSup d) = X at *
    unfold U4.val U4.cells at *
    go_enter Try.func14, Try.ntmps14
    go_wp2_with fail
    refine (HD.out _).mono ?_
    rintro e w2 ⟨rfl, hb2⟩
    have hq := below_chain ha0 ha0.size hb2
    have HK1 := Lib.hid ((hb2.block w.heap.size (Array.getElem?_eq_some_iff.1 HK0.out).1).trans HK0.out)
    go_wp2_with fail
    refine (HK.out _).mono ?_
    rintro e w3 ⟨rfl, rfl⟩
    go_wp2_with fail
    refine (HR.out _ hq).mono ?_
    rintro e w4 ⟨rfl, hb4⟩
    have hq4 := below_chain hq hq.size hb4
    have hk3 : LBlk w4 w.heap.size U4.zero.cells := (hb4.block w.heap.size (Array.getElem?_eq_some_iff.1 HK1.out).1).trans HK1.out
    obtain ⟨z0, z1, z2, z3⟩ := hk3.all
    have y0 := blk_free hk3 0
    have y1 := blk_free hk3 1
    have y2 := blk_free hk3 2
    have y3 := blk_free hk3 3
    have hk4 := LBlk.set4 (s := U4.zero) hk3 X
    obtain ⟨d0, d1, d2, d3⟩ := hk4.all
    have HD := Lib.hid (⟨d0, d1, d2, d3⟩ : _ ∧ _ ∧ _ ∧ _)
    clear hk3 hk4 d0 d1 d2 d3
    go_wp2_with fail
    obtain ⟨d0, d1, d2, d3⟩ := HD.out
    refine bodyPost_ret (v := .agg #[.int .u64 X.a, .int .u64 X.b, .int .u64 X.c, .int .u64 X.d]) ?_ rfl ⟨rfl, ?_⟩
    · simp [results, Try.results14, go_sem, d0, d1, d2, d3]
    · first | exact hq4 | exact (((hq4.setCell (Nat.le_refl _) _).setCell (Nat.le_refl _) _).setCell (Nat.le_refl _) _).setCell (Nat.le_refl _) _
end Go.Proofs.Ytgiciaeaibonbaa
