
/- The document's bank, walked: keys, read, Bal, Supply. The document's store, walked: put. The document's store, walked: do, Set, Del. The document's bank, walked: Zero, Right, put. The document's store, walked: all, Pairs. The document's bank, walked: Mint. The document's bank, walked: Burn. The document's bank, walked: Send. -/
import Derived.Test.YtaafaaoioleokaaGreatDoorBankH0
import Derived.Test.YtaafaaoioleokaaGreatDoorRStoG
import Derived.Test.YtaafaaoioleokaaGreatDoorNameG0
import Derived.Test.YtaafaaoioleokaaGreatDoorSto2
import Derived.Test.YtaafaaoioleokaaGreatDoorLimbM0
import Derived.Test.YtaafaaoioleokaaGreatDoorStoS2
import Derived.Test.YtaafaaoioleokaaGreatDoorBankD
import Derived.Test.YtaafaaoioleokaaGreatDoorBankDs
import Derived.Test.YtaafaaoioleokaaGreatDoorSto1
namespace Go.Proofs.YtaafaaoioleokaaGreatDoor
set_option maxRecDepth 100000
open Go Go.RowKit
set_option linter.unusedVariables false

set_option maxHeartbeats 1000000 in
theorem rbalance_any (a d : ByteArray) (w : World) (ha : a.size ≤ 100000000) (hd : d.size ≤ 100000000) : Calls Tryz.prog 135 #[.string a, .string d] w fun e w' => e = .returned (.string (kBal a d)) ∧ w = w' := by
  have s1 : balP.size = 4 := rfl
  have s2 : slB.size = 1 := rfl
  have h1 := fun W => txt_add balP a (by rw [s1]; omega) W
  have h2 := fun W => txt_add (balP ++ a) slB (by rw [ByteArray.size_append, s1, s2]; omega) W
  have h3 := fun W => txt_add ((balP ++ a) ++ slB) d (by rw [ByteArray.size_append, ByteArray.size_append, s1, s2]; omega) W
  unfold kBal
  unfold balP slB at *
  go_enter Tryz.func135, Tryz.ntmps135
  go_wp2
  go_ret
  exact ⟨rfl, rfl⟩
set_option maxHeartbeats 1000000 in
theorem rsupkey_any (d : ByteArray) (w : World) (hd : d.size ≤ 100000000) : Calls Tryz.prog 134 #[.string d] w fun e w' => e = .returned (.string (kSup d)) ∧ w = w' := by
  have s1 : supP.size = 4 := rfl
  have h1 := fun W => txt_add supP d (by rw [s1]; omega) W
  unfold kSup
  unfold supP at *
  go_enter Tryz.func134, Tryz.ntmps134
  go_wp2
  go_ret
  exact ⟨rfl, rfl⟩
theorem LBlk.all0 {w : World} {g : Nat} (h : LBlk w g U4.zero.cells) : w.cell? ⟨g, 0, none⟩ = some (.int .u64 0) ∧ w.cell? ⟨g, 1, none⟩ = some (.int .u64 0) ∧ w.cell? ⟨g, 2, none⟩ = some (.int .u64 0) ∧ w.cell? ⟨g, 3, none⟩ = some (.int .u64 0) := h.all
theorem LBlk.zero4 {w : World} {g : Nat} (h : LBlk w g U4.zero.cells) : LBlk ((((w.setCell ⟨g, 0, none⟩ (.int .u64 0)).setCell ⟨g, 1, none⟩ (.int .u64 0)).setCell ⟨g, 2, none⟩ (.int .u64 0)).setCell ⟨g, 3, none⟩ (.int .u64 0)) g U4.zero.cells := LBlk.set4 (s := U4.zero) h U4.zero
/-- a document's store of which values are short -/
structure DocR (w : World) (b : Nat) (R : List Pr) : Prop where
  s : DocS w b R
  n : R.length ≤ 100000000
  v : ∀ p ∈ R, p.2.length ≤ 2000000
theorem DocS.up {w w' : World} {b : Nat} {R : List Pr} (h : DocS w b R) (hb : Below w.heap.size w w') : DocS w' b R := by
  obtain ⟨v, h1, h2⟩ := h
  exact ⟨v, (hb.block b (blk_lt h1)).trans h1, h2.kept (Kept.of_below hb)⟩
theorem DocS.kept {w w' : World} {b : Nat} {R : List Pr} (h : DocS w b R) (hk : Kept w w') : DocS w' b R := by
  obtain ⟨v, h1, h2⟩ := h
  obtain ⟨F, k1, k2⟩ := id hk
  have hn : ¬ F b := fun k => by
    obtain ⟨es, c, e⟩ := k2 _ k
    rw [h1] at e; cases e
  exact ⟨v, (k1.block b (blk_lt h1) hn).trans h1, h2.kept hk⟩
theorem DocR.up {w w' : World} {b : Nat} {R : List Pr} (h : DocR w b R) (hb : Below w.heap.size w w') : DocR w' b R := ⟨h.s.up hb, h.n, h.v⟩
theorem DocR.kept {w w' : World} {b : Nat} {R : List Pr} (h : DocR w b R) (hk : Kept w w') : DocR w' b R := ⟨h.s.kept hk, h.n, h.v⟩
set_option maxHeartbeats 2000000 in
theorem rread_any {w : World} {b : Nat} {R : List Pr} (h : DocR w b R) (key : ByteArray) :
    Calls Tryz.prog 176 #[.pointer (some ⟨b, 0, none⟩), .string key] w fun e w' => e = .returned (amtU R key).val ∧ Below w.heap.size w w' := by
  have HG := Lib.hid (fun (W : World) (hb : Below w.heap.size w W) => rget_any (h.up hb).s h.n h.v key)
  have HF := Lib.hid (fun (v : Value) (l : List UInt8) (W : World) (hr : Rd W W.heap.size v l) => rfrom_any v l W hr)
  have ha0 : Below w.heap.size w (w.alloc (.cells #[.int .u64 0, .int .u64 0, .int .u64 0, .int .u64 0] 32)) := (Below.refl _ _).alloc (Nat.le_refl _) _
  have HK0 := Lib.hid (heap_alloc_new w (.cells #[.int .u64 0, .int .u64 0, .int .u64 0, .int .u64 0] 32))
  clear h
  unfold amtU
  cases hg : getL R key with
  | none =>
    rw [hg] at HG
    clear hg
    show Calls Tryz.prog 176 _ _ fun e w' => e = .returned U4.zero.val ∧ _
    go_enter Tryz.func176, Tryz.ntmps176
    go_wp2_with fail
    refine (HG.out _ ha0).mono ?_
    rintro e w1 ⟨v1, rfl, ho1, hb1⟩
    have hq := below_chain ha0 ha0.size hb1
    have hk3 : LBlk w1 w.heap.size U4.zero.cells := (hb1.block w.heap.size (Array.getElem?_eq_some_iff.1 HK0.out).1).trans HK0.out
    obtain ⟨A1, c1, rfl⟩ := ho1.form
    clear ho1
    obtain ⟨z0, z1, z2, z3⟩ := hk3.all
    have y0 := blk_free hk3 0
    have y1 := blk_free hk3 1
    have y2 := blk_free hk3 2
    have y3 := blk_free hk3 3
    have hk4 := LBlk.zero4 hk3
    obtain ⟨d0, d1, d2, d3⟩ := hk4.all0
    have HD := Lib.hid (⟨d0, d1, d2, d3⟩ : _ ∧ _ ∧ _ ∧ _)
    clear hk3 hk4 d0 d1 d2 d3
    go_wp2_with fail
    obtain ⟨d0, d1, d2, d3⟩ := HD.out
    refine bodyPost_ret (v := .agg #[.int .u64 0, .int .u64 0, .int .u64 0, .int .u64 0]) ?_ rfl ⟨rfl, ?_⟩
    · simp [results, Tryz.results176, go_sem, d0, d1, d2, d3]
    · first | exact hq | exact (((hq.setCell (Nat.le_refl _) _).setCell (Nat.le_refl _) _).setCell (Nat.le_refl _) _).setCell (Nat.le_refl _) _
  | some l =>
    rw [hg] at HG
    clear hg
    show Calls Tryz.prog 176 _ _ fun e w' => e = .returned (fromU l).1.val ∧ _
    have HF' := Lib.hid (fun (v : Value) (W : World) (hr : Rd W W.heap.size v l) => HF.out v l W hr)
    obtain ⟨X, hX⟩ : ∃ X : U4, X = (fromU l).1 := ⟨_, rfl⟩
    obtain ⟨E, hE⟩ : ∃ E : Int, E = (fromU l).2 := ⟨_, rfl⟩
    rw [← hX, ← hE] at HF'
    rw [← hX]
    clear hX hE HF
    unfold U4.val U4.cells at *
    go_enter Tryz.func176, Tryz.ntmps176
    go_wp2_with fail
    refine (HG.out _ ha0).mono ?_
    rintro e w1 ⟨v1, rfl, ho1, hb1⟩
    have hq1 := below_chain ha0 ha0.size hb1
    have HK1 := Lib.hid ((hb1.block w.heap.size (Array.getElem?_eq_some_iff.1 HK0.out).1).trans HK0.out)
    replace ho1 : Own w1 _ v1 l := ho1
    have HC := Lib.hid (HF'.out v1 w1 ho1.rd)
    obtain ⟨A1, c1, rfl⟩ := ho1.form
    clear ho1 HG
    go_wp2_with fail
    refine HC.out.mono ?_
    rintro e w2 ⟨rfl, hb2⟩
    have hq2 := below_chain hq1 hq1.size hb2
    have hk2 := (hb2.block w.heap.size (Array.getElem?_eq_some_iff.1 HK1.out).1).trans HK1.out
    have hk3 : LBlk (w2.alloc (.cells #[.int .u64 (X.a : Int), .int .u64 (X.b : Int), .int .u64 (X.c : Int), .int .u64 (X.d : Int)] 32)) w.heap.size U4.zero.cells := LBlk.alloc hk2 _
    have hq3 := hq2.alloc hq2.size (.cells #[.int .u64 (X.a : Int), .int .u64 (X.b : Int), .int .u64 (X.c : Int), .int .u64 (X.d : Int)] 32)
    clear hk2 HC HF'
    obtain ⟨z0, z1, z2, z3⟩ := hk3.all
    have y0 := blk_free hk3 0
    have y1 := blk_free hk3 1
    have y2 := blk_free hk3 2
    have y3 := blk_free hk3 3
    have hk4 := LBlk.set4 (s := U4.zero) hk3 X
    obtain ⟨d0, d1, d2, d3⟩ := hk4.all
    have HD := Lib.hid (⟨d0, d1, d2, d3⟩ : _ ∧ _ ∧ _ ∧ _)
    clear hk3 hk4 d0 d1 d2 d3
    go_wp2_with fail
    obtain ⟨d0, d1, d2, d3⟩ := HD.out
    refine bodyPost_ret (v := .agg #[.int .u64 X.a, .int .u64 X.b, .int .u64 X.c, .int .u64 X.d]) ?_ rfl ⟨rfl, ?_⟩
    · simp [results, Tryz.results176, go_sem, d0, d1, d2, d3]
    · first | exact hq3 | exact (((hq3.setCell (Nat.le_refl _) _).setCell (Nat.le_refl _) _).setCell (Nat.le_refl _) _).setCell (Nat.le_refl _) _

theorem rbal_any {w : World} {b : Nat} {R : List Pr} (h : DocR w b R) (a d : ByteArray) (ha : a.size ≤ 100000000) (hd : d.size ≤ 100000000) :
    Calls Tryz.prog 132 #[.pointer (some ⟨b, 0, none⟩), .string a, .string d] w fun e w' => e = .returned (balM R a d).val ∧ Below w.heap.size w w' := by
  have HI := Lib.hid (fun W => rident_any a W (by unfold maxLen; omega))
  have HD := Lib.hid (fun W => rdenom_any d W (by unfold maxLen; omega))
  have HK := Lib.hid (fun W => rbalance_any a d W ha hd)
  have HR := Lib.hid (fun (W : World) (hb : Below w.heap.size w W) => rread_any (h.up hb) (kBal a d))
  have ha0 : Below w.heap.size w (w.alloc (.cells #[.int .u64 0, .int .u64 0, .int .u64 0, .int .u64 0] 32)) := (Below.refl _ _).alloc (Nat.le_refl _) _
  have HK0 := Lib.hid (heap_alloc_new w (.cells #[.int .u64 0, .int .u64 0, .int .u64 0, .int .u64 0] 32))
  clear h
  unfold balM
  cases h0 : identB a with
  | false =>
    have h0' : identL a.data.toList = false := h0
    rw [h0'] at HI
    clear h0 h0'
    show Calls Tryz.prog 132 _ _ fun e w' => e = .returned U4.zero.val ∧ _
    go_enter Tryz.func132, Tryz.ntmps132
    go_wp2_with fail
    refine (HI.out _).mono ?_
    rintro e w1 ⟨rfl, rfl⟩
    have hk3 : LBlk (w.alloc (.cells #[.int .u64 0, .int .u64 0, .int .u64 0, .int .u64 0] 32)) w.heap.size U4.zero.cells := HK0.out
    obtain ⟨z0, z1, z2, z3⟩ := hk3.all
    have y0 := blk_free hk3 0
    have y1 := blk_free hk3 1
    have y2 := blk_free hk3 2
    have y3 := blk_free hk3 3
    have hk4 := LBlk.zero4 hk3
    obtain ⟨d0, d1, d2, d3⟩ := hk4.all0
    have HD := Lib.hid (⟨d0, d1, d2, d3⟩ : _ ∧ _ ∧ _ ∧ _)
    clear hk3 hk4 d0 d1 d2 d3
    go_wp2_with fail
    obtain ⟨d0, d1, d2, d3⟩ := HD.out
    refine bodyPost_ret (v := .agg #[.int .u64 0, .int .u64 0, .int .u64 0, .int .u64 0]) ?_ rfl ⟨rfl, ?_⟩
    · simp [results, Tryz.results132, go_sem, d0, d1, d2, d3]
    · first | exact ha0 | exact (((ha0.setCell (Nat.le_refl _) _).setCell (Nat.le_refl _) _).setCell (Nat.le_refl _) _).setCell (Nat.le_refl _) _
  | true =>
    have h0' : identL a.data.toList = true := h0
    rw [h0'] at HI
    cases h1 : denomB d with
    | false =>
      have h1' : denomL d.data.toList = false := h1
      rw [h1'] at HD
      clear h1 h1' h0 h0'
      show Calls Tryz.prog 132 _ _ fun e w' => e = .returned U4.zero.val ∧ _
      go_enter Tryz.func132, Tryz.ntmps132
      go_wp2_with fail
      refine (HI.out _).mono ?_
      rintro e w1 ⟨rfl, rfl⟩
      go_wp2_with fail
      refine (HD.out _).mono ?_
      rintro e w2 ⟨rfl, hb2⟩
      have hq := below_chain ha0 ha0.size hb2
      have hk3 : LBlk w2 w.heap.size U4.zero.cells := (hb2.block w.heap.size (Array.getElem?_eq_some_iff.1 HK0.out).1).trans HK0.out
      obtain ⟨z0, z1, z2, z3⟩ := hk3.all
      have y0 := blk_free hk3 0
      have y1 := blk_free hk3 1
      have y2 := blk_free hk3 2
      have y3 := blk_free hk3 3
      have hk4 := LBlk.zero4 hk3
      obtain ⟨d0, d1, d2, d3⟩ := hk4.all0
      have HD := Lib.hid (⟨d0, d1, d2, d3⟩ : _ ∧ _ ∧ _ ∧ _)
      clear hk3 hk4 d0 d1 d2 d3
      go_wp2_with fail
      obtain ⟨d0, d1, d2, d3⟩ := HD.out
      refine bodyPost_ret (v := .agg #[.int .u64 0, .int .u64 0, .int .u64 0, .int .u64 0]) ?_ rfl ⟨rfl, ?_⟩
      · simp [results, Tryz.results132, go_sem, d0, d1, d2, d3]
      · first | exact hq | exact (((hq.setCell (Nat.le_refl _) _).setCell (Nat.le_refl _) _).setCell (Nat.le_refl _) _).setCell (Nat.le_refl _) _
    | true =>
      have h1' : denomL d.data.toList = true := h1
      rw [h1'] at HD
      clear h1 h1' h0 h0'
      show Calls Tryz.prog 132 _ _ fun e w' => e = .returned (amtU R (kBal a d)).val ∧ _
      generalize amtU R (kBal a d) = X at *
      unfold U4.val U4.cells at *
      go_enter Tryz.func132, Tryz.ntmps132
      go_wp2_with fail
      refine (HI.out _).mono ?_
      rintro e w1 ⟨rfl, rfl⟩
      go_wp2_with fail
      refine (HD.out _).mono ?_
      rintro e w2 ⟨rfl, hb2⟩
      have hq := below_chain ha0 ha0.size hb2
      have HK1 := Lib.hid ((hb2.block w.heap.size (Array.getElem?_eq_some_iff.1 HK0.out).1).trans HK0.out)
      go_wp2_with fail
      refine (HK.out _).mono ?_
      rintro e w3 ⟨rfl, rfl⟩
      go_wp2_with fail
      refine (HR.out _ hq).mono ?_
      rintro e w4 ⟨rfl, hb4⟩
      have hq4 := below_chain hq hq.size hb4
      have hk3 : LBlk w4 w.heap.size U4.zero.cells := (hb4.block w.heap.size (Array.getElem?_eq_some_iff.1 HK1.out).1).trans HK1.out
      obtain ⟨z0, z1, z2, z3⟩ := hk3.all
      have y0 := blk_free hk3 0
      have y1 := blk_free hk3 1
      have y2 := blk_free hk3 2
      have y3 := blk_free hk3 3
      have hk4 := LBlk.set4 (s := U4.zero) hk3 X
      obtain ⟨d0, d1, d2, d3⟩ := hk4.all
      have HD := Lib.hid (⟨d0, d1, d2, d3⟩ : _ ∧ _ ∧ _ ∧ _)
      clear hk3 hk4 d0 d1 d2 d3
      go_wp2_with fail
      obtain ⟨d0, d1, d2, d3⟩ := HD.out
      refine bodyPost_ret (v := .agg #[.int .u64 X.a, .int .u64 X.b, .int .u64 X.c, .int .u64 X.d]) ?_ rfl ⟨rfl, ?_⟩
      · simp [results, Tryz.results132, go_sem, d0, d1, d2, d3]
      · first | exact hq4 | exact (((hq4.setCell (Nat.le_refl _) _).setCell (Nat.le_refl _) _).setCell (Nat.le_refl _) _).setCell (Nat.le_refl _) _

theorem rsup_any {w : World} {b : Nat} {R : List Pr} (h : DocR w b R) (d : ByteArray) (hd : d.size ≤ 100000000) :
    Calls Tryz.prog 131 #[.pointer (some ⟨b, 0, none⟩), .string d] w fun e w' => e = .returned (supM R d).val ∧ Below w.heap.size w w' := by
  have HD := Lib.hid (fun W => rdenom_any d W (by unfold maxLen; omega))
  have HK := Lib.hid (fun W => rsupkey_any d W hd)
  have HR := Lib.hid (fun (W : World) (hb : Below w.heap.size w W) => rread_any (h.up hb) (kSup d))
  have ha0 : Below w.heap.size w (w.alloc (.cells #[.int .u64 0, .int .u64 0, .int .u64 0, .int .u64 0] 32)) := (Below.refl _ _).alloc (Nat.le_refl _) _
  have HK0 := Lib.hid (heap_alloc_new w (.cells #[.int .u64 0, .int .u64 0, .int .u64 0, .int .u64 0] 32))
  clear h
  unfold supM
  cases h1 : denomB d with
  | false =>
    have h1' : denomL d.data.toList = false := h1
    rw [h1'] at HD
    clear h1 h1'
    show Calls Tryz.prog 131 _ _ fun e w' => e = .returned U4.zero.val ∧ _
    go_enter Tryz.func131, Tryz.ntmps131
    go_wp2_with fail
    refine (HD.out _).mono ?_
    rintro e w2 ⟨rfl, hb2⟩
    have hq := below_chain ha0 ha0.size hb2
    have hk3 : LBlk w2 w.heap.size U4.zero.cells := (hb2.block w.heap.size (Array.getElem?_eq_some_iff.1 HK0.out).1).trans HK0.out
    obtain ⟨z0, z1, z2, z3⟩ := hk3.all
    have y0 := blk_free hk3 0
    have y1 := blk_free hk3 1
    have y2 := blk_free hk3 2
    have y3 := blk_free hk3 3
    have hk4 := LBlk.zero4 hk3
    obtain ⟨d0, d1, d2, d3⟩ := hk4.all0
    have HD := Lib.hid (⟨d0, d1, d2, d3⟩ : _ ∧ _ ∧ _ ∧ _)
    clear hk3 hk4 d0 d1 d2 d3
    go_wp2_with fail
    obtain ⟨d0, d1, d2, d3⟩ := HD.out
    refine bodyPost_ret (v := .agg #[.int .u64 0, .int .u64 0, .int .u64 0, .int .u64 0]) ?_ rfl ⟨rfl, ?_⟩
    · simp [results, Tryz.results131, go_sem, d0, d1, d2, d3]
    · first | exact hq | exact (((hq.setCell (Nat.le_refl _) _).setCell (Nat.le_refl _) _).setCell (Nat.le_refl _) _).setCell (Nat.le_refl _) _
  | true =>
    have h1' : denomL d.data.toList = true := h1
    rw [h1'] at HD
    clear h1 h1'
    show Calls Tryz.prog 131 _ _ fun e w' => e = .returned (amtU R (kSup d)).val ∧ _
    generalize amtU R (kSup d) = X at *
    unfold U4.val U4.cells at *
    go_enter Tryz.func131, Tryz.ntmps131
    go_wp2_with fail
    refine (HD.out _).mono ?_
    rintro e w2 ⟨rfl, hb2⟩
    have hq := below_chain ha0 ha0.size hb2
    have HK1 := Lib.hid ((hb2.block w.heap.size (Array.getElem?_eq_some_iff.1 HK0.out).1).trans HK0.out)
    go_wp2_with fail
    refine (HK.out _).mono ?_
    rintro e w3 ⟨rfl, rfl⟩
    go_wp2_with fail
    refine (HR.out _ hq).mono ?_
    rintro e w4 ⟨rfl, hb4⟩
    have hq4 := below_chain hq hq.size hb4
    have hk3 : LBlk w4 w.heap.size U4.zero.cells := (hb4.block w.heap.size (Array.getElem?_eq_some_iff.1 HK1.out).1).trans HK1.out
    obtain ⟨z0, z1, z2, z3⟩ := hk3.all
    have y0 := blk_free hk3 0
    have y1 := blk_free hk3 1
    have y2 := blk_free hk3 2
    have y3 := blk_free hk3 3
    have hk4 := LBlk.set4 (s := U4.zero) hk3 X
    obtain ⟨d0, d1, d2, d3⟩ := hk4.all
    have HD := Lib.hid (⟨d0, d1, d2, d3⟩ : _ ∧ _ ∧ _ ∧ _)
    clear hk3 hk4 d0 d1 d2 d3
    go_wp2_with fail
    obtain ⟨d0, d1, d2, d3⟩ := HD.out
    refine bodyPost_ret (v := .agg #[.int .u64 X.a, .int .u64 X.b, .int .u64 X.c, .int .u64 X.d]) ?_ rfl ⟨rfl, ?_⟩
    · simp [results, Tryz.results131, go_sem, d0, d1, d2, d3]
    · first | exact hq4 | exact (((hq4.setCell (Nat.le_refl _) _).setCell (Nat.le_refl _) _).setCell (Nat.le_refl _) _).setCell (Nat.le_refl _) _
end Go.Proofs.YtaafaaoioleokaaGreatDoor
namespace Go.Proofs.YtaafaaoioleokaaGreatDoor
set_option maxRecDepth 100000
open Go Go.RowKit
set_option linter.unusedVariables false

/-- one pair more, at an operation: the pair lies in the newest block -/
theorem wpList_push {ops : Array Oper} {rest : List Oper} {o : Oper} {a : Act} {Q : Exit → Act → World → Prop} {W : World} {B g : Nat} {v x : Value} {L : List Pr} {s : ByteArray} {l : List UInt8} (hgd : o.guard = none) (sv sx : Operand)
    (ho : o.op = .call { callee := .builtin .append, args := #[sv, sx], argTypes := #[22, 22] })
    (hs : a.eval sv = v) (hxe : a.eval sx = .slice (some ⟨g, 0, none⟩) 1 1) (hg0 : g = W.heap.size) (hown : OwnP B W B v L) (hx : Rd W B x l) (hm : L.length + 1 ≤ 1000000000) (hB : B ≤ W.heap.size)
    (h : ∀ v' w', OwnP B w' B v' (L ++ [(s, l)]) → Below B W w' → (∀ k, k < W.heap.size → v.ownBlock ≠ some k → w'.heap[k]? = W.heap[k]?) → W.heap.size ≤ w'.heap.size → wpList Tryz.prog ops Q rest (a.put o.dst v') w') :
    wpList Tryz.prog ops Q (o :: rest) a (W.alloc (.cells #[.string s, x] 76)) := by
  obtain ⟨i0, hi0, hiz, hisz, hiby⟩ := info_parts Tryz.infoPairL
  have hbz : Below W.heap.size W (W.alloc (.cells #[.string s, x] 76)) := (Below.refl _ _).alloc (Nat.le_refl _) _
  have hgz := heap_alloc_new W (.cells #[.string s, x] 76)
  have hobz := OwnP.up hown hbz
  have hpc : PrC B (W.alloc (.cells #[.string s, x] 76)) [.string s, x] (s, l) := ⟨_, rfl, RdS.old (hx.keep fun p hp => hbz.cell (Nat.lt_of_lt_of_le hp hB)) (Nat.le_trans hB hbz.size)⟩
  refine wpList_append_x (B0 := B) (b := g) (off := 0) hgd sv sx _ ho i0 _ 40 Tryz.underlying22 hi0 hiz hisz hiby rfl (by decide) hs hobz hxe _ hpc.len (fun j hj => (by rw [Nat.zero_add, hg0]; exact pairCells_get hgz j hj)) hpc.one hpc (fun w' c a hc hg => hc.grow hg (by decide)) (Nat.le_refl _) (by unfold maxLen; omega) (by omega) (Nat.le_trans hB hbz.size) ?_
  intro v7 w7 ho7 hg7
  have hbo := OwnX.below (B := B) hobz ((Below.refl B W).alloc hB (.cells #[.string s, x] 76)) (Nat.le_trans hB hbz.size) hg7
  exact h v7 w7 ho7 hbo (fun k hk hn => (hg7.block k (Nat.lt_of_lt_of_le hk hbz.size) (fun e => hn e.symm)).trans (hbz.block k hk)) (Nat.le_trans hbz.size hg7.size)

theorem putL_length (c : Chn) (R : List Pr) : (putL c R).length ≤ R.length + 1 := putG_length c _ R

set_option maxHeartbeats 8000000 in
theorem rput_any {w : World} {v : Value} {R : List Pr} (hr : RdP w w.heap.size v R) (hn : R.length ≤ 100000000) (c : Chn) (cv : Value) (hcv : Rd w w.heap.size cv (c.2.getD [])) :
    Calls Tryz.prog 150 #[v, .agg #[.string c.1, cv, .bool c.2.isNone]] w fun e w' => ∃ v', e = .returned v' ∧ RdP w' w'.heap.size v' (putL c R) ∧ Below w.heap.size w w' := by
  obtain ⟨A, cp, rfl, hc, hm, hp⟩ := hr
  unfold maxLen at hm
  obtain ⟨n, hnn⟩ : ∃ n, n = R.length := ⟨_, rfl⟩
  rw [← hnn] at hc hn ⊢
  obtain ⟨key, cx⟩ := c
  obtain ⟨val, hval⟩ : ∃ val, val = cx.getD [] := ⟨_, rfl⟩
  obtain ⟨gone, hgone⟩ : ∃ gone, gone = cx.isNone := ⟨_, rfl⟩
  dsimp only at hcv ⊢
  rw [← hval] at hcv
  rw [← hgone]
  have HPD : Hid (putL (key, cx) R = putG (key, some val) gone R ∧ n = R.length) := Lib.hid ⟨by
    unfold putL
    rw [hgone]
    cases cx with
    | none => show putG (key, none) true R = putG (key, some val) true R; rw [putG_true, putG_true]
    | some z => rw [hval]; rfl, hnn⟩
  have HPL := Lib.hid (putL_length (key, cx) R)
  generalize putL (key, cx) R = PL at *
  clear hval hgone hnn
  obtain ⟨Ac, cc, rfl⟩ := hcv.form
  have ha0 : Below w.heap.size w (w.alloc (.cells #[.string key, .slice Ac val.length cc, .bool gone] 197)) := (Below.refl _ _).alloc (Nat.le_refl _) _
  have hg0 := heap_alloc_new w (.cells #[.string key, .slice Ac val.length cc, .bool gone] 197)
  have hcv0 := (hcv.below ha0).more ha0.size
  have HB : Hid (∀ W, Below (w.alloc (.cells #[.string key, .slice Ac val.length cc, .bool gone] 197)).heap.size (w.alloc (.cells #[.string key, .slice Ac val.length cc, .bool gone] 197)) W →
      Below w.heap.size w W ∧ Rd W (w.alloc (.cells #[.string key, .slice Ac val.length cc, .bool gone] 197)).heap.size (.slice Ac val.length cc) val ∧ W.cell? ⟨w.heap.size, 0, none⟩ = some (.string key) ∧ W.cell? ⟨w.heap.size, 1, none⟩ = some (.slice Ac val.length cc) ∧ W.cell? ⟨w.heap.size, 2, none⟩ = some (.bool gone)) := Lib.hid fun W hb => by
    have hb0 := hb.block w.heap.size (blk_lt hg0)
    have h1 := hb0.trans hg0
    exact ⟨below_chain ha0 ha0.size hb, hcv0.below hb, blk_cell h1 0, blk_cell h1 1, blk_cell h1 2⟩
  have HP : Hid (0 < R.length → ∃ b o, A = some ⟨b, o, none⟩ ∧ b < (w.alloc (.cells #[.string key, .slice Ac val.length cc, .bool gone] 197)).heap.size ∧ ∀ j (h : j < R.length), ∀ W, Below (w.alloc (.cells #[.string key, .slice Ac val.length cc, .bool gone] 197)).heap.size (w.alloc (.cells #[.string key, .slice Ac val.length cc, .bool gone] 197)) W →
      W.cell? ⟨b, o + j * 2, none⟩ = some (.string R[j].1) ∧ ∃ x, W.cell? ⟨b, o + j * 2 + 1, none⟩ = some x ∧ Rd W (w.alloc (.cells #[.string key, .slice Ac val.length cc, .bool gone] 197)).heap.size x R[j].2) := Lib.hid fun h0 => by
    obtain ⟨b, o, hA, hbl, hcell⟩ := hp h0
    refine ⟨b, o, hA, Nat.lt_of_lt_of_le hbl ha0.size, fun j hj W hb => ?_⟩
    obtain ⟨q1, x, q2, q3⟩ := hcell j hj
    have hq := below_chain ha0 ha0.size hb
    exact ⟨(hq.cell (p := ⟨b, o + j * 2, none⟩) hbl).trans q1, x, (hq.cell (p := ⟨b, o + j * 2 + 1, none⟩) hbl).trans q2, (q3.below hq).more ha0.size⟩
  clear ha0 hg0 hcv0 hp hcv
  go_enter Tryz.func150, Tryz.ntmps150
  go_wp2_with fail
  generalize w.alloc (.cells #[.string key, .slice Ac val.length cc, .bool gone] 197) = W0 at *
  go_loopw [5, 6, 13] (fun out dn i wr => ∃ (k : Nat) (L : List Pr) (d : Bool), k ≤ n ∧ i = .int .i64 (k : Int) ∧ dn = .bool d ∧ OwnP W0.heap.size wr W0.heap.size out L ∧ Hid (L ++ putG (key, some val) d (R.drop k) = PL) ∧ Below W0.heap.size W0 wr)
    (fun _ _ i _ => n - (intOf i).toNat)
  case atStart => exact ⟨0, [], gone, Nat.zero_le _, rfl, rfl, OwnX.nil _ _, Lib.hid (by rw [HPD.out.1]; rfl), Below.refl _ _⟩
  case round =>
    rename World => W
    obtain ⟨k, L, d, hkn, rfl, rfl, hob, HE, hb⟩ := hrel
    obtain ⟨hqW, hcvW, e0, e1, e2⟩ := HB.out W hb
    have hLl : L.length ≤ n + 1 := by
      have h1 := congrArg List.length HE.out
      have h2 := HPL.out
      rw [List.length_append] at h1
      have h3 := HPD.out.2
      omega
    by_cases hlt : k < n
    · have hkl : k < R.length := by have := HPD.out.2; omega
      obtain ⟨b0, o, rfl, hbl, hcell⟩ := HP.out (by omega)
      obtain ⟨a1, x, a2, hxr⟩ := hcell k hkl W hb
      obtain ⟨Ax, cxx, rfl⟩ := hxr.form
      have i1 : (0 : Int) ≤ (k : Int) := by omega
      have i2 : (k : Int) < (n : Int) := by omega
      have hdr : R.drop k = R[k] :: R.drop (k + 1) := List.drop_eq_getElem_cons hkl
      have HR := HE.out
      rw [hdr, putG] at HR
      have HR' := Lib.hid HR
      clear HR hcell hdr HE
      obtain ⟨Ab, cb, hv⟩ := hob.form
      subst hv
      generalize R[k] = pk at *
      obtain ⟨s, l⟩ := pk
      dsimp only at a1 a2 hxr HR'
      have hbz : Below W.heap.size W (W.alloc (.cells #[.string s, .slice Ax l.length cxx] 76)) := (Below.refl _ _).alloc (Nat.le_refl _) _
      have hgz := heap_alloc_new W (.cells #[.string s, .slice Ax l.length cxx] 76)
      have hsz1 : (W.alloc (.cells #[.string s, .slice Ax l.length cxx] 76)).heap.size = W.heap.size + 1 := by simp
      have z0 : (W.alloc (.cells #[.string s, .slice Ax l.length cxx] 76)).cell? ⟨W.heap.size, 0, none⟩ = some (.string s) := blk_cell hgz 0
      have z1 : (W.alloc (.cells #[.string s, .slice Ax l.length cxx] 76)).cell? ⟨W.heap.size, 1, none⟩ = some (.slice Ax l.length cxx) := blk_cell hgz 1
      have hob1 := OwnP.up hob hbz
      have hb1 := below_chain hb hb.size hbz
      have hxr1 : Rd (W.alloc (.cells #[.string s, .slice Ax l.length cxx] 76)) W0.heap.size (.slice Ax l.length cxx) l := hxr.keep fun p hp => hbz.cell (Nat.lt_of_lt_of_le hp hb.size)
      obtain ⟨hqW1, hcvW1, f0, f1, f2⟩ := HB.out _ hb1
      have hne0 : ∀ q, (Value.slice Ab L.length cb).ownBlock = some q → q < W.heap.size := fun q hq => (OwnX.lt hob q hq).2
      have hsW : W0.heap.size ≤ W.heap.size := hb.size
      have HX := Lib.hid (And.intro hob1 (And.intro hb1 (And.intro hxr1 (And.intro hcvW1 (And.intro hgz (And.intro hne0 hsz1))))))
      clear hob hbz hxr e0 e1 e2 hcvW hqW hb hob1 hb1 hxr1 hcvW1 hgz hne0 hqW1
      cases d with
      | true =>
        have HR2 : Hid (L ++ ((if s = key then [] else [(s, l)]) ++ putG (key, some val) true (R.drop (k + 1))) = PL) := Lib.hid (by simpa using HR'.out)
        by_cases hs : s = key
        · have HE : Hid (L ++ putG (key, some val) true (R.drop (k + 1)) = PL) := Lib.hid (by simpa [hs] using HR2.out)
          subst hs
          clear HR2 HR'
          go_wp2_with fail
          exact ⟨⟨k + 1, L, true, by omega, by go_num, rfl, HX.out.1, HE, HX.out.2.1⟩, by simp [intOf]; omega⟩
        · have HE : Hid ((L ++ [(s, l)]) ++ putG (key, some val) true (R.drop (k + 1)) = PL) := Lib.hid (by simpa [hs] using HR2.out)
          have hne : (s.toList == key.toList) = false := beq_toList_ne hs
          clear HR2 HR' hs
          go_wp2_with (at_builtin; refine wpList_push (L := L) (s := s) (l := l) rfl (.tmp 39) (.tmp 41) rfl rfl rfl HX.out.2.2.2.2.2.2.symm HX.out.1 HX.out.2.2.1 (by omega) HX.out.2.1.size ?_; intro v3 w3 ho3 hb3 hk3 hs3)
          exact ⟨⟨k + 1, L ++ [(s, l)], true, by omega, by go_num, rfl, ho3, HE, HX.out.2.1.trans hb3⟩, by simp [intOf]; omega⟩
      | false =>
        cases hl : ltS s key with
        | true =>
          have hs : ¬ s = key := ltS_ne hl
          have HE : Hid ((L ++ [(s, l)]) ++ putG (key, some val) false (R.drop (k + 1)) = PL) := Lib.hid (by simpa [hs, hl] using HR'.out)
          have hl' : Op.bytesLess s.toList key.toList = true := hl
          have hne : (s.toList == key.toList) = false := beq_toList_ne hs
          clear HR' hs hl
          go_wp2_with (at_builtin; refine wpList_push (L := L) (s := s) (l := l) rfl (.tmp 39) (.tmp 41) rfl rfl rfl HX.out.2.2.2.2.2.2.symm HX.out.1 HX.out.2.2.1 (by omega) HX.out.2.1.size ?_; intro v3 w3 ho3 hb3 hk3 hs3)
          exact ⟨⟨k + 1, L ++ [(s, l)], false, by omega, by go_num, rfl, ho3, HE, HX.out.2.1.trans hb3⟩, by simp [intOf]; omega⟩
        | false =>
          have hl' : Op.bytesLess s.toList key.toList = false := hl
          by_cases hs : s = key
          · have HE : Hid ((L ++ [(key, val)]) ++ putG (key, some val) true (R.drop (k + 1)) = PL) := Lib.hid (by simpa [hs, hl, ltS_irrefl] using HR'.out)
            subst hs
            clear HR' hl
            go_wp2_with (at_builtin; refine wpList_push (L := L) (l := val) rfl (.tmp 26) (.tmp 32) rfl rfl rfl HX.out.2.2.2.2.2.2.symm HX.out.1 HX.out.2.2.2.1 (by omega) HX.out.2.1.size ?_; intro v3 w3 ho3 hb3 hk3 hs3; obtain ⟨-, -, g0, g1, g2⟩ := HB.out _ (HX.out.2.1.trans hb3); have hy0 : w3.cell? ⟨W.heap.size, 0, none⟩ = some (.string s) := blk_cell ((hk3 W.heap.size (by simp) (fun e => by have := HX.out.2.2.2.2.2.1 _ e; omega)).trans HX.out.2.2.2.2.1) 0)
            exact ⟨⟨k + 1, L ++ [(s, val)], true, by omega, by go_num, rfl, ho3, HE, HX.out.2.1.trans hb3⟩, by simp [intOf]; omega⟩
          · have HE : Hid ((L ++ [(key, val)] ++ [(s, l)]) ++ putG (key, some val) true (R.drop (k + 1)) = PL) := Lib.hid (by simpa [hs, hl] using HR'.out)
            have hne : (s.toList == key.toList) = false := beq_toList_ne hs
            clear HR' hl hs
            go_wp2_with (first
              | (at_builtin; refine wpList_push (L := L) (s := key) (l := val) rfl (.tmp 26) (.tmp 32) rfl rfl rfl HX.out.2.2.2.2.2.2.symm HX.out.1 HX.out.2.2.2.1 (by omega) HX.out.2.1.size ?_; intro v3 w3 ho3 hb3 hk3 hs3; obtain ⟨-, -, g0, g1, g2⟩ := HB.out _ (HX.out.2.1.trans hb3); have hbk := (hk3 W.heap.size (by simp) (fun e => by have := HX.out.2.2.2.2.2.1 _ e; omega)).trans HX.out.2.2.2.2.1; have hy0 : w3.cell? ⟨W.heap.size, 0, none⟩ = some (.string s) := blk_cell hbk 0; have hy1 : w3.cell? ⟨W.heap.size, 1, none⟩ = some (.slice Ax l.length cxx) := blk_cell hbk 1)
              | (at_builtin; have hq3 := ho3; refine wpList_push (L := L ++ [(key, val)]) (s := s) (l := l) rfl (.tmp 39) (.tmp 41) rfl rfl rfl rfl hq3 (HX.out.2.2.1.below hb3) (by simp; omega) (Nat.le_trans HX.out.2.1.size hb3.size) ?_; intro v4 w4 ho4 hb4 hk4 hs4))
            exact ⟨⟨k + 1, L ++ [(key, val)] ++ [(s, l)], true, by omega, by go_num, rfl, ho4, HE, (HX.out.2.1.trans hb3).trans hb4⟩, by simp [intOf]; omega⟩
    · have i2 : ¬ (k : Int) < (n : Int) := by omega
      have hdr : R.drop k = [] := List.drop_eq_nil_of_le (by have := HPD.out.2; omega)
      have HR := HE.out
      rw [hdr, putG] at HR
      obtain ⟨Ab, cb, hv⟩ := hob.form
      subst hv
      cases d with
      | true =>
        have HF := Lib.hid (by simpa using HR : L = PL)
        clear HR HE hdr
        go_wp2_with fail
        go_ret
        exact ⟨_, rfl, by rw [← HF.out]; exact OwnP.rdP hob, hqW⟩
      | false =>
        have HF := Lib.hid (by simpa using HR : L ++ [(key, val)] = PL)
        clear HR HE hdr
        go_wp2_with (at_builtin; refine wpList_push (W := W) (L := L) (s := key) (l := val) rfl (.tmp 46) (.tmp 52) rfl rfl rfl rfl hob hcvW (by omega) hb.size ?_; intro v3 w3 ho3 hb3 hk3 hs3)
        go_ret
        exact ⟨_, rfl, by rw [← HF.out]; exact OwnP.rdP ho3, (HB.out _ (hb.trans hb3)).1⟩
end Go.Proofs.YtaafaaoioleokaaGreatDoor
namespace Go.Proofs.YtaafaaoioleokaaGreatDoor
set_option maxRecDepth 100000
open Go Go.RowKit
set_option linter.unusedVariables false

theorem Chg.cellB {w w' : World} {b : Nat} (h : Chg w w' (fun k => k = b)) {g i : Nat} {v : Value} (hne : g ≠ b) (e : w.cell? ⟨g, i, none⟩ = some v) : w'.cell? ⟨g, i, none⟩ = some v :=
  (cell_same (p := ⟨g, i, none⟩) (h.block g (World.block_lt_of_cell? w ⟨g, i, none⟩ e) hne)).trans e

theorem RdP.form {w : World} {B : Nat} {v : Value} {ps : List Pr} (h : RdP w B v ps) : ∃ A c, v = .slice A ps.length c := by obtain ⟨A, c, h, _⟩ := h; exact ⟨A, c, h⟩
theorem not_own {w : World} {b g i : Nat} {A : Option Addr} {n c : Nat} {t : TypeId} (hb : w.heap[b]? = some (.cells #[.slice A n c, .pointer none, .slice none 0 0] t (0, 0))) {u : Value} (e : w.cell? ⟨g, i, none⟩ = some u) (h1 : ∀ A n c, u ≠ .slice A n c) (h2 : u ≠ .pointer none) : g ≠ b := fun h => by
  subst h
  rw [blk_cell hb i] at e
  match i, e with
  | 0, e => exact h1 _ _ _ (Option.some.inj e).symm
  | 1, e => exact h2 (Option.some.inj e).symm
  | 2, e => exact h1 _ _ _ (Option.some.inj e).symm
  | i + 3, e => cases e
theorem Rd.setB {w : World} {b B : Nat} {A : Option Addr} {n c : Nat} {t : TypeId} (hb : w.heap[b]? = some (.cells #[.slice A n c, .pointer none, .slice none 0 0] t (0, 0))) (u : Value) {x : Value} {l : List UInt8} (h : Rd w B x l) : Rd (w.setCell ⟨b, 0, none⟩ u) B x l := by
  obtain ⟨A', c', hv, hc, hm, hp⟩ := h
  refine ⟨A', c', hv, hc, hm, fun h0 => ?_⟩
  obtain ⟨g, o, hA, hl, hcell⟩ := hp h0
  refine ⟨g, o, hA, hl, fun j hj => ?_⟩
  have e := hcell j hj
  have hne := not_own hb e (fun _ _ _ h => by cases h) (fun h => by cases h)
  exact (World.cell?_setCell_far w ⟨b, 0, none⟩ ⟨g, o + j, none⟩ u (fun h => hne h.symm)).trans e
theorem RdP.setB {w : World} {b B : Nat} {A : Option Addr} {n c : Nat} {t : TypeId} (hb : w.heap[b]? = some (.cells #[.slice A n c, .pointer none, .slice none 0 0] t (0, 0))) (u : Value) {x : Value} {ps : List Pr} (h : RdP w B x ps) : RdP (w.setCell ⟨b, 0, none⟩ u) B x ps := by
  obtain ⟨A', c', hv, hc, hm, hp⟩ := h
  refine ⟨A', c', hv, hc, hm, fun h0 => ?_⟩
  obtain ⟨g, o, hA, hl, hcell⟩ := hp h0
  refine ⟨g, o, hA, hl, fun j hj => ?_⟩
  obtain ⟨q1, z, q2, q3⟩ := hcell j hj
  have hne := not_own hb q1 (fun _ _ _ h => by cases h) (fun h => by cases h)
  exact ⟨(World.cell?_setCell_far w ⟨b, 0, none⟩ ⟨g, o + j * 2, none⟩ u (fun h => hne h.symm)).trans q1, z, (World.cell?_setCell_far w ⟨b, 0, none⟩ ⟨g, o + j * 2 + 1, none⟩ u (fun h => hne h.symm)).trans q2, q3.setB hb u⟩
set_option maxHeartbeats 4000000 in
theorem rdo_any {w : World} {b : Nat} {R : List Pr} (h : DocS w b R) (hn : R.length ≤ 100000000) (c : Chn) (cv : Value) (hcv : Rd w w.heap.size cv (c.2.getD [])) :
    Calls Tryz.prog 147 #[.pointer (some ⟨b, 0, none⟩), .agg #[.string c.1, cv, .bool c.2.isNone]] w fun e w' => e = .returned (.tuple #[]) ∧ DocS w' b (putL c R) ∧ Chg w w' (fun k => k = b) := by
  obtain ⟨v, hb, hr⟩ := h
  obtain ⟨key, cx⟩ := c
  obtain ⟨gone, hgone⟩ : ∃ gone, gone = cx.isNone := ⟨_, rfl⟩
  dsimp only at hcv ⊢
  obtain ⟨Ac, cc, hcf⟩ := hcv.form
  obtain ⟨A, cp, hvf⟩ : ∃ A c, v = .slice A R.length c := by obtain ⟨A, c, h, _⟩ := hr; exact ⟨A, c, h⟩
  have ha0 : Below w.heap.size w (w.alloc (.cells #[.string key, cv, .bool cx.isNone] 197)) := (Below.refl _ _).alloc (Nat.le_refl _) _
  have hg0 := heap_alloc_new w (.cells #[.string key, cv, .bool cx.isNone] 197)
  have hlt := blk_lt hb
  have HPUT : Hid (∀ W, Below w.heap.size w W → Calls Tryz.prog 150 #[v, .agg #[.string key, cv, .bool cx.isNone]] W fun e w' => ∃ v', e = .returned v' ∧ RdP w' w'.heap.size v' (putL (key, cx) R) ∧ Below W.heap.size W w') :=
    Lib.hid fun W hW => rput_any (hr.kept (Kept.of_below hW)) hn (key, cx) cv ((hcv.below hW).more hW.size)
  have HB : Hid (∀ W, Below w.heap.size w W → W.heap[b]? = some (.cells #[v, .pointer none, .slice none 0 0] 134 (0, 0))) := Lib.hid fun W hW => (hW.block b hlt).trans hb
  have HLT := Lib.hid hlt
  generalize putL (key, cx) R = PL at *
  rw [← hgone] at *
  clear hgone hr hb hcv
  subst hcf
  subst hvf
  generalize (cx.getD []).length = vl at *
  go_enter Tryz.func147, Tryz.ntmps147
  have hb0 := HB.out _ ha0
  have c0 := blk_cell hb0 0
  have c1 : (w.alloc (.cells #[.string key, .slice Ac vl cc, .bool gone] 197)).cell? ⟨b, 1, none⟩ = some (.pointer none) := blk_cell hb0 1
  go_wp2_with fail
  have g0 : (w.alloc (.cells #[.string key, .slice Ac vl cc, .bool gone] 197)).drew.cell? ⟨w.heap.size, 0, none⟩ = some (.string key) := blk_cell hg0 0
  have g1 : (w.alloc (.cells #[.string key, .slice Ac vl cc, .bool gone] 197)).drew.cell? ⟨w.heap.size, 1, none⟩ = some (.slice Ac vl cc) := blk_cell hg0 1
  have g2 : (w.alloc (.cells #[.string key, .slice Ac vl cc, .bool gone] 197)).drew.cell? ⟨w.heap.size, 2, none⟩ = some (.bool gone) := blk_cell hg0 2
  have c0' : (w.alloc (.cells #[.string key, .slice Ac vl cc, .bool gone] 197)).drew.cell? ⟨b, 0, none⟩ = some (.slice A R.length cp) := c0
  have had : Below w.heap.size w (w.alloc (.cells #[.string key, .slice Ac vl cc, .bool gone] 197)).drew := ha0.drew
  have HC := Lib.hid (HPUT.out _ had)
  clear c0 c1 hb0 hg0
  go_region_law (first
    | (go_simp; refine HC.out.mono ?_; rintro e w2 ⟨v2, rfl, hr2, hb2⟩; dsimp only; have hq2 := below_chain had had.size hb2; have hbk := HB.out _ hq2; have e0 : w2.cell? ⟨b, 0, none⟩ = some (.slice A R.length cp) := blk_cell hbk 0; have f0 := blk_free hbk 0; obtain ⟨A2, c2, hv2⟩ := RdP.form hr2; subst hv2)
    | fail)
  all_goals
    have hbk2 := blk_set hbk 0 (.slice A2 PL.length c2)
    have hch : Chg w (w2.setCell ⟨b, 0, none⟩ (.slice A2 PL.length c2)) (fun k => k = b) := (Chg.of_below hq2 _).trans' (Chg.set w2 (p := ⟨b, 0, none⟩) (F := fun k => k = b) rfl _)
    have hrr := (hr2.setB hbk (.slice A2 PL.length c2))
    have hsz : (w2.setCell ⟨b, 0, none⟩ (.slice A2 PL.length c2)).heap.size = w2.heap.size := by simp [World.setCell]
    rw [← hsz] at hrr
    go_wp2_with fail
    refine bodyPost_ret (results_none rfl _ _ _) rfl ?_
    exact ⟨rfl, ⟨_, by simpa using hbk2, hrr⟩, hch⟩

theorem built_chg (key : ByteArray) (A : Option Addr) (n c : Nat) : Tryz.prog.built 197 [(0, .string key), (1, .slice A n c)] = some #[.string key, .slice A n c, .bool false] := by rfl
theorem built_del (key : ByteArray) : Tryz.prog.built 197 [(0, .string key), (2, .bool true)] = some #[.string key, .slice none 0 0, .bool true] := by rfl
theorem _root_.Go.wp_build_too {P : Program} {o : Oper} {a : Act} {w : World} {K : Act → World → Prop} {Q : Exit → Act → World → Prop} (t : TypeId) (parts : Array (Nat × Operand)) (cells : Array Value) (ho : o.op = .build t parts)
    (hf : P.built t (parts.map fun (i, x) => (i, a.eval x)).toList = some cells)
    (h : K (a.put o.dst (.agg cells)) w) : o.wp P a w K Q := by
  unfold Oper.wp execOp
  simp only [ho, Sem.run_bind, run_build w t _ cells hf, Result.andThen_ok]
  exact h
set_option maxHeartbeats 4000000 in
theorem rset_any {w : World} {b : Nat} {R : List Pr} (h : DocS w b R) (hn : R.length ≤ 100000000) (key : ByteArray) (hk : key.size ≤ maxLen) (v : Value) (val : List UInt8) (hr : Rd w w.heap.size v val) (hp : pairB (key, val) = true) :
    Calls Tryz.prog 87 #[.pointer (some ⟨b, 0, none⟩), .string key, v] w fun e w' => e = .returned (.int .i64 0) ∧ DocS w' b (putL (key, some val) R) ∧ Chg w w' (fun k => k = b) := by
  obtain ⟨j0, hj0, hjz, hjs, hjb⟩ := info_parts Tryz.infoByte
  have HT := Lib.hid (rtakes_any key v val w hk hr)
  rw [hp] at HT
  have hpl : val.length ≤ 65535 := by
    simp only [pairB, Bool.and_eq_true, decide_eq_true_eq] at hp
    exact hp.2
  have hbe : Below w.heap.size w (w.alloc (.cells #[] 5)) := (Below.refl _ _).alloc (Nat.le_refl _) _
  have hrE : Rd (w.alloc (.cells #[] 5)) w.heap.size v val := hr.below hbe
  have HD := Lib.hid (fun (W : World) (hb : Below w.heap.size w W) (cv : Value) (hcv : Rd W W.heap.size cv val) => rdo_any (h.up hb) hn (key, some val) cv hcv)
  obtain ⟨A, c, rfl⟩ := hr.form
  clear h hr hp
  go_enter Tryz.func87, Tryz.ntmps87
  go_wp2_with fail
  refine HT.out.mono ?_
  rintro e w1 ⟨rfl, rfl⟩
  go_wp2_with (first
    | (at_builtin; refine wpList_append_rd rfl (.tmp 13) (.tmp 14) _ rfl j0 Tryz.underlying37 hj0 hjz hjs hjb rfl (own_empty w (Nat.le_refl _)) rfl hrE (by simp; omega) hbe.size ?_; intro v3 w3 ho3 hg3 _; have hb3 : Below w.heap.size w w3 := Own.below_grown hbe (own_empty w (Nat.le_refl _)) (Nat.le_refl _) hbe.size hg3; replace ho3 : Own w3 w.heap.size v3 val := ho3; have HC := Lib.hid (HD.out w3 hb3 v3 ho3.rd); obtain ⟨A3, c3, hv3⟩ := ho3.form; subst hv3)
    | (with_reducible refine at_build 197 ?_
       have hcc := HC
       refine wpList_plain rfl fun K hK => wp_build_too 197 _ _ rfl ?_ (hK _ _ ?_)
       · simp only [List.map_toArray, List.map_cons, List.map_nil]
         exact built_chg key A3 val.length c3))
  refine HC.out.mono ?_
  rintro e w4 ⟨rfl, hd, hc⟩
  go_wp2_with fail
  go_ret
  exact ⟨rfl, hd, (Chg.of_below hb3 _).trans' hc⟩
set_option maxHeartbeats 2000000 in
theorem rdel_any {w : World} {b : Nat} {R : List Pr} (h : DocS w b R) (hn : R.length ≤ 100000000) (key : ByteArray) :
    Calls Tryz.prog 177 #[.pointer (some ⟨b, 0, none⟩), .string key] w fun e w' => e = .returned (.tuple #[]) ∧ DocS w' b (putL (key, none) R) ∧ Chg w w' (fun k => k = b) := by
  have HC := Lib.hid (rdo_any h hn (key, none) (.slice none 0 0) (Rd.nil _ _))
  clear h
  go_enter Tryz.func177, Tryz.ntmps177
  go_wp2_with (
    with_reducible refine at_build 197 ?_
    refine wpList_plain rfl fun K hK => wp_build_too 197 _ _ rfl ?_ (hK _ _ ?_)
    · simp only [List.map_toArray, List.map_cons, List.map_nil]
      exact built_del key)
  refine HC.out.mono ?_
  rintro e w4 ⟨rfl, hd, hc⟩
  go_wp2_with fail
  go_end0
  exact ⟨rfl, hd, hc⟩
end Go.Proofs.YtaafaaoioleokaaGreatDoor
namespace Go.Proofs.YtaafaaoioleokaaGreatDoor
set_option maxRecDepth 100000
open Go Go.RowKit
set_option linter.unusedVariables false

set_option maxHeartbeats 1000000 in
theorem rzero_any (x : U4) (w : World) : Calls Tryz.prog 148 #[x.val] w fun e w' => e = .returned (.bool (eqB x U4.zero)) ∧ Below w.heap.size w w' := by
  have q : ∀ W, (binOp .eql 32 (.agg #[.int .u64 (x.a : Int), .int .u64 (x.b : Int), .int .u64 (x.c : Int), .int .u64 (x.d : Int)]) (.agg #[.int .u64 0, .int .u64 0, .int .u64 0, .int .u64 0])).run Tryz.prog W = .ok (.bool (eqB x U4.zero)) W := fun W => eql4 x U4.zero W
  have ha0 : Below w.heap.size w (w.alloc (.cells x.cells 32)) := (Below.refl _ _).alloc (Nat.le_refl _) _
  have hU := LBlk.new w x.cells
  obtain ⟨z0, z1, z2, z3⟩ := LBlk.all (s := x) hU
  clear hU
  generalize eqB x U4.zero = r at *
  unfold U4.val U4.cells at *
  go_enter Tryz.func148, Tryz.ntmps148
  go_wp2_with fail
  go_ret
  exact ⟨rfl, ha0⟩

set_option maxHeartbeats 2000000 in
theorem rright_any (a d : ByteArray) (x : U4) (w : World) (ha : a.size ≤ maxLen) (hd : d.size ≤ maxLen) :
    Calls Tryz.prog 129 #[.string a, .string d, x.val] w fun e w' => e = .returned (.int .i64 (rightM a d x)) ∧ Below w.heap.size w w' := by
  have HI := Lib.hid (fun W => rident_any a W ha)
  have HD := Lib.hid (fun W => rdenom_any d W hd)
  have HZ := Lib.hid (fun W => rzero_any x W)
  have HW := Lib.hid (boxU w x)
  unfold rightM
  show Calls Tryz.prog 129 _ _ fun e w' => e = .returned (.int .i64 (if identL a.data.toList = true then (if denomL d.data.toList = true then (if eqB x U4.zero = true then 70 else 0) else 41) else 40)) ∧ _
  generalize identL a.data.toList = i1 at *
  generalize denomL d.data.toList = i2 at *
  generalize eqB x U4.zero = i3 at *
  unfold U4.val U4.cells at *
  go_enter Tryz.func129, Tryz.ntmps129
  go_wp2_with fail
  generalize w.alloc (.cells #[.int .u64 (x.a : Int), .int .u64 (x.b : Int), .int .u64 (x.c : Int), .int .u64 (x.d : Int)] 32) = W0 at *
  refine (HI.out _).mono ?_
  rintro e w1 ⟨rfl, rfl⟩
  cases i1
  · have hf := (HW.out _ (Below.refl _ _)).1
    go_wp2_with fail
    go_ret
    exact ⟨rfl, hf⟩
  · go_wp2_with fail
    refine (HD.out _).mono ?_
    rintro e w2 ⟨rfl, hb2⟩
    obtain ⟨hf, z0, z1, z2, z3⟩ := HW.out _ hb2
    cases i2
    · go_wp2_with fail
      go_ret
      exact ⟨rfl, hf⟩
    · go_wp2_with fail
      refine (HZ.out _).mono ?_
      rintro e w3 ⟨rfl, hb3⟩
      have hf3 := (HW.out _ (below_chain hb2 hb2.size hb3)).1
      cases i3
      · go_wp2_with fail
        go_ret
        exact ⟨rfl, hf3⟩
      · go_wp2_with fail
        go_ret
        exact ⟨rfl, hf3⟩

/-- a document's store behind calls: R of at most N pairs is kept in it -/
structure Doc (w : World) (b : Nat) (R : List Pr) (N : Nat) (W : World) : Prop where
  s : DocS W b R
  n : R.length ≤ N
  v : ∀ p ∈ R, p.2.length ≤ 2000000
  c : Chg w W (fun k => k = b)
section
variable {w W W2 : World} {b N : Nat} {R : List Pr}
theorem Doc.up (h : Doc w b R N W) (hb : Below W.heap.size W W2) : Doc w b R N W2 := ⟨h.s.up hb, h.n, h.v, h.c.trans' (.of_below hb _)⟩
theorem Doc.r (h : Doc w b R N W) (hN : N ≤ 100000000) : DocR W b R := ⟨h.s, Nat.le_trans h.n hN, h.v⟩
theorem Doc.more {N' : Nat} (h : Doc w b R N W) (hN : N ≤ N') : Doc w b R N' W := ⟨h.s, Nat.le_trans h.n hN, h.v, h.c⟩
theorem keepL_short {key : ByteArray} {x : U4} (h : ∀ p ∈ R, p.2.length ≤ 2000000) : ∀ p ∈ keepL key x R, p.2.length ≤ 2000000 := fun p hp => by
  unfold keepL at hp
  rcases List.mem_append.1 ((putL_perm key _ R).mem_iff.1 hp) with hp | hp
  · split at hp
    · cases hp
    · next v e =>
      rw [List.mem_singleton.1 hp]
      split at e
      · cases e
      · injection e with e
        rw [← e, be_length]
        decide
  · exact h p (List.mem_filter.1 hp).1
theorem keepL_length {key : ByteArray} {x : U4} : (keepL key x R).length ≤ R.length + 1 := putL_length _ R
end
set_option maxHeartbeats 2000000 in
theorem Doc.keep {w W : World} {b N : Nat} {R : List Pr} (h : Doc w b R N W) (hN : N + 1 ≤ 100000000) {key : ByteArray} (hk : keyB key = true) {x : U4} (hx : x.ok) :
    Calls Tryz.prog 133 #[.pointer (some ⟨b, 0, none⟩), .string key, x.val] W fun e w' => e = .returned (.tuple #[]) ∧ Doc w b (keepL key x R) (N + 1) w' ∧ Chg W w' (fun k => k = b) := by
  have hks := keyB_size hk
  have hpb : pairB (key, be x.nat 32) = true := by simp [pairB, hk, be_length]
  have HZ := Lib.hid (fun W => rzero_any x W)
  have HB := Lib.hid (fun W => rbytes_any x W hx)
  have HW := Lib.hid (boxU W x)
  have HL : Hid ((keepL key x R).length ≤ N + 1 ∧ (∀ p ∈ keepL key x R, p.2.length ≤ 2000000) ∧ Chg w W (fun k => k = b)) := Lib.hid ⟨Nat.le_trans keepL_length (Nat.succ_le_succ h.n), keepL_short h.v, h.c⟩
  have HD := Lib.hid (fun (Z : World) (hb : Below W.heap.size W Z) => rdel_any (h.s.up hb) (Nat.le_trans h.n (by omega)) key)
  have HS := Lib.hid (fun (Z : World) (hb : Below W.heap.size W Z) (v : Value) (hr : Rd Z Z.heap.size v (be x.nat 32)) => rset_any (h.s.up hb) (Nat.le_trans h.n (by omega)) key hks v _ hr hpb)
  obtain ⟨K, hK⟩ : ∃ K, K = keepL key x R := ⟨_, rfl⟩
  have HK : Hid (K = putL (key, if eqB x U4.zero = true then none else some (be x.nat 32)) R) := Lib.hid hK
  rw [← hK] at HL ⊢
  clear hK h hpb
  generalize eqB x U4.zero = z at *
  unfold U4.val U4.cells at *
  go_enter Tryz.func133, Tryz.ntmps133
  have hw0 := HW.out _ (Below.refl _ _)
  obtain ⟨-, z0, z1, z2, z3⟩ := hw0
  go_wp2_with fail
  generalize W.alloc (.cells #[.int .u64 (x.a : Int), .int .u64 (x.b : Int), .int .u64 (x.c : Int), .int .u64 (x.d : Int)] 32) = W0 at *
  refine (HZ.out _).mono ?_
  rintro e w1 ⟨rfl, hb1⟩
  obtain ⟨hf, y0, y1, y2, y3⟩ := HW.out _ hb1
  clear z0 z1 z2 z3
  cases z
  · rw [if_neg (by decide)] at HK
    go_wp2_with fail
    refine (HB.out _).mono ?_
    rintro e w2 ⟨v2, rfl, ho2, hb2⟩
    obtain ⟨hf2, -⟩ := HW.out _ (below_chain hb1 hb1.size hb2)
    have HC := Lib.hid (HS.out _ hf2 v2 ho2.rd)
    obtain ⟨A2, c2, rfl⟩ := ho2.form' (be_length x.nat 32)
    have hf2' := Lib.hid hf2
    clear ho2
    go_wp2_with fail
    refine HC.out.mono ?_
    rintro e w3 ⟨rfl, hd3, hc3⟩
    rw [← HK.out] at hd3
    have hcc := (Chg.of_below hf2'.out _).trans' hc3
    go_wp2_with fail
    go_end0
    exact ⟨rfl, ⟨hd3, HL.out.1, HL.out.2.1, HL.out.2.2.trans' hcc⟩, hcc⟩
  · rw [if_pos rfl] at HK
    have HC := Lib.hid (HD.out _ hf)
    have hf2' := Lib.hid hf
    go_wp2_with fail
    refine HC.out.mono ?_
    rintro e w3 ⟨rfl, hd3, hc3⟩
    rw [← HK.out] at hd3
    have hcc := (Chg.of_below hf2'.out _).trans' hc3
    go_wp2_with fail
    refine bodyPost_ret (results_none rfl _ _ _) rfl ?_
    exact ⟨rfl, ⟨hd3, HL.out.1, HL.out.2.1, HL.out.2.2.trans' hcc⟩, hcc⟩
theorem DocS.ne {W : World} {b g : Nat} {R : List Pr} {cs : Array Value} (h : DocS W b R) (hU : LBlk W g cs) : g ≠ b := fun e => by
  subst e
  obtain ⟨v, h1, _⟩ := h
  have h2 := h1.symm.trans hU
  injection h2 with h2
  injection h2 with h3 h4 h5
  exact absurd h4 (by decide)
end Go.Proofs.YtaafaaoioleokaaGreatDoor
namespace Go.Proofs.YtaafaaoioleokaaGreatDoor
set_option maxRecDepth 100000
open Go Go.RowKit
set_option linter.unusedVariables false

theorem rbegins_any (s pfx : ByteArray) (w : World) (hs : s.size ≤ maxLen) (hp : pfx.size ≤ maxLen) : Calls Tryz.prog 91 #[.string s, .string pfx] w fun e w' => e = .returned (.bool (begB pfx s)) ∧ w = w' := by
  unfold maxLen at hs hp
  by_cases h : pfx.size ≤ s.size
  · have j1 : (pfx.size : Int) ≤ (s.size : Int) := by omega
    have hcut := begB_cut h
    cases hb0 : begB pfx s with
    | true =>
      rw [hb0] at hcut
      have hcut' := hcut.symm
      clear hb0 hcut
      go_enter Tryz.func91, Tryz.ntmps91
      go_wp2
      go_ret
      exact ⟨rfl, rfl⟩
    | false =>
      rw [hb0] at hcut
      have hcut' := hcut.symm
      clear hb0 hcut
      go_enter Tryz.func91, Tryz.ntmps91
      go_wp2
      go_ret
      exact ⟨rfl, rfl⟩
  · have j1 : ¬ (pfx.size : Int) ≤ (s.size : Int) := by omega
    rw [begB_long h]
    go_enter Tryz.func91, Tryz.ntmps91
    go_wp2
    go_ret
    exact ⟨rfl, rfl⟩
set_option maxHeartbeats 1000000 in
theorem rall_any {w : World} {b : Nat} {v : Value} (hb : w.heap[b]? = some (.cells #[v, .pointer none, .slice none 0 0] 134 (0, 0))) (hv : ∃ A n c, v = .slice A n c) :
    Calls Tryz.prog 90 #[.pointer (some ⟨b, 0, none⟩)] w fun e w' => e = .returned v ∧ w = w' := by
  obtain ⟨A, n, c, rfl⟩ := hv
  have c0 : w.cell? ⟨b, 0, none⟩ = some (.slice A n c) := blk_cell hb 0
  have c1 : w.cell? ⟨b, 1, none⟩ = some (.pointer none) := blk_cell hb 1
  go_enter Tryz.func90, Tryz.ntmps90
  go_wp2_with fail
  go_ret
  exact ⟨rfl, rfl⟩
theorem filter_take_next {ps : List Pr} (b : Pr → Bool) (k : Nat) (h : k < ps.length) : (ps.take (k + 1)).filter b = (ps.take k).filter b ++ (if b ps[k] = true then [ps[k]] else []) := by
  rw [← List.take_append_getElem h, List.filter_append]
  congr 1
  by_cases e : b ps[k] = true <;> simp [e]
set_option maxHeartbeats 8000000 in
theorem rpairs_any {w : World} {b : Nat} {R : List Pr} (h : DocR w b R) (pfx : ByteArray) (hpf : pfx.size ≤ maxLen) (hks : ∀ p ∈ R, p.1.size ≤ maxLen) :
    Calls Tryz.prog 26 #[.pointer (some ⟨b, 0, none⟩), .string pfx] w fun e w' => ∃ v, e = .returned v ∧ RdP w' w'.heap.size v (R.filter (fun p => begB pfx p.1)) ∧ Below w.heap.size w w' := by
  obtain ⟨i0, hi0, hiz, hisz, hiby⟩ := info_parts Tryz.infoPairL
  obtain ⟨j0, hj0, hjz, hjs, hjb⟩ := info_parts Tryz.infoByte
  obtain ⟨⟨v, hb, hr⟩, hn, hvl⟩ := h
  have HA := Lib.hid (rall_any hb (by obtain ⟨A, c, h⟩ := RdP.form hr; exact ⟨A, _, c, h⟩))
  have HBG := Lib.hid (fun (s : ByteArray) (W : World) (hs : s.size ≤ maxLen) => rbegins_any s pfx W hs hpf)
  obtain ⟨A, c, rfl, hc, hm, hp⟩ := hr
  unfold maxLen at hm
  obtain ⟨n, hnn⟩ : ∃ n, n = R.length := ⟨_, rfl⟩
  rw [← hnn] at hc hn HA
  have HN := Lib.hid hnn
  have HP := Lib.hid hp
  have HV := Lib.hid hvl
  have HK := Lib.hid hks
  clear hp hnn hvl hks hb hpf
  go_enter Tryz.func26, Tryz.ntmps26
  go_wp2_with fail
  refine HA.out.mono ?_
  rintro e w0 ⟨rfl, rfl⟩
  clear HA
  go_wp2_with fail
  go_loopw [5, 11] (fun out i wr => ∃ k : Nat, k ≤ n ∧ i = .int .i64 (k : Int) ∧ OwnP 0 wr w.heap.size out ((R.take k).filter (fun p => begB pfx p.1)) ∧ Below w.heap.size w wr)
    (fun _ i _ => n - (intOf i).toNat)
  case atStart => exact ⟨0, Nat.zero_le _, rfl, by simpa using OwnX.nil _ _, Below.refl _ _⟩
  case round =>
    rename World => W
    obtain ⟨k, hkn, rfl, hob, hb⟩ := hrel
    by_cases hlt : k < n
    · have hkl : k < R.length := by have := HN.out; omega
      obtain ⟨g, o, rfl, hgl, hcell⟩ := HP.out (by omega)
      obtain ⟨q1, x, q2, q3⟩ := hcell k hkl
      have a1 := (hb.cell (p := ⟨g, o + k * 2, none⟩) hgl).trans q1
      have a2 := (hb.cell (p := ⟨g, o + k * 2 + 1, none⟩) hgl).trans q2
      have hvk := HV.out _ (List.getElem_mem hkl)
      have hkk := HK.out _ (List.getElem_mem hkl)
      have i1 : (0 : Int) ≤ (k : Int) := by omega
      have i2 : (k : Int) < (n : Int) := by omega
      obtain ⟨Ax, cx, rfl⟩ := q3.form
      have hlb : ((R.take k).filter (fun p => begB pfx p.1)).length ≤ n := by
        have h1 := List.length_filter_le (fun p : Pr => begB pfx p.1) (R.take k)
        rw [List.length_take] at h1
        omega
      have HSN := Lib.hid (filter_take_next (fun p => begB pfx p.1) k hkl)
      have hal : Below W.heap.size W (W.alloc (.cells #[.string R[k].1, .slice Ax R[k].2.length cx] 76)) := (Below.refl _ _).alloc (Nat.le_refl _) _
      have hcs := heap_alloc_new W (.cells #[.string R[k].1, .slice Ax R[k].2.length cx] 76)
      have hq1 := below_chain hb hb.size hal
      have hob1 := OwnP.up hob hal
      have hne := OwnX.lt hob
      have hr1 := (q3.below hq1).more hq1.size
      generalize (R.take k).filter (fun p => begB pfx p.1) = L at *
      clear hcell q1 q2 q3 hob
      generalize R[k] = pk at *
      obtain ⟨s, l⟩ := pk
      dsimp only at a1 a2 hal hcs hq1 hob1 hr1 hvk hkk HSN
      obtain ⟨Ab, cb, rfl⟩ := hob1.form
      have HNE := Lib.hid hne
      clear hne
      have HB := Lib.hid (fun W => HBG.out s W hkk)
      have d0 : (W.alloc (.cells #[.string s, .slice Ax l.length cx] 76)).cell? ⟨W.heap.size, 0, none⟩ = some (.string s) := blk_cell hcs 0
      have d1 : (W.alloc (.cells #[.string s, .slice Ax l.length cx] 76)).cell? ⟨W.heap.size, 1, none⟩ = some (.slice Ax l.length cx) := blk_cell hcs 1
      have hlz : W.heap.size < (W.alloc (.cells #[.string s, .slice Ax l.length cx] 76)).heap.size := by simp
      have HX := Lib.hid (And.intro hq1 (And.intro hob1 (And.intro hr1 (And.intro d0 (And.intro d1 hlz)))))
      clear hal hcs hq1 hob1 hr1 d1 hlz hb
      cases hbg : begB pfx s with
      | false =>
        rw [hbg] at HB HSN
        simp only [Bool.false_eq_true, if_false, List.append_nil] at HSN
        clear hbg
        go_wp2_with fail
        refine (HB.out _).mono ?_
        rintro e w1 ⟨rfl, rfl⟩
        go_wp2_with fail
        exact ⟨⟨k + 1, by omega, by go_num, by rw [HSN.out]; exact HX.out.2.1, HX.out.1⟩, by simp [intOf]; omega⟩
      | true =>
        rw [hbg] at HB HSN
        simp only [if_true] at HSN
        clear hbg
        go_wp2_with fail
        generalize hW1 : W.alloc (.cells #[.string s, .slice Ax l.length cx] 76) = W1 at *
        clear hW1 d0
        refine (HB.out _).mono ?_
        rintro e w1 ⟨rfl, rfl⟩
        obtain ⟨hq1, hob1, hr1, d0, d1, hlz⟩ := HX.out
        have hbE : Below W1.heap.size W1 (W1.alloc (.cells #[] 5)) := (Below.refl _ _).alloc (Nat.le_refl _) _
        have hED : Own (W1.alloc (.cells #[] 5)).drew W1.heap.size (.slice (some ⟨W1.heap.size, 0, none⟩) 0 0) [] := own_empty W1 (Nat.le_refl _)
        have hbD : Below W1.heap.size W1 (W1.alloc (.cells #[] 5)).drew := hbE.drew
        have HLE := Lib.hid (show W1.heap.size ≤ (W1.alloc (.cells #[] 5)).drew.heap.size by simp)
        have hrD := hr1.up (Nat.le_refl _) hbD
        have HCL : Hid (∀ Z, Below W1.heap.size W1 Z → Z.cell? ⟨W.heap.size, 0, none⟩ = some (.string s) ∧ Z.cell? ⟨W.heap.size, 1, none⟩ = some (.slice Ax l.length cx)) := Lib.hid fun Z hz => ⟨(hz.cell (p := ⟨W.heap.size, 0, none⟩) hlz).trans d0, (hz.cell (p := ⟨W.heap.size, 1, none⟩) hlz).trans d1⟩
        have hz0 : Below W1.heap.size W1 W1.drew := (Below.refl _ _).drew
        have HG := Lib.hid hlz
        clear d0 d1 HX hbE hlz
        go_wp2_with fail
        go_region_held_law (fun Z => Z.cell? ⟨W.heap.size, 0, none⟩ = some (.string s) ∧ Z.cell? ⟨W.heap.size, 1, none⟩ = some (.slice Ax l.length cx))
          (with_reducible first | exact hcl7 | exact HCL.out _ hbx6 | exact HCL.out _ hb5 | exact HCL.out _ hbD | exact HCL.out _ hz0)
          (first
            | (refine wp_append_rd (.tmp 22) (.tmp 24) _ rfl j0 Tryz.underlying37 hj0 hjz hjs hjb rfl hED rfl hrD (by simp; omega) HLE.out ?_; intro v5 w5 ho5 hg5 _; have hb5 : Below W1.heap.size W1 w5 := hbD.grown hg5 HLE.out (fun k hk => (hED.lt k hk).1); replace ho5 : Own w5 W1.heap.size v5 l := ho5; obtain ⟨A5, c5, hv5⟩ := ho5.form; subst hv5; have hbx6 := hb5.alloc hb5.size (.cells #[.string s, .slice A5 l.length c5] 76); have hbz6 : Below w5.heap.size w5 (w5.alloc (.cells #[.string s, .slice A5 l.length c5] 76)) := (Below.refl _ _).alloc (Nat.le_refl _) _; have hgz6 := heap_alloc_new w5 (.cells #[.string s, .slice A5 l.length c5] 76); have hpc5 : PrC 0 w5 [.string s, .slice A5 l.length c5] (s, l) := ⟨_, rfl, ho5.rdS⟩; have hpc6 := hpc5.up hbz6; have hob6 := OwnP.up hob1 hbx6; have hq6 := below_chain hq1 hq1.size hbx6; have hws6 : w.heap.size ≤ (w5.alloc (.cells #[.string s, .slice A5 l.length c5] 76)).heap.size := Nat.le_trans hq1.size hbx6.size)
            | (have hob6' := hob6; refine wp_append_x (B0 := 0) (b := w5.heap.size) (off := 0) (.tmp 19) (.tmp 27) _ rfl i0 _ 40 Tryz.underlying22 hi0 hiz hisz hiby rfl (by decide) rfl hob6' rfl _ hpc6.len (fun j hj => (by rw [Nat.zero_add]; exact pairCells_get hgz6 j hj)) hpc6.one hpc6 (fun w' c a hc hg => hc.grow hg (by decide)) (Nat.zero_le _) (by unfold maxLen; omega) (by omega) hws6 ?_; intro v7 w7 ho7 hg7; have hb7 := OwnX.below hob6' hq6 hws6 hg7; have hcl6 := HCL.out _ hbx6; have hbk7 := hg7.block W.heap.size (Nat.lt_of_lt_of_le HG.out hbx6.size) (fun e => by have := (HNE.out _ e.symm).2; omega); have hcl7 : w7.cell? ⟨W.heap.size, 0, none⟩ = some (.string s) ∧ w7.cell? ⟨W.heap.size, 1, none⟩ = some (.slice Ax l.length cx) := ⟨(cell_same (p := ⟨W.heap.size, 0, none⟩) hbk7).trans hcl6.1, (cell_same (p := ⟨W.heap.size, 1, none⟩) hbk7).trans hcl6.2⟩))
        all_goals
          go_wp2_with fail
          exact ⟨⟨k + 1, by omega, by go_num, by rw [HSN.out]; exact ho7, hb7⟩, by simp [intOf]; omega⟩
    · have i2 : ¬ (k : Int) < (n : Int) := by omega
      have hdr : R.take k = R := List.take_of_length_le (by have := HN.out; omega)
      rw [hdr] at hob
      obtain ⟨Ab, cb, hv⟩ := hob.form
      have HO := Lib.hid (OwnP.rdP hob)
      subst hv
      clear hdr hob
      go_wp2_with fail
      go_ret
      exact ⟨_, rfl, HO.out, hb⟩
end Go.Proofs.YtaafaaoioleokaaGreatDoor
namespace Go.Proofs.YtaafaaoioleokaaGreatDoor
set_option maxRecDepth 100000
open Go Go.RowKit
set_option linter.unusedVariables false

set_option maxHeartbeats 4000000 in
theorem rmint_any {w : World} {b N : Nat} {R : List Pr} (h : Doc w b R N w) (hN : N + 2 ≤ 100000000) (a d : ByteArray) (x : U4) (hx : x.ok) (ha : a.size ≤ 100000000) (hd : d.size ≤ 100000000) :
    Calls Tryz.prog 64 #[.pointer (some ⟨b, 0, none⟩), .string a, .string d, x.val] w fun e w' => e = .returned (.int .i64 (mintM R a d x).1) ∧ Doc w b (mintM R a d x).2 (N + 2) w' := by
  have HR := Lib.hid (fun W => rright_any a d x W (by unfold maxLen; omega) (by unfold maxLen; omega))
  have HG : Hid (∀ W, Below w.heap.size w W → Doc w b R N W) := Lib.hid fun W hb => h.up hb
  have HW := Lib.hid (boxU w x)
  have HN := Lib.hid (show N + 1 ≤ 100000000 ∧ N + 1 + 1 ≤ 100000000 by omega)
  show Calls Tryz.prog 64 _ _ fun e w' => e = .returned (.int .i64 (changeM addU 10 R a d x).1) ∧ Doc w b (changeM addU 10 R a d x).2 (N + 2) w'
  unfold changeM
  by_cases e0 : rightM a d x = 0
  · obtain ⟨hia, hdd, -⟩ := rightM_zero e0
    rw [e0] at HR
    rw [if_pos e0]
    have HS : Hid (∀ W, Below w.heap.size w W → Calls Tryz.prog 131 #[.pointer (some ⟨b, 0, none⟩), .string d] W fun e w' => e = .returned (supM R d).val ∧ Below W.heap.size W w') := Lib.hid fun W hb => rsup_any ((h.up hb).r (by omega)) d hd
    have HL : Hid (∀ W, Below w.heap.size w W → Calls Tryz.prog 132 #[.pointer (some ⟨b, 0, none⟩), .string a, .string d] W fun e w' => e = .returned (balM R a d).val ∧ Below W.heap.size W w') := Lib.hid fun W hb => rbal_any ((h.up hb).r (by omega)) a d ha hd
    have HK1 := Lib.hid (fun W => (rsupkey_any d W hd).mono fun e w' ⟨h1, h2⟩ => (⟨h1, h2.symm⟩ : _ ∧ w' = W))
    have HK2 := Lib.hid (fun W => (rbalance_any a d W ha hd).mono fun e w' ⟨h1, h2⟩ => (⟨h1, h2.symm⟩ : _ ∧ w' = W))
    have HF1 := Lib.hid (kSup_fits hdd)
    have HF2 := Lib.hid (kBal_fits hia hdd)
    have HA := Lib.hid (fun W => radd_any (supM R d) x W (supM_ok R d) hx)
    have HB := Lib.hid (fun W => radd_any (balM R a d) x W (balM_ok R a d) hx)
    have HP := Lib.hid (addU_ok' (supM R d) x)
    have HQ := Lib.hid (addU_ok' (balM R a d) x)
    clear h hN hx e0 hia hdd ha hd
    generalize supM R d = S at *
    generalize balM R a d = B at *
    generalize addU S x = P at *
    generalize addU B x = Q at *
    obtain ⟨P, p2⟩ := P
    obtain ⟨Q, q2⟩ := Q
    unfold U4.val U4.cells at *
    go_enter Tryz.func64, Tryz.ntmps64
    go_wp2_with fail
    generalize w.alloc (.cells #[.int .u64 (x.a : Int), .int .u64 (x.b : Int), .int .u64 (x.c : Int), .int .u64 (x.d : Int)] 32) = W0 at *
    generalize w.heap.size = g0 at *
    refine (HR.out _).mono ?_
    rintro e w1 ⟨rfl, hq1⟩
    go_wp2_with fail
    have hd1 := hq1.drew
    have he1 := (hq1.alloc hq1.size (.cells #[.int .u64 0, .int .u64 0, .int .u64 0, .int .u64 0] 32)).drew
    have HZ1 : Hid (LBlk (w1.alloc (.cells #[.int .u64 0, .int .u64 0, .int .u64 0, .int .u64 0] 32)).drew w1.heap.size U4.zero.cells) := Lib.hid (LBlk.new w1 U4.zero.cells).drew
    go_region_held_law (fun W => W.cell? ⟨g0, 0, none⟩ = some (.int .u64 (x.a : Int)) ∧ W.cell? ⟨g0, 1, none⟩ = some (.int .u64 (x.b : Int)) ∧ W.cell? ⟨g0, 2, none⟩ = some (.int .u64 (x.c : Int)) ∧ W.cell? ⟨g0, 3, none⟩ = some (.int .u64 (x.d : Int)))
      (with_reducible first | exact (HW.out _ (Below.set4U (hb1.alloc hb1.size _) hb1.size _ _ _ _)).2 | exact (HW.out _ (Below.set4U hb1 (by first | exact ha1.size | exact hq1.size) _ _ _ _)).2 | exact (HW.out _ (hb1.alloc hb1.size _)).2 | exact (HW.out _ hb1).2 | exact (HW.out _ (ha1.alloc ha1.size _)).2 | exact (HW.out _ ha1).2 | exact (HW.out _ he1).2 | exact (HW.out _ hd1).2)
      (first
        | (go_at_call 131; first
            | (refine (HS.out _ (HW.out _ hd1).1).mono ?_; rintro e wa1 ⟨rfl, hba1⟩
               have ha1 := below_chain hd1 hd1.size hba1)
            | (refine (HS.out _ (HW.out _ he1).1).mono ?_; rintro e wa1 ⟨rfl, hba1⟩
               have ha1 := below_chain he1 he1.size hba1
               have hfr1 := LBlk.below (cs := U4.zero.cells) HZ1.out hba1 (blk_lt HZ1.out)
               obtain ⟨z0, z1, z2, z3⟩ := LBlk.all (s := U4.zero) hfr1
               have f0 := hfr1.free 0
               have f1 := hfr1.free 1
               have f2 := hfr1.free 2
               have f3 := hfr1.free 3))
        | (go_at_call 130; have hq' := ha1; refine (HA.out _).mono ?_; rintro e wb1 ⟨rfl, hbb1⟩; first
            | (have hx := hfr1; have hb1 := below_chain ha1 ha1.size hbb1
               have hfs1 := LBlk.below (cs := U4.zero.cells) hx hbb1 (blk_lt hx)
               obtain ⟨z0, z1, z2, z3⟩ := LBlk.all (s := U4.zero) hfs1
               have f0 := hfs1.free 0
               have f1 := hfs1.free 1
               have f2 := hfs1.free 2
               have f3 := hfs1.free 3)
            | (have hb1 := below_chain ha1 ha1.size hbb1)
            | (have hya := ha1.alloc ha1.size (.cells #[.int .u64 0, .int .u64 0, .int .u64 0, .int .u64 0] 32)
               have hb1 := below_chain hya hya.size hbb1
               have hfs1 := LBlk.below (cs := U4.zero.cells) (LBlk.new _ _) hbb1 (by simp)
               obtain ⟨z0, z1, z2, z3⟩ := LBlk.all (s := U4.zero) hfs1
               have f0 := hfs1.free 0
               have f1 := hfs1.free 1
               have f2 := hfs1.free 2
               have f3 := hfs1.free 3)))
    all_goals
      first
        | (have hx := hfr1
           have hW1 := Below.set4U (g := w1.heap.size) hb1 (Nat.le_trans (Nat.le_refl _) hq1.size) (.int .u64 (P.a : Int)) (.int .u64 (P.b : Int)) (.int .u64 (P.c : Int)) (.int .u64 (P.d : Int))
           have hU1 := LBlk.set4 (s := U4.zero) hfs1 P
           generalize ((((wb1.setCell ⟨w1.heap.size, 0, none⟩ (.int .u64 (P.a : Int))).setCell ⟨w1.heap.size, 1, none⟩ (.int .u64 (P.b : Int))).setCell ⟨w1.heap.size, 2, none⟩ (.int .u64 (P.c : Int))).setCell ⟨w1.heap.size, 3, none⟩ (.int .u64 (P.d : Int))) = W1 at *
           generalize w1.heap.size = g1 at *)
        | (have hx := hfs1
           have hW1 := Below.set4U (g := wa1.heap.size) hb1 ha1.size (.int .u64 (P.a : Int)) (.int .u64 (P.b : Int)) (.int .u64 (P.c : Int)) (.int .u64 (P.d : Int))
           have hU1 := LBlk.set4 (s := U4.zero) hfs1 P
           generalize ((((wb1.setCell ⟨wa1.heap.size, 0, none⟩ (.int .u64 (P.a : Int))).setCell ⟨wa1.heap.size, 1, none⟩ (.int .u64 (P.b : Int))).setCell ⟨wa1.heap.size, 2, none⟩ (.int .u64 (P.c : Int))).setCell ⟨wa1.heap.size, 3, none⟩ (.int .u64 (P.d : Int))) = W1 at *
           generalize wa1.heap.size = g1 at *)
        | (have hW1 := hb1.alloc hb1.size (.cells #[.int .u64 (P.a : Int), .int .u64 (P.b : Int), .int .u64 (P.c : Int), .int .u64 (P.d : Int)] 32)
           have hU1 : LBlk (wb1.alloc (.cells #[.int .u64 (P.a : Int), .int .u64 (P.b : Int), .int .u64 (P.c : Int), .int .u64 (P.d : Int)] 32)) wb1.heap.size P.cells := LBlk.new wb1 P.cells
           generalize wb1.alloc (.cells #[.int .u64 (P.a : Int), .int .u64 (P.b : Int), .int .u64 (P.c : Int), .int .u64 (P.d : Int)] 32) = W1 at *
           generalize wb1.heap.size = g1 at *)
      have HX1 : Hid (∀ W, Below W1.heap.size W1 W → Below g0 w W ∧ W.cell? ⟨g0, 0, none⟩ = some (.int .u64 (x.a : Int)) ∧ W.cell? ⟨g0, 1, none⟩ = some (.int .u64 (x.b : Int)) ∧ W.cell? ⟨g0, 2, none⟩ = some (.int .u64 (x.c : Int)) ∧ W.cell? ⟨g0, 3, none⟩ = some (.int .u64 (x.d : Int)) ∧ W.cell? ⟨g1, 0, none⟩ = some (.int .u64 (P.a : Int)) ∧ W.cell? ⟨g1, 1, none⟩ = some (.int .u64 (P.b : Int)) ∧ W.cell? ⟨g1, 2, none⟩ = some (.int .u64 (P.c : Int)) ∧ W.cell? ⟨g1, 3, none⟩ = some (.int .u64 (P.d : Int))) := Lib.hid fun W hb => by
        obtain ⟨q1, q2, q3, q4, q5⟩ := HW.out _ (below_chain hW1 hW1.size hb)
        obtain ⟨r1, r2, r3, r4⟩ := LBlk.all (s := P) (LBlk.below hU1 hb (blk_lt hU1))
        exact ⟨q1, q2, q3, q4, q5, r1, r2, r3, r4⟩
      have hq2 := Below.refl W1.heap.size W1
      clear hU1 hW1
      go_wp2_with fail
      have hd2 := hq2.drew
      have he2 := (hq2.alloc hq2.size (.cells #[.int .u64 0, .int .u64 0, .int .u64 0, .int .u64 0] 32)).drew
      have HZ2 : Hid (LBlk (W1.alloc (.cells #[.int .u64 0, .int .u64 0, .int .u64 0, .int .u64 0] 32)).drew W1.heap.size U4.zero.cells) := Lib.hid (LBlk.new W1 U4.zero.cells).drew
      go_region_held_law (fun W => W.cell? ⟨g0, 0, none⟩ = some (.int .u64 (x.a : Int)) ∧ W.cell? ⟨g0, 1, none⟩ = some (.int .u64 (x.b : Int)) ∧ W.cell? ⟨g0, 2, none⟩ = some (.int .u64 (x.c : Int)) ∧ W.cell? ⟨g0, 3, none⟩ = some (.int .u64 (x.d : Int)) ∧ W.cell? ⟨g1, 0, none⟩ = some (.int .u64 (P.a : Int)) ∧ W.cell? ⟨g1, 1, none⟩ = some (.int .u64 (P.b : Int)) ∧ W.cell? ⟨g1, 2, none⟩ = some (.int .u64 (P.c : Int)) ∧ W.cell? ⟨g1, 3, none⟩ = some (.int .u64 (P.d : Int)))
        (with_reducible first | exact (HX1.out _ (Below.set4U (hb2.alloc hb2.size _) hb2.size _ _ _ _)).2 | exact (HX1.out _ (Below.set4U hb2 (by first | exact ha2.size | exact hq2.size) _ _ _ _)).2 | exact (HX1.out _ (hb2.alloc hb2.size _)).2 | exact (HX1.out _ hb2).2 | exact (HX1.out _ (ha2.alloc ha2.size _)).2 | exact (HX1.out _ ha2).2 | exact (HX1.out _ he2).2 | exact (HX1.out _ hd2).2)
        (first
          | (go_at_call 132; first
              | (refine (HL.out _ (HX1.out _ hd2).1).mono ?_; rintro e wa2 ⟨rfl, hba2⟩
                 have ha2 := below_chain hd2 hd2.size hba2)
              | (refine (HL.out _ (HX1.out _ he2).1).mono ?_; rintro e wa2 ⟨rfl, hba2⟩
                 have ha2 := below_chain he2 he2.size hba2
                 have hfr2 := LBlk.below (cs := U4.zero.cells) HZ2.out hba2 (blk_lt HZ2.out)
                 obtain ⟨z0, z1, z2, z3⟩ := LBlk.all (s := U4.zero) hfr2
                 have f0 := hfr2.free 0
                 have f1 := hfr2.free 1
                 have f2 := hfr2.free 2
                 have f3 := hfr2.free 3))
          | (go_at_call 130; have hq' := ha2; refine (HB.out _).mono ?_; rintro e wb2 ⟨rfl, hbb2⟩; first
              | (have hx := hfr2; have hb2 := below_chain ha2 ha2.size hbb2
                 have hfs2 := LBlk.below (cs := U4.zero.cells) hx hbb2 (blk_lt hx)
                 obtain ⟨z0, z1, z2, z3⟩ := LBlk.all (s := U4.zero) hfs2
                 have f0 := hfs2.free 0
                 have f1 := hfs2.free 1
                 have f2 := hfs2.free 2
                 have f3 := hfs2.free 3)
              | (have hb2 := below_chain ha2 ha2.size hbb2)
              | (have hya := ha2.alloc ha2.size (.cells #[.int .u64 0, .int .u64 0, .int .u64 0, .int .u64 0] 32)
                 have hb2 := below_chain hya hya.size hbb2
                 have hfs2 := LBlk.below (cs := U4.zero.cells) (LBlk.new _ _) hbb2 (by simp)
                 obtain ⟨z0, z1, z2, z3⟩ := LBlk.all (s := U4.zero) hfs2
                 have f0 := hfs2.free 0
                 have f1 := hfs2.free 1
                 have f2 := hfs2.free 2
                 have f3 := hfs2.free 3)))
      all_goals
        first
          | (have hx := hfr2
             have hW2 := Below.set4U (g := W1.heap.size) hb2 (Nat.le_trans (Nat.le_refl _) hq2.size) (.int .u64 (Q.a : Int)) (.int .u64 (Q.b : Int)) (.int .u64 (Q.c : Int)) (.int .u64 (Q.d : Int))
             have hU2 := LBlk.set4 (s := U4.zero) hfs2 Q
             generalize ((((wb2.setCell ⟨W1.heap.size, 0, none⟩ (.int .u64 (Q.a : Int))).setCell ⟨W1.heap.size, 1, none⟩ (.int .u64 (Q.b : Int))).setCell ⟨W1.heap.size, 2, none⟩ (.int .u64 (Q.c : Int))).setCell ⟨W1.heap.size, 3, none⟩ (.int .u64 (Q.d : Int))) = W2 at *
             generalize W1.heap.size = g2 at *)
          | (have hx := hfs2
             have hW2 := Below.set4U (g := wa2.heap.size) hb2 ha2.size (.int .u64 (Q.a : Int)) (.int .u64 (Q.b : Int)) (.int .u64 (Q.c : Int)) (.int .u64 (Q.d : Int))
             have hU2 := LBlk.set4 (s := U4.zero) hfs2 Q
             generalize ((((wb2.setCell ⟨wa2.heap.size, 0, none⟩ (.int .u64 (Q.a : Int))).setCell ⟨wa2.heap.size, 1, none⟩ (.int .u64 (Q.b : Int))).setCell ⟨wa2.heap.size, 2, none⟩ (.int .u64 (Q.c : Int))).setCell ⟨wa2.heap.size, 3, none⟩ (.int .u64 (Q.d : Int))) = W2 at *
             generalize wa2.heap.size = g2 at *)
          | (have hW2 := hb2.alloc hb2.size (.cells #[.int .u64 (Q.a : Int), .int .u64 (Q.b : Int), .int .u64 (Q.c : Int), .int .u64 (Q.d : Int)] 32)
             have hU2 : LBlk (wb2.alloc (.cells #[.int .u64 (Q.a : Int), .int .u64 (Q.b : Int), .int .u64 (Q.c : Int), .int .u64 (Q.d : Int)] 32)) wb2.heap.size Q.cells := LBlk.new wb2 Q.cells
             generalize wb2.alloc (.cells #[.int .u64 (Q.a : Int), .int .u64 (Q.b : Int), .int .u64 (Q.c : Int), .int .u64 (Q.d : Int)] 32) = W2 at *
             generalize wb2.heap.size = g2 at *)
        obtain ⟨q1, -, -, -, -, r0, r1, r2, r3⟩ := HX1.out _ hW2
        obtain ⟨s0, s1, s2, s3⟩ := LBlk.all (s := Q) hU2
        have gg := HG.out _ q1
        have hne2 := gg.s.ne hU2
        clear q1 hW2 hU2 HX1
        cases p2 <;> cases q2
        iterate 3
          focus
            go_wp2_with fail
            go_ret
            exact ⟨rfl, gg.more (by omega)⟩
        go_wp2_with fail
        refine wp_region_still_tail 4 (by kernel_rfl) (by kernel_rfl) ?_
        simp only [List.take_succ_cons, List.take_zero, List.drop_succ_cons, List.drop_zero]
        still_step
        still_step
        still_call (HK1.out _)
        still_step
        refine wpStill_nil ?_
        change wpList _ _ _ _ _ W2.drew
        go_wp2_with fail
        have ggd := gg.up (Below.drew (Below.refl _ _))
        refine (ggd.keep HN.out.1 HF1.out HP.out).mono ?_
        rintro e w7 ⟨rfl, g1', hcg⟩
        have hcgd := (Chg.drew W2 (fun k => k = b)).trans' hcg
        replace s0 := hcgd.cellB hne2 s0
        replace s1 := hcgd.cellB hne2 s1
        replace s2 := hcgd.cellB hne2 s2
        replace s3 := hcgd.cellB hne2 s3
        clear r0 r1 r2 r3 hcg hcgd
        go_wp2_with fail
        refine wp_region_still_tail 5 (by kernel_rfl) (by kernel_rfl) ?_
        simp only [List.take_succ_cons, List.take_zero, List.drop_succ_cons, List.drop_zero]
        still_step
        still_step
        still_step
        still_call (HK2.out _)
        still_step
        refine wpStill_nil ?_
        change wpList _ _ _ _ _ w7.drew
        go_wp2_with fail
        have g1d := g1'.up (Below.drew (Below.refl _ _))
        refine (g1d.keep HN.out.2 HF2.out HQ.out).mono ?_
        rintro e w9 ⟨rfl, g2', -⟩
        go_wp2_with fail
        go_ret
        exact ⟨rfl, g2'⟩
  · rw [if_neg e0]
    have HE := Lib.hid e0
    clear h hN hx e0
    generalize rightM a d x = r at *
    unfold U4.val U4.cells at *
    have hne : ((r : Int) == 0) = false := by simpa using HE.out
    go_enter Tryz.func64, Tryz.ntmps64
    go_wp2_with fail
    refine (HR.out _).mono ?_
    rintro e w1 ⟨rfl, hq1⟩
    have g0 := HG.out _ (HW.out _ hq1).1
    have hne2 := HE.out
    go_wp2_with fail
    go_ret
    exact ⟨rfl, g0.more (by omega)⟩
end Go.Proofs.YtaafaaoioleokaaGreatDoor
namespace Go.Proofs.YtaafaaoioleokaaGreatDoor
set_option maxRecDepth 100000
open Go Go.RowKit
set_option linter.unusedVariables false

end Go.Proofs.YtaafaaoioleokaaGreatDoor
namespace Go.Proofs.YtaafaaoioleokaaGreatDoor
set_option maxRecDepth 100000
open Go Go.RowKit
set_option linter.unusedVariables false

end Go.Proofs.YtaafaaoioleokaaGreatDoor
