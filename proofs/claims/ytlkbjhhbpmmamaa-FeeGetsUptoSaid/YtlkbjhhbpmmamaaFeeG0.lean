
/- What is paid ahead, read; the three amounts together. The three amounts together; who has what of them. -/
import Derived.Test.YtlkbjhhbpmmamaaFeeM0
namespace Go.Proofs.Ytlkbjhhbpmmamaa
set_option maxRecDepth 100000
open Go Go.RowKit
set_option linter.unusedVariables false

theorem set14P {w : World} {g : Nat} {x0 x1 x2 x3 x4 x5 x6 x7 x8 x9 x10 x11 x12 x13 : Value} {t : TypeId} (h : w.heap[g]? = some (.cells #[x0, x1, x2, x3, x4, x5, x6, x7, x8, x9, x10, x11, x12, x13] t (0, 0))) (y0 y1 y2 y3 y4 y5 y6 y7 y8 y9 y10 y11 y12 y13 : Value) : ((((((((((((((w.setCell ⟨g, 0, none⟩ y0).setCell ⟨g, 1, none⟩ y1).setCell ⟨g, 2, none⟩ y2).setCell ⟨g, 3, none⟩ y3).setCell ⟨g, 4, none⟩ y4).setCell ⟨g, 5, none⟩ y5).setCell ⟨g, 6, none⟩ y6).setCell ⟨g, 7, none⟩ y7).setCell ⟨g, 8, none⟩ y8).setCell ⟨g, 9, none⟩ y9).setCell ⟨g, 10, none⟩ y10).setCell ⟨g, 11, none⟩ y11).setCell ⟨g, 12, none⟩ y12).setCell ⟨g, 13, none⟩ y13).heap[g]? = some (.cells #[y0, y1, y2, y3, y4, y5, y6, y7, y8, y9, y10, y11, y12, y13] t (0, 0)) := by
  simpa using (blk_set (blk_set (blk_set (blk_set (blk_set (blk_set (blk_set (blk_set (blk_set (blk_set (blk_set (blk_set (blk_set (blk_set h 0 y0) 1 y1) 2 y2) 3 y3) 4 y4) 5 y5) 6 y6) 7 y7) 8 y8) 9 y9) 10 y10) 11 y11) 12 y12) 13 y13)
theorem below_set14P {B : Nat} {w w' : World} {g : Nat} (h : Below B w w') (hg : B ≤ g) (y0 y1 y2 y3 y4 y5 y6 y7 y8 y9 y10 y11 y12 y13 : Value) : Below B w ((((((((((((((w'.setCell ⟨g, 0, none⟩ y0).setCell ⟨g, 1, none⟩ y1).setCell ⟨g, 2, none⟩ y2).setCell ⟨g, 3, none⟩ y3).setCell ⟨g, 4, none⟩ y4).setCell ⟨g, 5, none⟩ y5).setCell ⟨g, 6, none⟩ y6).setCell ⟨g, 7, none⟩ y7).setCell ⟨g, 8, none⟩ y8).setCell ⟨g, 9, none⟩ y9).setCell ⟨g, 10, none⟩ y10).setCell ⟨g, 11, none⟩ y11).setCell ⟨g, 12, none⟩ y12).setCell ⟨g, 13, none⟩ y13) := ((((((((((((((h.setCell hg y0).setCell hg y1).setCell hg y2).setCell hg y3).setCell hg y4).setCell hg y5).setCell hg y6).setCell hg y7).setCell hg y8).setCell hg y9).setCell hg y10).setCell hg y11).setCell hg y12).setCell hg y13)
def rcd (l : List UInt8) (f : Int) : Nat → Array Value
  | 0 => #[.int .u64 0, .int .u64 0, .int .u64 0, .int .u64 0, .int .u64 0, .int .u64 0, .int .u64 0, .int .u64 0, .int .u64 0, .int .u64 0, .int .u64 0, .int .u64 0]
  | j + 1 => ((((rcd l f j).setIfInBounds (j * 4) (.int .u64 ((ram l f j).1.a : Int))).setIfInBounds (j * 4 + 1) (.int .u64 ((ram l f j).1.b : Int))).setIfInBounds (j * 4 + 2) (.int .u64 ((ram l f j).1.c : Int))).setIfInBounds (j * 4 + 3) (.int .u64 ((ram l f j).1.d : Int))
theorem rcd_zero (l : List UInt8) (f : Int) (j i : Nat) (hj : j < 3) (hi : i < 4) : (rcd l f j)[j * 4 + i]? = some (.int .u64 0) := by
  match j, hj with
  | 0, _ => match i, hi with
    | 0, _ => rfl
    | 1, _ => rfl
    | 2, _ => rfl
    | 3, _ => rfl
  | 1, _ => match i, hi with
    | 0, _ => simp [rcd]
    | 1, _ => simp [rcd]
    | 2, _ => simp [rcd]
    | 3, _ => simp [rcd]
  | 2, _ => match i, hi with
    | 0, _ => simp [rcd]
    | 1, _ => simp [rcd]
    | 2, _ => simp [rcd]
    | 3, _ => simp [rcd]
theorem rcd_three (l : List UInt8) (f : Int) : rcd l f 3 = #[.int .u64 ((ram l f 0).1.a : Int), .int .u64 ((ram l f 0).1.b : Int), .int .u64 ((ram l f 0).1.c : Int), .int .u64 ((ram l f 0).1.d : Int), .int .u64 ((ram l f 1).1.a : Int), .int .u64 ((ram l f 1).1.b : Int), .int .u64 ((ram l f 1).1.c : Int), .int .u64 ((ram l f 1).1.d : Int), .int .u64 ((ram l f 2).1.a : Int), .int .u64 ((ram l f 2).1.b : Int), .int .u64 ((ram l f 2).1.c : Int), .int .u64 ((ram l f 2).1.d : Int)] := by simp [rcd]
structure FGR (w : World) (gr gd lo g : Nat) (lb : List UInt8) (fb : Int) (j : Nat) (Z : World) : Prop where
  z : ∀ q, q < j → (ram lb fb q).2 = 0
  p : PZ 98 w gr gd lo g 37 65 #[.string ⟨#[]⟩, .string ⟨#[]⟩, .int .u64 0, .int .u64 0, .int .u64 0, .int .u64 0, .int .u64 0, .int .u64 0, .int .u64 0, .int .u64 0, .int .u64 0, .int .u64 0, .int .u64 0, .int .u64 0] (rcd lb fb j) (rst lb fb j).1 (rst lb fb j).2 Z
set_option maxHeartbeats 16000000 in
theorem fget_any {W w : World} {y : Lyr} {l : List Lyr} {R : List Pr} {k : Nat} (h : At W y l R k w) (a : ByteArray) (n : Nat) (hn : n < 18446744073709551616) (ha : a.size ≤ 100000000) :
    Calls Try.prog 7 #[.pointer (some ⟨y.b, 0, none⟩), .string a, .int .u64 (n : Int)] w fun e w' => e = .returned (pdO (getPd R a n)) ∧ Below w.heap.size w w' := by
  have HG := Lib.hid (fun (Z : World) (hz : Below w.heap.size w Z) => (h.up hz).get (kFee a n) (by rw [kFee_size]; unfold maxLen; omega))
  have HFT : Hid (∀ v, getL R (kFee a n) = some v → v.length ≤ 2000000) := Lib.hid (fun v e => Nat.le_trans (h.fits (key := kFee a n) (v := v) e).2 (by decide))
  obtain ⟨B, hB⟩ : ∃ B : Addr, B = ⟨y.b, 0, none⟩ := ⟨_, rfl⟩
  rw [← hB] at HG ⊢
  clear hB h
  have HK := Lib.hid (fun W => fkey_any a n W hn ha)
  obtain ⟨V, hV⟩ : ∃ V, V = pdO (getPd R a n) := ⟨_, rfl⟩
  rw [← hV]
  unfold getPd at hV
  generalize getL R (kFee a n) = o at *
  generalize kFee a n = key at *
  have hk0 := heap_alloc_new w (.cells #[.string ⟨#[]⟩, .string ⟨#[]⟩, .int .u64 0, .int .u64 0, .int .u64 0, .int .u64 0, .int .u64 0, .int .u64 0, .int .u64 0, .int .u64 0, .int .u64 0, .int .u64 0, .int .u64 0, .int .u64 0] 37)
  have ha0 : Below w.heap.size w (w.alloc (.cells #[.string ⟨#[]⟩, .string ⟨#[]⟩, .int .u64 0, .int .u64 0, .int .u64 0, .int .u64 0, .int .u64 0, .int .u64 0, .int .u64 0, .int .u64 0, .int .u64 0, .int .u64 0, .int .u64 0, .int .u64 0] 37)) := (Below.refl _ _).alloc (Nat.le_refl _) _
  go_enter Try.func7, Try.ntmps7
  go_wp2_with fail
  generalize w.alloc (.cells #[.string ⟨#[]⟩, .string ⟨#[]⟩, .int .u64 0, .int .u64 0, .int .u64 0, .int .u64 0, .int .u64 0, .int .u64 0, .int .u64 0, .int .u64 0, .int .u64 0, .int .u64 0, .int .u64 0, .int .u64 0] 37) = w0 at *
  refine (HK.out _).mono ?_
  rintro e w9 ⟨rfl, hb9⟩
  have ha9 := below_chain ha0 ha0.size hb9
  have hk9 := (hb9.block _ (blk_lt hk0)).trans hk0
  go_wp2_with fail
  refine (HG.out _ ha9).mono ?_
  rintro e w1 ⟨v, rfl, hov, hb1⟩
  have hq1 := below_chain ha9 ha9.size hb1
  have hk1 := (hb1.block _ (blk_lt hk9)).trans hk9
  have hl0 := blk_lt hk0
  obtain ⟨gr, hgr⟩ : ∃ gr, gr = w.heap.size := ⟨_, rfl⟩
  rw [← hgr] at hk1 ⊢
  have hgi0 : w.heap.size ≤ gr := by omega
  clear HG HK ha0 hk0 hb1 ha9 hk9 hb9
  cases o with
  | none =>
    have hv : V = pdO none := by rw [hV]; rfl
    obtain ⟨A, c, rfl⟩ := hov.form
    clear hov HFT hV
    have hres := hk1
    have r0 := blk_cell hres 0
    have q0 := blk_free hres 0
    have r1 := blk_cell hres 1
    have q1 := blk_free hres 1
    have r2 := blk_cell hres 2
    have q2 := blk_free hres 2
    have r3 := blk_cell hres 3
    have q3 := blk_free hres 3
    have r4 := blk_cell hres 4
    have q4 := blk_free hres 4
    have r5 := blk_cell hres 5
    have q5 := blk_free hres 5
    have r6 := blk_cell hres 6
    have q6 := blk_free hres 6
    have r7 := blk_cell hres 7
    have q7 := blk_free hres 7
    have r8 := blk_cell hres 8
    have q8 := blk_free hres 8
    have r9 := blk_cell hres 9
    have q9 := blk_free hres 9
    have r10 := blk_cell hres 10
    have q10 := blk_free hres 10
    have r11 := blk_cell hres 11
    have q11 := blk_free hres 11
    have r12 := blk_cell hres 12
    have q12 := blk_free hres 12
    have r13 := blk_cell hres 13
    have q13 := blk_free hres 13
    have hk7 := set14P hres (.string ⟨#[]⟩) (.string ⟨#[]⟩) (.int .u64 0) (.int .u64 0) (.int .u64 0) (.int .u64 0) (.int .u64 0) (.int .u64 0) (.int .u64 0) (.int .u64 0) (.int .u64 0) (.int .u64 0) (.int .u64 0) (.int .u64 0)
    have hb7 := below_set14P hq1 hgi0 (.string ⟨#[]⟩) (.string ⟨#[]⟩) (.int .u64 0) (.int .u64 0) (.int .u64 0) (.int .u64 0) (.int .u64 0) (.int .u64 0) (.int .u64 0) (.int .u64 0) (.int .u64 0) (.int .u64 0) (.int .u64 0) (.int .u64 0)
    have HD := Lib.hid (And.intro (blk_cell hk7 0) (And.intro (blk_cell hk7 1) (And.intro (blk_cell hk7 2) (And.intro (blk_cell hk7 3) (And.intro (blk_cell hk7 4) (And.intro (blk_cell hk7 5) (And.intro (blk_cell hk7 6) (And.intro (blk_cell hk7 7) (And.intro (blk_cell hk7 8) (And.intro (blk_cell hk7 9) (And.intro (blk_cell hk7 10) (And.intro (blk_cell hk7 11) (And.intro (blk_cell hk7 12) (blk_cell hk7 13))))))))))))))
    have HVV := Lib.hid hv
    try rw [← hgr]
    clear hk7 hv hres hgr hgi0 hl0
    go_wp2_with fail
    obtain ⟨d0, d1, d2, d3, d4, d5, d6, d7, d8, d9, d10, d11, d12, d13⟩ := HD.out
    refine bodyPost_ret (v := V) ?_ rfl ⟨rfl, hb7⟩
    rw [HVV.out]
    simp at d0 d1 d2 d3 d4 d5 d6 d7 d8 d9 d10 d11 d12 d13
    simp [results, Try.results7, go_sem, d0, d1, d2, d3, d4, d5, d6, d7, d8, d9, d10, d11, d12, d13, pdO, PdV.val, PdV.cells, PdV.none, U4.zero]
  | some l =>
    have hll := HFT.out l rfl
    have HO := Lib.hid (open_rd v l w1 hov.rd (by omega))
    obtain ⟨A, c, rfl⟩ := hov.form
    have HV := Lib.hid (show V = pdO (readPd l) from hV)
    unfold readPd at HV
    clear hov HFT hV
    go_wp2_with fail
    refine HO.out.mono ?_
    rintro e w2 ⟨g, rfl, hr2, hb2⟩
    have hq2 := below_chain hq1 hq1.size hb2
    have hk2 := (hb2.block _ (blk_lt hk1)).trans hk1
    have hlo := blk_lt hk1
    have hgi := hr2.from_
    have hog : gr < w1.heap.size := hlo
    generalize w1.heap.size = lo at *
    clear HO hb2 hk1 hq1
    go_wp2_with fail
    refine (rdT_any hr2).mono ?_
    rintro e w3 ⟨rfl, hr3, hg3⟩
    have hq3 : Below w.heap.size w w3 := hq2.grown hg3 hq2.size (fun k e => by injection e with e; omega)
    have hk3 := (hg3.block _ (blk_lt hk2) (fun e => by injection e with e; omega)).trans hk2
    have b_xa := rB_le l 0
    generalize rB l 0 = Q at *
    obtain ⟨xa, l_xa, f_xa⟩ := Q
    dsimp only at hr3 HV b_xa ⊢
    clear hr2 hg3 hq2 hk2
    go_wp2_with fail
    refine (rdT_any hr3).mono ?_
    rintro e w4 ⟨rfl, hr4, hg4⟩
    have hq4 : Below w.heap.size w w4 := hq3.grown hg4 hq3.size (fun k e => by injection e with e; omega)
    have hk4 := (hg4.block _ (blk_lt hk3) (fun e => by injection e with e; omega)).trans hk3
    have b_xb := rB_le l_xa f_xa
    generalize rB l_xa f_xa = Q at *
    obtain ⟨xb, lb, fb⟩ := Q
    dsimp only at hr4 HV b_xb ⊢
    have hgl := hr4.lt
    obtain ⟨gd, hgd⟩ : ∃ gd, gd = w4.heap.size := ⟨_, rfl⟩
    have P1 : PZ 98 w gr gd lo g 37 65 #[.string ⟨#[]⟩, .string ⟨#[]⟩, .int .u64 0, .int .u64 0, .int .u64 0, .int .u64 0, .int .u64 0, .int .u64 0, .int .u64 0, .int .u64 0, .int .u64 0, .int .u64 0, .int .u64 0, .int .u64 0] (rcd lb fb 0) (rst lb fb 0).1 (rst lb fb 0).2 (w4.alloc (.cells #[.int .u64 0, .int .u64 0, .int .u64 0, .int .u64 0, .int .u64 0, .int .u64 0, .int .u64 0, .int .u64 0, .int .u64 0, .int .u64 0, .int .u64 0, .int .u64 0] 65)) :=
      ⟨hq4.alloc hq4.size _, by omega, by have := hq4.size; omega, (Below.heap_alloc w4 _ _ (blk_lt hk4)).trans hk4, by rw [hgd]; exact heap_alloc_new w4 _, hr4.below ((Below.refl _ _).alloc (Nat.le_refl _) _), by omega, by omega⟩
    have HVN : Hid (∀ j, j < 3 → (ram lb fb j).2 ≠ 0 → (∀ i, i < j → (ram lb fb i).2 = 0) → V = pdO none) := Lib.hid (by
      intro j hj hne hz
      rw [HV.out]
      match j, hj with
      | 0, _ => rw [if_neg hne]
      | 1, _ => rw [if_pos (hz 0 (by omega)), if_neg hne]
      | 2, _ => rw [if_pos (hz 0 (by omega)), if_pos (hz 1 (by omega)), if_neg hne])
    clear hr3 hg4 hq3 hk3 hq4 hk4 hr4 hgl hgi hlo
    go_wp2_with fail
    rw [← hgd]
    generalize w4.alloc (.cells #[.int .u64 0, .int .u64 0, .int .u64 0, .int .u64 0, .int .u64 0, .int .u64 0, .int .u64 0, .int .u64 0, .int .u64 0, .int .u64 0, .int .u64 0, .int .u64 0] 65) = wz at *
    clear hgd
    go_loopw [34] (fun i Z => ∃ j : Nat, j ≤ 3 ∧ i = .int .i64 (j : Int) ∧ FGR w gr gd lo g lb fb j Z)
      (fun i _ => 3 - (intOf i).toNat)
    case atStart => exact ⟨0, by omega, rfl, ⟨fun q h => absurd h (by omega), P1⟩⟩
    case round =>
      clear P1
      obtain ⟨j, hj, rfl, HX0⟩ := hrel
      have P := HX0.p
      have HX := Lib.hid HX0.z
      clear HX0
      by_cases hlt : j < 3
      · have i1 : (0 : Int) ≤ (j : Int) := by omega
        have i2 : (j : Int) < 3 := by omega
        have hz0 := rcd_zero lb fb j 0 hlt (by omega)
        have hz1 := rcd_zero lb fb j 1 hlt (by omega)
        have hz2 := rcd_zero lb fb j 2 hlt (by omega)
        have hz3 := rcd_zero lb fb j 3 hlt (by omega)
        rw [Nat.add_zero] at hz0
        have HNX : Hid (rcd lb fb (j + 1) = ((((rcd lb fb j).setIfInBounds (j * 4) (.int .u64 ((ram lb fb j).1.a : Int))).setIfInBounds (j * 4 + 1) (.int .u64 ((ram lb fb j).1.b : Int))).setIfInBounds (j * 4 + 2) (.int .u64 ((ram lb fb j).1.c : Int))).setIfInBounds (j * 4 + 3) (.int .u64 ((ram lb fb j).1.d : Int)) ∧ rst lb fb (j + 1) = ((rB (rst lb fb j).1 (rst lb fb j).2).2.1, (rB (rst lb fb j).1 (rst lb fb j).2).2.2)) := Lib.hid ⟨rfl, rfl⟩
        have HRM : Hid (ram lb fb j = fromU (rB (rst lb fb j).1 (rst lb fb j).2).1) := Lib.hid rfl
        have HV1 := Lib.hid (fun hne => HVN.out j hlt hne HX.out)
        have HV2 : Hid ((ram lb fb j).2 = 0 → ∀ q, q < j + 1 → (ram lb fb q).2 = 0) := Lib.hid (fun h0 q hq => by
          by_cases e : q = j
          · rw [e]; exact h0
          · exact HX.out q (by omega))
        generalize rcd lb fb j = cd at *
        generalize (rst lb fb j).1 = lj at *
        generalize (rst lb fb j).2 = fj at *
        generalize ram lb fb j = rj at *
        go_wp2_with fail
        refine (rdB_any P.rd).mono ?_
        rintro e wa ⟨vB, rfl, hoB, hr, hg⟩
        replace P := P.call hg hr
        clear hr hg
        generalize rB lj fj = Q at *
        obtain ⟨m, l3, f3⟩ := Q
        dsimp only at P HNX HRM hoB ⊢
        have HF := Lib.hid (from_any vB m _ hoB.rd)
        obtain ⟨AB, cB, rfl⟩ := hoB.form
        clear hoB
        generalize m.length = mlen at *
        go_wp2_with fail
        refine HF.out.mono ?_
        rintro e w5 ⟨rfl, hb5⟩
        replace P := P.up hb5
        rw [← HRM.out]
        clear hb5 HF
        obtain ⟨x, fe⟩ := rj
        dsimp only at HNX HRM HV1 HV2 ⊢
        unfold U4.val U4.cells
        have hau : Below w5.heap.size w5 (w5.alloc (.cells #[.int .u64 (x.a : Int), .int .u64 (x.b : Int), .int .u64 (x.c : Int), .int .u64 (x.d : Int)] 33)) := (Below.refl _ _).alloc (Nat.le_refl _) _
        have hu5 := heap_alloc_new w5 (.cells #[.int .u64 (x.a : Int), .int .u64 (x.b : Int), .int .u64 (x.c : Int), .int .u64 (x.d : Int)] 33)
        have P5 := P.up hau
        have u0 := blk_cell hu5 0
        have u1 := blk_cell hu5 1
        have u2 := blk_cell hu5 2
        have u3 := blk_cell hu5 3
        by_cases hfe : fe = 0
        · subst hfe
          have z0 := (blk_cell P5.loc (j * 4)).trans hz0
          have z1 := (blk_cell P5.loc (j * 4 + 1)).trans hz1
          have z2 := (blk_cell P5.loc (j * 4 + 2)).trans hz2
          have z3 := (blk_cell P5.loc (j * 4 + 3)).trans hz3
          have y0 := blk_free P5.loc (j * 4)
          have y1 := blk_free P5.loc (j * 4 + 1)
          have y2 := blk_free P5.loc (j * 4 + 2)
          have y3 := blk_free P5.loc (j * 4 + 3)
          have P6 := (((P5.set (j * 4) (.int .u64 (x.a : Int))).set (j * 4 + 1) (.int .u64 (x.b : Int))).set (j * 4 + 2) (.int .u64 (x.c : Int))).set (j * 4 + 3) (.int .u64 (x.d : Int))
          rw [← HNX.out.1] at P6
          have HP6 := Lib.hid P6
          clear P P5 P6 hau hu5 HVN HV1 HX hz0 hz1 hz2 hz3
          go_wp2_with fail
          have h6 := HP6.out
          refine ⟨⟨j + 1, by omega, ?_, ⟨HV2.out rfl, ?_⟩⟩, ?_⟩
          · simp
          · rw [HNX.out.2]; exact h6
          · simp [intOf]; omega
        · have hne : (fe != 0) = true := by simpa using hfe
          have hv := HV1.out hfe
          have hrr := P5.hr
          have hbel := P5.below
          have hres := P5.res
          have r0 := blk_cell hres 0
          have q0 := blk_free hres 0
          have r1 := blk_cell hres 1
          have q1 := blk_free hres 1
          have r2 := blk_cell hres 2
          have q2 := blk_free hres 2
          have r3 := blk_cell hres 3
          have q3 := blk_free hres 3
          have r4 := blk_cell hres 4
          have q4 := blk_free hres 4
          have r5 := blk_cell hres 5
          have q5 := blk_free hres 5
          have r6 := blk_cell hres 6
          have q6 := blk_free hres 6
          have r7 := blk_cell hres 7
          have q7 := blk_free hres 7
          have r8 := blk_cell hres 8
          have q8 := blk_free hres 8
          have r9 := blk_cell hres 9
          have q9 := blk_free hres 9
          have r10 := blk_cell hres 10
          have q10 := blk_free hres 10
          have r11 := blk_cell hres 11
          have q11 := blk_free hres 11
          have r12 := blk_cell hres 12
          have q12 := blk_free hres 12
          have r13 := blk_cell hres 13
          have q13 := blk_free hres 13
          have hk7 := set14P hres (.string ⟨#[]⟩) (.string ⟨#[]⟩) (.int .u64 0) (.int .u64 0) (.int .u64 0) (.int .u64 0) (.int .u64 0) (.int .u64 0) (.int .u64 0) (.int .u64 0) (.int .u64 0) (.int .u64 0) (.int .u64 0) (.int .u64 0)
          have hb7 := below_set14P hbel hrr (.string ⟨#[]⟩) (.string ⟨#[]⟩) (.int .u64 0) (.int .u64 0) (.int .u64 0) (.int .u64 0) (.int .u64 0) (.int .u64 0) (.int .u64 0) (.int .u64 0) (.int .u64 0) (.int .u64 0) (.int .u64 0) (.int .u64 0)
          have HD := Lib.hid (And.intro (blk_cell hk7 0) (And.intro (blk_cell hk7 1) (And.intro (blk_cell hk7 2) (And.intro (blk_cell hk7 3) (And.intro (blk_cell hk7 4) (And.intro (blk_cell hk7 5) (And.intro (blk_cell hk7 6) (And.intro (blk_cell hk7 7) (And.intro (blk_cell hk7 8) (And.intro (blk_cell hk7 9) (And.intro (blk_cell hk7 10) (And.intro (blk_cell hk7 11) (And.intro (blk_cell hk7 12) (blk_cell hk7 13))))))))))))))
          have HVV := Lib.hid hv
          try rw [← hgr]
          clear hk7 hv hres hgr hgi0 P P5 hau hu5 HVN HV HV1 HV2 HX hz0 hz1 hz2 hz3 HNX HRM hrr hbel hog hlt hj hl0
          go_wp2_with fail
          obtain ⟨d0, d1, d2, d3, d4, d5, d6, d7, d8, d9, d10, d11, d12, d13⟩ := HD.out
          refine bodyPost_ret (v := V) ?_ rfl ⟨rfl, hb7⟩
          rw [HVV.out]
          simp at d0 d1 d2 d3 d4 d5 d6 d7 d8 d9 d10 d11 d12 d13
          simp [results, Try.results7, go_sem, d0, d1, d2, d3, d4, d5, d6, d7, d8, d9, d10, d11, d12, d13, pdO, PdV.val, PdV.cells, PdV.none, U4.zero]
      · have i2 : ¬ (j : Int) < 3 := by omega
        obtain rfl : j = 3 := by omega
        rw [rcd_three] at P
        have hz0 := HX.out 0 (by omega)
        have hz1 := HX.out 1 (by omega)
        have hz2 := HX.out 2 (by omega)
        have hv0 := HV.out
        rw [if_pos hz0, if_pos hz1, if_pos hz2] at hv0
        have HE := Lib.hid (rdEnd_any P.rd)
        generalize (ram lb fb 0).1 = x at *
        generalize (ram lb fb 1).1 = y at *
        generalize (ram lb fb 2).1 = z at *
        generalize rEnd (rst lb fb 3).1 (rst lb fb 3).2 = E at *
        have HV0 := Lib.hid hv0
        clear hv0 HV HVN HX hz0 hz1 hz2
        go_wp2_with fail
        refine HE.out.mono ?_
        rintro e w7 ⟨rfl, rfl⟩
        have hrr := P.hr
        have hbel := P.below
        have hloc := P.loc
        by_cases hE : E = 0
        · subst hE
          have hv := HV0.out
          rw [if_pos rfl] at hv
          have s0 := blk_cell hloc 0
          have s1 := blk_cell hloc 1
          have s2 := blk_cell hloc 2
          have s3 := blk_cell hloc 3
          have s4 := blk_cell hloc 4
          have s5 := blk_cell hloc 5
          have s6 := blk_cell hloc 6
          have s7 := blk_cell hloc 7
          have s8 := blk_cell hloc 8
          have s9 := blk_cell hloc 9
          have s10 := blk_cell hloc 10
          have s11 := blk_cell hloc 11
          have hres := P.res
          have r0 := blk_cell hres 0
          have q0 := blk_free hres 0
          have r1 := blk_cell hres 1
          have q1 := blk_free hres 1
          have r2 := blk_cell hres 2
          have q2 := blk_free hres 2
          have r3 := blk_cell hres 3
          have q3 := blk_free hres 3
          have r4 := blk_cell hres 4
          have q4 := blk_free hres 4
          have r5 := blk_cell hres 5
          have q5 := blk_free hres 5
          have r6 := blk_cell hres 6
          have q6 := blk_free hres 6
          have r7 := blk_cell hres 7
          have q7 := blk_free hres 7
          have r8 := blk_cell hres 8
          have q8 := blk_free hres 8
          have r9 := blk_cell hres 9
          have q9 := blk_free hres 9
          have r10 := blk_cell hres 10
          have q10 := blk_free hres 10
          have r11 := blk_cell hres 11
          have q11 := blk_free hres 11
          have r12 := blk_cell hres 12
          have q12 := blk_free hres 12
          have r13 := blk_cell hres 13
          have q13 := blk_free hres 13
          have hk7 := set14P hres (.string ⟨xa.toArray⟩) (.string ⟨xb.toArray⟩) (.int .u64 (x.a : Int)) (.int .u64 (x.b : Int)) (.int .u64 (x.c : Int)) (.int .u64 (x.d : Int)) (.int .u64 (y.a : Int)) (.int .u64 (y.b : Int)) (.int .u64 (y.c : Int)) (.int .u64 (y.d : Int)) (.int .u64 (z.a : Int)) (.int .u64 (z.b : Int)) (.int .u64 (z.c : Int)) (.int .u64 (z.d : Int))
          have hb7 := below_set14P hbel hrr (.string ⟨xa.toArray⟩) (.string ⟨xb.toArray⟩) (.int .u64 (x.a : Int)) (.int .u64 (x.b : Int)) (.int .u64 (x.c : Int)) (.int .u64 (x.d : Int)) (.int .u64 (y.a : Int)) (.int .u64 (y.b : Int)) (.int .u64 (y.c : Int)) (.int .u64 (y.d : Int)) (.int .u64 (z.a : Int)) (.int .u64 (z.b : Int)) (.int .u64 (z.c : Int)) (.int .u64 (z.d : Int))
          have HD := Lib.hid (And.intro (blk_cell hk7 0) (And.intro (blk_cell hk7 1) (And.intro (blk_cell hk7 2) (And.intro (blk_cell hk7 3) (And.intro (blk_cell hk7 4) (And.intro (blk_cell hk7 5) (And.intro (blk_cell hk7 6) (And.intro (blk_cell hk7 7) (And.intro (blk_cell hk7 8) (And.intro (blk_cell hk7 9) (And.intro (blk_cell hk7 10) (And.intro (blk_cell hk7 11) (And.intro (blk_cell hk7 12) (blk_cell hk7 13))))))))))))))
          have HVV := Lib.hid hv
          try rw [← hgr]
          clear hk7 hv hres hloc HV0 P HE hrr hbel hog hgr hgi0 hl0
          go_wp2_with fail
          obtain ⟨d0, d1, d2, d3, d4, d5, d6, d7, d8, d9, d10, d11, d12, d13⟩ := HD.out
          refine bodyPost_ret (v := V) ?_ rfl ⟨rfl, hb7⟩
          rw [HVV.out]
          simp at d0 d1 d2 d3 d4 d5 d6 d7 d8 d9 d10 d11 d12 d13
          simp [results, Try.results7, go_sem, d0, d1, d2, d3, d4, d5, d6, d7, d8, d9, d10, d11, d12, d13, pdO, PdV.val, PdV.cells]
        · have hne : (E != 0) = true := by simpa using hE
          have hv := HV0.out
          rw [if_neg hE] at hv
          have hres := P.res
          have r0 := blk_cell hres 0
          have q0 := blk_free hres 0
          have r1 := blk_cell hres 1
          have q1 := blk_free hres 1
          have r2 := blk_cell hres 2
          have q2 := blk_free hres 2
          have r3 := blk_cell hres 3
          have q3 := blk_free hres 3
          have r4 := blk_cell hres 4
          have q4 := blk_free hres 4
          have r5 := blk_cell hres 5
          have q5 := blk_free hres 5
          have r6 := blk_cell hres 6
          have q6 := blk_free hres 6
          have r7 := blk_cell hres 7
          have q7 := blk_free hres 7
          have r8 := blk_cell hres 8
          have q8 := blk_free hres 8
          have r9 := blk_cell hres 9
          have q9 := blk_free hres 9
          have r10 := blk_cell hres 10
          have q10 := blk_free hres 10
          have r11 := blk_cell hres 11
          have q11 := blk_free hres 11
          have r12 := blk_cell hres 12
          have q12 := blk_free hres 12
          have r13 := blk_cell hres 13
          have q13 := blk_free hres 13
          have hk7 := set14P hres (.string ⟨#[]⟩) (.string ⟨#[]⟩) (.int .u64 0) (.int .u64 0) (.int .u64 0) (.int .u64 0) (.int .u64 0) (.int .u64 0) (.int .u64 0) (.int .u64 0) (.int .u64 0) (.int .u64 0) (.int .u64 0) (.int .u64 0)
          have hb7 := below_set14P hbel hrr (.string ⟨#[]⟩) (.string ⟨#[]⟩) (.int .u64 0) (.int .u64 0) (.int .u64 0) (.int .u64 0) (.int .u64 0) (.int .u64 0) (.int .u64 0) (.int .u64 0) (.int .u64 0) (.int .u64 0) (.int .u64 0) (.int .u64 0)
          have HD := Lib.hid (And.intro (blk_cell hk7 0) (And.intro (blk_cell hk7 1) (And.intro (blk_cell hk7 2) (And.intro (blk_cell hk7 3) (And.intro (blk_cell hk7 4) (And.intro (blk_cell hk7 5) (And.intro (blk_cell hk7 6) (And.intro (blk_cell hk7 7) (And.intro (blk_cell hk7 8) (And.intro (blk_cell hk7 9) (And.intro (blk_cell hk7 10) (And.intro (blk_cell hk7 11) (And.intro (blk_cell hk7 12) (blk_cell hk7 13))))))))))))))
          have HVV := Lib.hid hv
          try rw [← hgr]
          clear hk7 hv hres hgr hgi0 hloc HV0 P HE hrr hbel hog hl0
          go_wp2_with fail
          obtain ⟨d0, d1, d2, d3, d4, d5, d6, d7, d8, d9, d10, d11, d12, d13⟩ := HD.out
          refine bodyPost_ret (v := V) ?_ rfl ⟨rfl, hb7⟩
          rw [HVV.out]
          simp at d0 d1 d2 d3 d4 d5 d6 d7 d8 d9 d10 d11 d12 d13
          simp [results, Try.results7, go_sem, d0, d1, d2, d3, d4, d5, d6, d7, d8, d9, d10, d11, d12, d13, pdO, PdV.val, PdV.cells, PdV.none, U4.zero]
end Go.Proofs.Ytlkbjhhbpmmamaa
namespace Go.Proofs.Ytlkbjhhbpmmamaa
set_option maxRecDepth 100000
open Go Go.RowKit
set_option linter.unusedVariables false

set_option maxHeartbeats 4000000 in
theorem ftotal_any (w : World) (f d : ByteArray) (x y z : U4) (hx : x.ok) (hy : y.ok) (hz : z.ok) :
    Calls Try.prog 38 #[.agg #[.string d, .int .u64 (x.a : Int), .int .u64 (x.b : Int), .int .u64 (x.c : Int), .int .u64 (x.d : Int), .int .u64 (y.a : Int), .int .u64 (y.b : Int), .int .u64 (y.c : Int), .int .u64 (y.d : Int), .int .u64 (z.a : Int), .int .u64 (z.b : Int), .int .u64 (z.c : Int), .int .u64 (z.d : Int)]] w fun e w' => e = .returned (.tuple #[(totFee ⟨f, d, x, y, z⟩).1.val, .bool (totFee ⟨f, d, x, y, z⟩).2]) ∧ Below w.heap.size w w' := by
  have HA := Lib.hid (fun Z => add_any x y Z hx hy)
  have HP := addU_ok' x y
  unfold totFee
  dsimp only
  generalize addU x y = S at *
  obtain ⟨s, p⟩ := S
  have HB := Lib.hid (fun Z => add_any s z Z HP hz)
  dsimp only
  generalize addU s z = T at *
  obtain ⟨t, q⟩ := T
  have hbox := heap_alloc_new w (.cells #[.string d, .int .u64 (x.a : Int), .int .u64 (x.b : Int), .int .u64 (x.c : Int), .int .u64 (x.d : Int), .int .u64 (y.a : Int), .int .u64 (y.b : Int), .int .u64 (y.c : Int), .int .u64 (y.d : Int), .int .u64 (z.a : Int), .int .u64 (z.b : Int), .int .u64 (z.c : Int), .int .u64 (z.d : Int)] 35)
  have ha0 : Below w.heap.size w (w.alloc (.cells #[.string d, .int .u64 (x.a : Int), .int .u64 (x.b : Int), .int .u64 (x.c : Int), .int .u64 (x.d : Int), .int .u64 (y.a : Int), .int .u64 (y.b : Int), .int .u64 (y.c : Int), .int .u64 (y.d : Int), .int .u64 (z.a : Int), .int .u64 (z.b : Int), .int .u64 (z.c : Int), .int .u64 (z.d : Int)] 35)) := (Below.refl _ _).alloc (Nat.le_refl _) _
  have hres := heap_alloc_new (w.alloc (.cells #[.string d, .int .u64 (x.a : Int), .int .u64 (x.b : Int), .int .u64 (x.c : Int), .int .u64 (x.d : Int), .int .u64 (y.a : Int), .int .u64 (y.b : Int), .int .u64 (y.c : Int), .int .u64 (y.d : Int), .int .u64 (z.a : Int), .int .u64 (z.b : Int), .int .u64 (z.c : Int), .int .u64 (z.d : Int)] 35)) (.cells #[.int .u64 0, .int .u64 0, .int .u64 0, .int .u64 0] 33)
  have hbx2 := (Below.heap_alloc (w.alloc (.cells #[.string d, .int .u64 (x.a : Int), .int .u64 (x.b : Int), .int .u64 (x.c : Int), .int .u64 (x.d : Int), .int .u64 (y.a : Int), .int .u64 (y.b : Int), .int .u64 (y.c : Int), .int .u64 (y.d : Int), .int .u64 (z.a : Int), .int .u64 (z.b : Int), .int .u64 (z.c : Int), .int .u64 (z.d : Int)] 35)) (.cells #[.int .u64 0, .int .u64 0, .int .u64 0, .int .u64 0] 33) _ (blk_lt hbox)).trans hbox
  have hq0 := ha0.alloc ha0.size (.cells #[.int .u64 0, .int .u64 0, .int .u64 0, .int .u64 0] 33)
  have hgr : (w.alloc (.cells #[.string d, .int .u64 (x.a : Int), .int .u64 (x.b : Int), .int .u64 (x.c : Int), .int .u64 (x.d : Int), .int .u64 (y.a : Int), .int .u64 (y.b : Int), .int .u64 (y.c : Int), .int .u64 (y.d : Int), .int .u64 (z.a : Int), .int .u64 (z.b : Int), .int .u64 (z.c : Int), .int .u64 (z.d : Int)] 35)).heap.size = w.heap.size + 1 := by simp
  rw [hgr] at hres
  have b1 := blk_cell hbx2 1
  have b2 := blk_cell hbx2 2
  have b3 := blk_cell hbx2 3
  have b4 := blk_cell hbx2 4
  have b5 := blk_cell hbx2 5
  have b6 := blk_cell hbx2 6
  have b7 := blk_cell hbx2 7
  have b8 := blk_cell hbx2 8
  have HBX := Lib.hid hbx2
  have HRS := Lib.hid hres
  clear hbox ha0 hgr hx hy hz HP hres hbx2
  unfold U4.val U4.cells at HA HB
  dsimp only at HA HB
  cases p with
  | false =>
    rw [if_neg (by simp)]
    go_enter Try.func38, Try.ntmps38
    go_wp2_with fail
    generalize (w.alloc (.cells #[.string d, .int .u64 (x.a : Int), .int .u64 (x.b : Int), .int .u64 (x.c : Int), .int .u64 (x.d : Int), .int .u64 (y.a : Int), .int .u64 (y.b : Int), .int .u64 (y.c : Int), .int .u64 (y.d : Int), .int .u64 (z.a : Int), .int .u64 (z.b : Int), .int .u64 (z.c : Int), .int .u64 (z.d : Int)] 35)).alloc (.cells #[.int .u64 0, .int .u64 0, .int .u64 0, .int .u64 0] 33) = w0 at *
    refine (HA.out _).mono ?_
    rintro e w1 ⟨rfl, hb1⟩
    have hq1 := below_chain hq0 hq0.size hb1
    have hbx1 := (hb1.block _ (blk_lt HBX.out)).trans HBX.out
    have hrs1 := (hb1.block _ (blk_lt HRS.out)).trans HRS.out
    have hu := heap_alloc_new w1 (.cells #[.int .u64 (s.a : Int), .int .u64 (s.b : Int), .int .u64 (s.c : Int), .int .u64 (s.d : Int)] 33)
    have hau : Below w1.heap.size w1 (w1.alloc (.cells #[.int .u64 (s.a : Int), .int .u64 (s.b : Int), .int .u64 (s.c : Int), .int .u64 (s.d : Int)] 33)) := (Below.refl _ _).alloc (Nat.le_refl _) _
    have hq2 := below_chain hq1 hq1.size hau
    have u0 := blk_cell hu 0
    have u1 := blk_cell hu 1
    have u2 := blk_cell hu 2
    have u3 := blk_cell hu 3
    have hbx3 := (hau.block _ (blk_lt hbx1)).trans hbx1
    have hrs3 := (hau.block _ (blk_lt hrs1)).trans hrs1
    clear b1 b2 b3 b4 b5 b6 b7 b8 HBX HRS hb1 HA hq0 hbx1 hrs1
    clear hau hu hq1 HB hbx3
    have hres7 := hrs3
    have r0 := blk_cell hres7 0
    have q0 := blk_free hres7 0
    have r1 := blk_cell hres7 1
    have q1 := blk_free hres7 1
    have r2 := blk_cell hres7 2
    have q2 := blk_free hres7 2
    have r3 := blk_cell hres7 3
    have q3 := blk_free hres7 3
    have hk7 := set4P hres7 (.int .u64 0) (.int .u64 0) (.int .u64 0) (.int .u64 0)
    have hb7 := below_set4P hq2 (Nat.le_add_right w.heap.size 1) (.int .u64 0) (.int .u64 0) (.int .u64 0) (.int .u64 0)
    have HD := Lib.hid (And.intro (blk_cell hk7 0) (And.intro (blk_cell hk7 1) (And.intro (blk_cell hk7 2) (blk_cell hk7 3))))
    clear hk7 hres7
    go_wp2_with fail
    obtain ⟨d0, d1, d2, d3⟩ := HD.out
    refine bodyPost_ret ?_ rfl ⟨rfl, hb7⟩
    simp at d0 d1 d2 d3
    simp [results, Try.results38, go_sem, d0, d1, d2, d3, U4.val, U4.cells, U4.zero]
  | true =>
    rw [if_pos rfl]
    go_enter Try.func38, Try.ntmps38
    go_wp2_with fail
    generalize (w.alloc (.cells #[.string d, .int .u64 (x.a : Int), .int .u64 (x.b : Int), .int .u64 (x.c : Int), .int .u64 (x.d : Int), .int .u64 (y.a : Int), .int .u64 (y.b : Int), .int .u64 (y.c : Int), .int .u64 (y.d : Int), .int .u64 (z.a : Int), .int .u64 (z.b : Int), .int .u64 (z.c : Int), .int .u64 (z.d : Int)] 35)).alloc (.cells #[.int .u64 0, .int .u64 0, .int .u64 0, .int .u64 0] 33) = w0 at *
    refine (HA.out _).mono ?_
    rintro e w1 ⟨rfl, hb1⟩
    have hq1 := below_chain hq0 hq0.size hb1
    have hbx1 := (hb1.block _ (blk_lt HBX.out)).trans HBX.out
    have hrs1 := (hb1.block _ (blk_lt HRS.out)).trans HRS.out
    have hu := heap_alloc_new w1 (.cells #[.int .u64 (s.a : Int), .int .u64 (s.b : Int), .int .u64 (s.c : Int), .int .u64 (s.d : Int)] 33)
    have hau : Below w1.heap.size w1 (w1.alloc (.cells #[.int .u64 (s.a : Int), .int .u64 (s.b : Int), .int .u64 (s.c : Int), .int .u64 (s.d : Int)] 33)) := (Below.refl _ _).alloc (Nat.le_refl _) _
    have hq2 := below_chain hq1 hq1.size hau
    have u0 := blk_cell hu 0
    have u1 := blk_cell hu 1
    have u2 := blk_cell hu 2
    have u3 := blk_cell hu 3
    have hbx3 := (hau.block _ (blk_lt hbx1)).trans hbx1
    have hrs3 := (hau.block _ (blk_lt hrs1)).trans hrs1
    clear b1 b2 b3 b4 b5 b6 b7 b8 HBX HRS hb1 HA hq0 hbx1 hrs1
    have c9 := blk_cell hbx3 9
    have c10 := blk_cell hbx3 10
    have c11 := blk_cell hbx3 11
    have c12 := blk_cell hbx3 12
    have HRS := Lib.hid hrs3
    clear hau hu hbx3 hrs3
    go_wp2_with fail
    refine (HB.out _).mono ?_
    rintro e w5 ⟨rfl, hb5⟩
    have hq5 := below_chain hq2 hq2.size hb5
    have hrs5 := (hb5.block _ (blk_lt HRS.out)).trans HRS.out
    clear c9 c10 c11 c12 u0 u1 u2 u3 HB HRS hb5 hq2 hq1
    cases q <;>
      (skip
       have hres7 := hrs5
       have r0 := blk_cell hres7 0
       have q0 := blk_free hres7 0
       have r1 := blk_cell hres7 1
       have q1 := blk_free hres7 1
       have r2 := blk_cell hres7 2
       have q2 := blk_free hres7 2
       have r3 := blk_cell hres7 3
       have q3 := blk_free hres7 3
       have hk7 := set4P hres7 (.int .u64 (t.a : Int)) (.int .u64 (t.b : Int)) (.int .u64 (t.c : Int)) (.int .u64 (t.d : Int))
       have hb7 := below_set4P hq5 (Nat.le_add_right w.heap.size 1) (.int .u64 (t.a : Int)) (.int .u64 (t.b : Int)) (.int .u64 (t.c : Int)) (.int .u64 (t.d : Int))
       have HD := Lib.hid (And.intro (blk_cell hk7 0) (And.intro (blk_cell hk7 1) (And.intro (blk_cell hk7 2) (blk_cell hk7 3))))
       clear hk7 hres7
       go_wp2_with fail
       obtain ⟨d0, d1, d2, d3⟩ := HD.out
       refine bodyPost_ret ?_ rfl ⟨rfl, hb7⟩
       simp at d0 d1 d2 d3
       simp [results, Try.results38, go_sem, d0, d1, d2, d3, U4.val, U4.cells, U4.zero])
/-- a row of three gifts -/
def GfAt (W : World) (v : Value) (l : List (ByteArray × U4)) : Prop := ∃ g c, v = .slice (some ⟨g, 0, none⟩) l.length c ∧ g < W.heap.size ∧ ∀ (j : Nat) (h : j < l.length) (i : Nat) (u : Value), (#[.string l[j].1, .int .u64 (l[j].2.a : Int), .int .u64 (l[j].2.b : Int), .int .u64 (l[j].2.c : Int), .int .u64 (l[j].2.d : Int)] : Array Value)[i]? = some u → W.cell? ⟨g, j * 5 + i, none⟩ = some u
theorem GfAt.up {W W' : World} {v : Value} {l : List (ByteArray × U4)} (h : GfAt W v l) (hb : Below W.heap.size W W') : GfAt W' v l := by
  obtain ⟨g, c, hv, hg, hc⟩ := h
  exact ⟨g, c, hv, Nat.lt_of_lt_of_le hg hb.size, fun j hj i u hu => (hb.cell (p := ⟨g, j * 5 + i, none⟩) hg).trans (hc j hj i u hu)⟩
theorem GfAt.of3 {W : World} {g c : Nat} {a1 a2 a3 : ByteArray} {x1 x2 x3 : U4} {t : TypeId} (h : W.heap[g]? = some (.cells #[.string a1, .int .u64 (x1.a : Int), .int .u64 (x1.b : Int), .int .u64 (x1.c : Int), .int .u64 (x1.d : Int), .string a2, .int .u64 (x2.a : Int), .int .u64 (x2.b : Int), .int .u64 (x2.c : Int), .int .u64 (x2.d : Int), .string a3, .int .u64 (x3.a : Int), .int .u64 (x3.b : Int), .int .u64 (x3.c : Int), .int .u64 (x3.d : Int)] t (0, 0))) :
    GfAt W (.slice (some ⟨g, 0, none⟩) 3 c) [(a1, x1), (a2, x2), (a3, x3)] := by
  refine ⟨g, c, rfl, blk_lt h, fun j hj i u hu => ?_⟩
  have hi : i < 5 := by
    have := (Array.getElem?_eq_some_iff.1 hu).1
    simpa using this
  rw [blk_cell h (j * 5 + i), ← hu]
  match j, hj with
  | 0, _ => match i, hi with
    | 0, _ => rfl
    | 1, _ => rfl
    | 2, _ => rfl
    | 3, _ => rfl
    | 4, _ => rfl
  | 1, _ => match i, hi with
    | 0, _ => rfl
    | 1, _ => rfl
    | 2, _ => rfl
    | 3, _ => rfl
    | 4, _ => rfl
  | 2, _ => match i, hi with
    | 0, _ => rfl
    | 1, _ => rfl
    | 2, _ => rfl
    | 3, _ => rfl
    | 4, _ => rfl
set_option maxHeartbeats 4000000 in
theorem fgifts_late (w : World) (fr dn f b : ByteArray) (x y z : U4) :
    Calls Try.prog 42 #[.agg #[.string fr, .string dn, .int .u64 (x.a : Int), .int .u64 (x.b : Int), .int .u64 (x.c : Int), .int .u64 (x.d : Int), .int .u64 (y.a : Int), .int .u64 (y.b : Int), .int .u64 (y.c : Int), .int .u64 (y.d : Int), .int .u64 (z.a : Int), .int .u64 (z.b : Int), .int .u64 (z.c : Int), .int .u64 (z.d : Int)], .string f, .string b, .bool true] w fun e w' => ∃ v, e = .returned v ∧ GfAt w' v (giftsM ⟨fr, dn, x, y, z⟩ f b true) ∧ Below w.heap.size w w' := by
  have hbox := heap_alloc_new w (.cells #[.string fr, .string dn, .int .u64 (x.a : Int), .int .u64 (x.b : Int), .int .u64 (x.c : Int), .int .u64 (x.d : Int), .int .u64 (y.a : Int), .int .u64 (y.b : Int), .int .u64 (y.c : Int), .int .u64 (y.d : Int), .int .u64 (z.a : Int), .int .u64 (z.b : Int), .int .u64 (z.c : Int), .int .u64 (z.d : Int)] 37)
  have ha0 : Below w.heap.size w (w.alloc (.cells #[.string fr, .string dn, .int .u64 (x.a : Int), .int .u64 (x.b : Int), .int .u64 (x.c : Int), .int .u64 (x.d : Int), .int .u64 (y.a : Int), .int .u64 (y.b : Int), .int .u64 (y.c : Int), .int .u64 (y.d : Int), .int .u64 (z.a : Int), .int .u64 (z.b : Int), .int .u64 (z.c : Int), .int .u64 (z.d : Int)] 37)) := (Below.refl _ _).alloc (Nat.le_refl _) _
  have b0 := blk_cell hbox 0
  have b1 := blk_cell hbox 1
  have b2 := blk_cell hbox 2
  have b3 := blk_cell hbox 3
  have b4 := blk_cell hbox 4
  have b5 := blk_cell hbox 5
  have b6 := blk_cell hbox 6
  have b7 := blk_cell hbox 7
  have b8 := blk_cell hbox 8
  have b9 := blk_cell hbox 9
  have b10 := blk_cell hbox 10
  have b11 := blk_cell hbox 11
  have b12 := blk_cell hbox 12
  have b13 := blk_cell hbox 13
  have hrow := heap_alloc_new (w.alloc (.cells #[.string fr, .string dn, .int .u64 (x.a : Int), .int .u64 (x.b : Int), .int .u64 (x.c : Int), .int .u64 (x.d : Int), .int .u64 (y.a : Int), .int .u64 (y.b : Int), .int .u64 (y.c : Int), .int .u64 (y.d : Int), .int .u64 (z.a : Int), .int .u64 (z.b : Int), .int .u64 (z.c : Int), .int .u64 (z.d : Int)] 37)) (.cells #[.string fr, .int .u64 (x.a : Int), .int .u64 (x.b : Int), .int .u64 (x.c : Int), .int .u64 (x.d : Int), .string fr, .int .u64 (y.a : Int), .int .u64 (y.b : Int), .int .u64 (y.c : Int), .int .u64 (y.d : Int), .string b, .int .u64 (z.a : Int), .int .u64 (z.b : Int), .int .u64 (z.c : Int), .int .u64 (z.d : Int)] 90)
  have hq := ha0.alloc ha0.size (.cells #[.string fr, .int .u64 (x.a : Int), .int .u64 (x.b : Int), .int .u64 (x.c : Int), .int .u64 (x.d : Int), .string fr, .int .u64 (y.a : Int), .int .u64 (y.b : Int), .int .u64 (y.c : Int), .int .u64 (y.d : Int), .string b, .int .u64 (z.a : Int), .int .u64 (z.b : Int), .int .u64 (z.c : Int), .int .u64 (z.d : Int)] 90)
  have hgr : (w.alloc (.cells #[.string fr, .string dn, .int .u64 (x.a : Int), .int .u64 (x.b : Int), .int .u64 (x.c : Int), .int .u64 (x.d : Int), .int .u64 (y.a : Int), .int .u64 (y.b : Int), .int .u64 (y.c : Int), .int .u64 (y.d : Int), .int .u64 (z.a : Int), .int .u64 (z.b : Int), .int .u64 (z.c : Int), .int .u64 (z.d : Int)] 37)).heap.size = w.heap.size + 1 := by simp
  rw [hgr] at hrow
  have HG := Lib.hid (GfAt.of3 (c := 3) hrow)
  have HQ := Lib.hid hq
  clear hbox ha0 hrow hq hgr
  go_enter Try.func42, Try.ntmps42
  go_wp2_with fail
  go_ret
  exact ⟨_, rfl, HG.out, HQ.out⟩
set_option maxHeartbeats 4000000 in
theorem fgifts_soon (w : World) (fr dn f b : ByteArray) (x y z : U4) :
    Calls Try.prog 42 #[.agg #[.string fr, .string dn, .int .u64 (x.a : Int), .int .u64 (x.b : Int), .int .u64 (x.c : Int), .int .u64 (x.d : Int), .int .u64 (y.a : Int), .int .u64 (y.b : Int), .int .u64 (y.c : Int), .int .u64 (y.d : Int), .int .u64 (z.a : Int), .int .u64 (z.b : Int), .int .u64 (z.c : Int), .int .u64 (z.d : Int)], .string f, .string b, .bool false] w fun e w' => ∃ v, e = .returned v ∧ GfAt w' v (giftsM ⟨fr, dn, x, y, z⟩ f b false) ∧ Below w.heap.size w w' := by
  have hbox := heap_alloc_new w (.cells #[.string fr, .string dn, .int .u64 (x.a : Int), .int .u64 (x.b : Int), .int .u64 (x.c : Int), .int .u64 (x.d : Int), .int .u64 (y.a : Int), .int .u64 (y.b : Int), .int .u64 (y.c : Int), .int .u64 (y.d : Int), .int .u64 (z.a : Int), .int .u64 (z.b : Int), .int .u64 (z.c : Int), .int .u64 (z.d : Int)] 37)
  have ha0 : Below w.heap.size w (w.alloc (.cells #[.string fr, .string dn, .int .u64 (x.a : Int), .int .u64 (x.b : Int), .int .u64 (x.c : Int), .int .u64 (x.d : Int), .int .u64 (y.a : Int), .int .u64 (y.b : Int), .int .u64 (y.c : Int), .int .u64 (y.d : Int), .int .u64 (z.a : Int), .int .u64 (z.b : Int), .int .u64 (z.c : Int), .int .u64 (z.d : Int)] 37)) := (Below.refl _ _).alloc (Nat.le_refl _) _
  have b0 := blk_cell hbox 0
  have b1 := blk_cell hbox 1
  have b2 := blk_cell hbox 2
  have b3 := blk_cell hbox 3
  have b4 := blk_cell hbox 4
  have b5 := blk_cell hbox 5
  have b6 := blk_cell hbox 6
  have b7 := blk_cell hbox 7
  have b8 := blk_cell hbox 8
  have b9 := blk_cell hbox 9
  have b10 := blk_cell hbox 10
  have b11 := blk_cell hbox 11
  have b12 := blk_cell hbox 12
  have b13 := blk_cell hbox 13
  have hrow := heap_alloc_new (w.alloc (.cells #[.string fr, .string dn, .int .u64 (x.a : Int), .int .u64 (x.b : Int), .int .u64 (x.c : Int), .int .u64 (x.d : Int), .int .u64 (y.a : Int), .int .u64 (y.b : Int), .int .u64 (y.c : Int), .int .u64 (y.d : Int), .int .u64 (z.a : Int), .int .u64 (z.b : Int), .int .u64 (z.c : Int), .int .u64 (z.d : Int)] 37)) (.cells #[.string f, .int .u64 (x.a : Int), .int .u64 (x.b : Int), .int .u64 (x.c : Int), .int .u64 (x.d : Int), .string b, .int .u64 (y.a : Int), .int .u64 (y.b : Int), .int .u64 (y.c : Int), .int .u64 (y.d : Int), .string fr, .int .u64 (z.a : Int), .int .u64 (z.b : Int), .int .u64 (z.c : Int), .int .u64 (z.d : Int)] 90)
  have hq := ha0.alloc ha0.size (.cells #[.string f, .int .u64 (x.a : Int), .int .u64 (x.b : Int), .int .u64 (x.c : Int), .int .u64 (x.d : Int), .string b, .int .u64 (y.a : Int), .int .u64 (y.b : Int), .int .u64 (y.c : Int), .int .u64 (y.d : Int), .string fr, .int .u64 (z.a : Int), .int .u64 (z.b : Int), .int .u64 (z.c : Int), .int .u64 (z.d : Int)] 90)
  have hgr : (w.alloc (.cells #[.string fr, .string dn, .int .u64 (x.a : Int), .int .u64 (x.b : Int), .int .u64 (x.c : Int), .int .u64 (x.d : Int), .int .u64 (y.a : Int), .int .u64 (y.b : Int), .int .u64 (y.c : Int), .int .u64 (y.d : Int), .int .u64 (z.a : Int), .int .u64 (z.b : Int), .int .u64 (z.c : Int), .int .u64 (z.d : Int)] 37)).heap.size = w.heap.size + 1 := by simp
  rw [hgr] at hrow
  have HG := Lib.hid (GfAt.of3 (c := 3) hrow)
  have HQ := Lib.hid hq
  clear hbox ha0 hrow hq hgr
  go_enter Try.func42, Try.ntmps42
  go_wp2_with fail
  go_ret
  exact ⟨_, rfl, HG.out, HQ.out⟩
theorem fgifts_any (w : World) (v : PdV) (f b : ByteArray) (late : Bool) :
    Calls Try.prog 42 #[v.val, .string f, .string b, .bool late] w fun e w' => ∃ u, e = .returned u ∧ GfAt w' u (giftsM v f b late) ∧ Below w.heap.size w w' := by
  obtain ⟨fr, dn, x, y, z⟩ := v
  cases late with
  | false => exact fgifts_soon w fr dn f b x y z
  | true => exact fgifts_late w fr dn f b x y z
end Go.Proofs.Ytlkbjhhbpmmamaa
