
/- What is paid ahead, read; the three amounts together. The three amounts together; who has what of them. Fees for a packet that is on its way. Fees that are settled. The law's fixed answers about fees, walked. Calls on fees, in rows. -/
import Derived.Test.YtaafaaoioleokaaGreatDoorFeeM1
import Derived.Test.YtaafaaoioleokaaGreatDoorBankD
namespace Go.Proofs.YtaafaaoioleokaaGreatDoor
set_option maxRecDepth 100000
open Go Go.RowKit
set_option linter.unusedVariables false

theorem set14P {w : World} {g : Nat} {x0 x1 x2 x3 x4 x5 x6 x7 x8 x9 x10 x11 x12 x13 : Value} {t : TypeId} (h : w.heap[g]? = some (.cells #[x0, x1, x2, x3, x4, x5, x6, x7, x8, x9, x10, x11, x12, x13] t (0, 0))) (y0 y1 y2 y3 y4 y5 y6 y7 y8 y9 y10 y11 y12 y13 : Value) : ((((((((((((((w.setCell ⟨g, 0, none⟩ y0).setCell ⟨g, 1, none⟩ y1).setCell ⟨g, 2, none⟩ y2).setCell ⟨g, 3, none⟩ y3).setCell ⟨g, 4, none⟩ y4).setCell ⟨g, 5, none⟩ y5).setCell ⟨g, 6, none⟩ y6).setCell ⟨g, 7, none⟩ y7).setCell ⟨g, 8, none⟩ y8).setCell ⟨g, 9, none⟩ y9).setCell ⟨g, 10, none⟩ y10).setCell ⟨g, 11, none⟩ y11).setCell ⟨g, 12, none⟩ y12).setCell ⟨g, 13, none⟩ y13).heap[g]? = some (.cells #[y0, y1, y2, y3, y4, y5, y6, y7, y8, y9, y10, y11, y12, y13] t (0, 0)) := by
  simpa using (blk_set (blk_set (blk_set (blk_set (blk_set (blk_set (blk_set (blk_set (blk_set (blk_set (blk_set (blk_set (blk_set (blk_set h 0 y0) 1 y1) 2 y2) 3 y3) 4 y4) 5 y5) 6 y6) 7 y7) 8 y8) 9 y9) 10 y10) 11 y11) 12 y12) 13 y13)
theorem below_set14P {B : Nat} {w w' : World} {g : Nat} (h : Below B w w') (hg : B ≤ g) (y0 y1 y2 y3 y4 y5 y6 y7 y8 y9 y10 y11 y12 y13 : Value) : Below B w ((((((((((((((w'.setCell ⟨g, 0, none⟩ y0).setCell ⟨g, 1, none⟩ y1).setCell ⟨g, 2, none⟩ y2).setCell ⟨g, 3, none⟩ y3).setCell ⟨g, 4, none⟩ y4).setCell ⟨g, 5, none⟩ y5).setCell ⟨g, 6, none⟩ y6).setCell ⟨g, 7, none⟩ y7).setCell ⟨g, 8, none⟩ y8).setCell ⟨g, 9, none⟩ y9).setCell ⟨g, 10, none⟩ y10).setCell ⟨g, 11, none⟩ y11).setCell ⟨g, 12, none⟩ y12).setCell ⟨g, 13, none⟩ y13) := ((((((((((((((h.setCell hg y0).setCell hg y1).setCell hg y2).setCell hg y3).setCell hg y4).setCell hg y5).setCell hg y6).setCell hg y7).setCell hg y8).setCell hg y9).setCell hg y10).setCell hg y11).setCell hg y12).setCell hg y13)
def rcd (l : List UInt8) (f : Int) : Nat → Array Value
  | 0 => #[.int .u64 0, .int .u64 0, .int .u64 0, .int .u64 0, .int .u64 0, .int .u64 0, .int .u64 0, .int .u64 0, .int .u64 0, .int .u64 0, .int .u64 0, .int .u64 0]
  | j + 1 => ((((rcd l f j).setIfInBounds (j * 4) (.int .u64 ((ram l f j).1.a : Int))).setIfInBounds (j * 4 + 1) (.int .u64 ((ram l f j).1.b : Int))).setIfInBounds (j * 4 + 2) (.int .u64 ((ram l f j).1.c : Int))).setIfInBounds (j * 4 + 3) (.int .u64 ((ram l f j).1.d : Int))
theorem rcd_zero (l : List UInt8) (f : Int) (j i : Nat) (hj : j < 3) (hi : i < 4) : (rcd l f j)[j * 4 + i]? = some (.int .u64 0) := by
  match j, hj with
  | 0, _ => match i, hi with
    | 0, _ => rfl
    | 1, _ => rfl
    | 2, _ => rfl
    | 3, _ => rfl
  | 1, _ => match i, hi with
    | 0, _ => simp [rcd]
    | 1, _ => simp [rcd]
    | 2, _ => simp [rcd]
    | 3, _ => simp [rcd]
  | 2, _ => match i, hi with
    | 0, _ => simp [rcd]
    | 1, _ => simp [rcd]
    | 2, _ => simp [rcd]
    | 3, _ => simp [rcd]
theorem rcd_three (l : List UInt8) (f : Int) : rcd l f 3 = #[.int .u64 ((ram l f 0).1.a : Int), .int .u64 ((ram l f 0).1.b : Int), .int .u64 ((ram l f 0).1.c : Int), .int .u64 ((ram l f 0).1.d : Int), .int .u64 ((ram l f 1).1.a : Int), .int .u64 ((ram l f 1).1.b : Int), .int .u64 ((ram l f 1).1.c : Int), .int .u64 ((ram l f 1).1.d : Int), .int .u64 ((ram l f 2).1.a : Int), .int .u64 ((ram l f 2).1.b : Int), .int .u64 ((ram l f 2).1.c : Int), .int .u64 ((ram l f 2).1.d : Int)] := by simp [rcd]
structure FGR (w : World) (gr gd lo g : Nat) (lb : List UInt8) (fb : Int) (j : Nat) (Z : World) : Prop where
  z : ∀ q, q < j → (ram lb fb q).2 = 0
  p : PZ 191 w gr gd lo g 103 182 #[.string ⟨#[]⟩, .string ⟨#[]⟩, .int .u64 0, .int .u64 0, .int .u64 0, .int .u64 0, .int .u64 0, .int .u64 0, .int .u64 0, .int .u64 0, .int .u64 0, .int .u64 0, .int .u64 0, .int .u64 0] (rcd lb fb j) (rst lb fb j).1 (rst lb fb j).2 Z
set_option maxHeartbeats 16000000 in
theorem fget_any {W w : World} {y : Lyr} {l : List Lyr} {R : List Pr} {k : Nat} (h : At W y l R k w) (a : ByteArray) (n : Nat) (hn : n < 18446744073709551616) (ha : a.size ≤ 100000000) :
    Calls Tryz.prog 56 #[.pointer (some ⟨y.b, 0, none⟩), .string a, .int .u64 (n : Int)] w fun e w' => e = .returned (pdO (getPd R a n)) ∧ Below w.heap.size w w' := by
  have HG := Lib.hid (fun (Z : World) (hz : Below w.heap.size w Z) => (h.up hz).get (kFee a n) (by rw [kFee_size]; unfold maxLen; omega))
  have HFT : Hid (∀ v, getL R (kFee a n) = some v → v.length ≤ 2000000) := Lib.hid (fun v e => Nat.le_trans (h.fits (key := kFee a n) (v := v) e).2 (by decide))
  obtain ⟨B, hB⟩ : ∃ B : Addr, B = ⟨y.b, 0, none⟩ := ⟨_, rfl⟩
  rw [← hB] at HG ⊢
  clear hB h
  have HK := Lib.hid (fun W => fkey_any a n W hn ha)
  obtain ⟨V, hV⟩ : ∃ V, V = pdO (getPd R a n) := ⟨_, rfl⟩
  rw [← hV]
  unfold getPd at hV
  generalize getL R (kFee a n) = o at *
  generalize kFee a n = key at *
  have hk0 := heap_alloc_new w (.cells #[.string ⟨#[]⟩, .string ⟨#[]⟩, .int .u64 0, .int .u64 0, .int .u64 0, .int .u64 0, .int .u64 0, .int .u64 0, .int .u64 0, .int .u64 0, .int .u64 0, .int .u64 0, .int .u64 0, .int .u64 0] 103)
  have ha0 : Below w.heap.size w (w.alloc (.cells #[.string ⟨#[]⟩, .string ⟨#[]⟩, .int .u64 0, .int .u64 0, .int .u64 0, .int .u64 0, .int .u64 0, .int .u64 0, .int .u64 0, .int .u64 0, .int .u64 0, .int .u64 0, .int .u64 0, .int .u64 0] 103)) := (Below.refl _ _).alloc (Nat.le_refl _) _
  go_enter Tryz.func56, Tryz.ntmps56
  go_wp2_with fail
  generalize w.alloc (.cells #[.string ⟨#[]⟩, .string ⟨#[]⟩, .int .u64 0, .int .u64 0, .int .u64 0, .int .u64 0, .int .u64 0, .int .u64 0, .int .u64 0, .int .u64 0, .int .u64 0, .int .u64 0, .int .u64 0, .int .u64 0] 103) = w0 at *
  refine (HK.out _).mono ?_
  rintro e w9 ⟨rfl, hb9⟩
  have ha9 := below_chain ha0 ha0.size hb9
  have hk9 := (hb9.block _ (blk_lt hk0)).trans hk0
  go_wp2_with fail
  refine (HG.out _ ha9).mono ?_
  rintro e w1 ⟨v, rfl, hov, hb1⟩
  have hq1 := below_chain ha9 ha9.size hb1
  have hk1 := (hb1.block _ (blk_lt hk9)).trans hk9
  have hl0 := blk_lt hk0
  obtain ⟨gr, hgr⟩ : ∃ gr, gr = w.heap.size := ⟨_, rfl⟩
  rw [← hgr] at hk1 ⊢
  have hgi0 : w.heap.size ≤ gr := by omega
  clear HG HK ha0 hk0 hb1 ha9 hk9 hb9
  cases o with
  | none =>
    have hv : V = pdO none := by rw [hV]; rfl
    obtain ⟨A, c, rfl⟩ := hov.form
    clear hov HFT hV
    have hres := hk1
    have r0 := blk_cell hres 0
    have q0 := blk_free hres 0
    have r1 := blk_cell hres 1
    have q1 := blk_free hres 1
    have r2 := blk_cell hres 2
    have q2 := blk_free hres 2
    have r3 := blk_cell hres 3
    have q3 := blk_free hres 3
    have r4 := blk_cell hres 4
    have q4 := blk_free hres 4
    have r5 := blk_cell hres 5
    have q5 := blk_free hres 5
    have r6 := blk_cell hres 6
    have q6 := blk_free hres 6
    have r7 := blk_cell hres 7
    have q7 := blk_free hres 7
    have r8 := blk_cell hres 8
    have q8 := blk_free hres 8
    have r9 := blk_cell hres 9
    have q9 := blk_free hres 9
    have r10 := blk_cell hres 10
    have q10 := blk_free hres 10
    have r11 := blk_cell hres 11
    have q11 := blk_free hres 11
    have r12 := blk_cell hres 12
    have q12 := blk_free hres 12
    have r13 := blk_cell hres 13
    have q13 := blk_free hres 13
    have hk7 := set14P hres (.string ⟨#[]⟩) (.string ⟨#[]⟩) (.int .u64 0) (.int .u64 0) (.int .u64 0) (.int .u64 0) (.int .u64 0) (.int .u64 0) (.int .u64 0) (.int .u64 0) (.int .u64 0) (.int .u64 0) (.int .u64 0) (.int .u64 0)
    have hb7 := below_set14P hq1 hgi0 (.string ⟨#[]⟩) (.string ⟨#[]⟩) (.int .u64 0) (.int .u64 0) (.int .u64 0) (.int .u64 0) (.int .u64 0) (.int .u64 0) (.int .u64 0) (.int .u64 0) (.int .u64 0) (.int .u64 0) (.int .u64 0) (.int .u64 0)
    have HD := Lib.hid (And.intro (blk_cell hk7 0) (And.intro (blk_cell hk7 1) (And.intro (blk_cell hk7 2) (And.intro (blk_cell hk7 3) (And.intro (blk_cell hk7 4) (And.intro (blk_cell hk7 5) (And.intro (blk_cell hk7 6) (And.intro (blk_cell hk7 7) (And.intro (blk_cell hk7 8) (And.intro (blk_cell hk7 9) (And.intro (blk_cell hk7 10) (And.intro (blk_cell hk7 11) (And.intro (blk_cell hk7 12) (blk_cell hk7 13))))))))))))))
    have HVV := Lib.hid hv
    try rw [← hgr]
    clear hk7 hv hres hgr hgi0 hl0
    go_wp2_with fail
    obtain ⟨d0, d1, d2, d3, d4, d5, d6, d7, d8, d9, d10, d11, d12, d13⟩ := HD.out
    refine bodyPost_ret (v := V) ?_ rfl ⟨rfl, hb7⟩
    rw [HVV.out]
    simp at d0 d1 d2 d3 d4 d5 d6 d7 d8 d9 d10 d11 d12 d13
    simp [results, Tryz.results56, go_sem, d0, d1, d2, d3, d4, d5, d6, d7, d8, d9, d10, d11, d12, d13, pdO, PdV.val, PdV.cells, PdV.none, U4.zero]
  | some l =>
    have hll := HFT.out l rfl
    have HO := Lib.hid (open_rd v l w1 hov.rd (by omega))
    obtain ⟨A, c, rfl⟩ := hov.form
    have HV := Lib.hid (show V = pdO (readPd l) from hV)
    unfold readPd at HV
    clear hov HFT hV
    go_wp2_with fail
    refine HO.out.mono ?_
    rintro e w2 ⟨g, rfl, hr2, hb2⟩
    have hq2 := below_chain hq1 hq1.size hb2
    have hk2 := (hb2.block _ (blk_lt hk1)).trans hk1
    have hlo := blk_lt hk1
    have hgi := hr2.from_
    have hog : gr < w1.heap.size := hlo
    generalize w1.heap.size = lo at *
    clear HO hb2 hk1 hq1
    go_wp2_with fail
    refine (rdT_any hr2).mono ?_
    rintro e w3 ⟨rfl, hr3, hg3⟩
    have hq3 : Below w.heap.size w w3 := hq2.grown hg3 hq2.size (fun k e => by injection e with e; omega)
    have hk3 := (hg3.block _ (blk_lt hk2) (fun e => by injection e with e; omega)).trans hk2
    have b_xa := rB_le l 0
    generalize rB l 0 = Q at *
    obtain ⟨xa, l_xa, f_xa⟩ := Q
    dsimp only at hr3 HV b_xa ⊢
    clear hr2 hg3 hq2 hk2
    go_wp2_with fail
    refine (rdT_any hr3).mono ?_
    rintro e w4 ⟨rfl, hr4, hg4⟩
    have hq4 : Below w.heap.size w w4 := hq3.grown hg4 hq3.size (fun k e => by injection e with e; omega)
    have hk4 := (hg4.block _ (blk_lt hk3) (fun e => by injection e with e; omega)).trans hk3
    have b_xb := rB_le l_xa f_xa
    generalize rB l_xa f_xa = Q at *
    obtain ⟨xb, lb, fb⟩ := Q
    dsimp only at hr4 HV b_xb ⊢
    have hgl := hr4.lt
    obtain ⟨gd, hgd⟩ : ∃ gd, gd = w4.heap.size := ⟨_, rfl⟩
    have P1 : PZ 191 w gr gd lo g 103 182 #[.string ⟨#[]⟩, .string ⟨#[]⟩, .int .u64 0, .int .u64 0, .int .u64 0, .int .u64 0, .int .u64 0, .int .u64 0, .int .u64 0, .int .u64 0, .int .u64 0, .int .u64 0, .int .u64 0, .int .u64 0] (rcd lb fb 0) (rst lb fb 0).1 (rst lb fb 0).2 (w4.alloc (.cells #[.int .u64 0, .int .u64 0, .int .u64 0, .int .u64 0, .int .u64 0, .int .u64 0, .int .u64 0, .int .u64 0, .int .u64 0, .int .u64 0, .int .u64 0, .int .u64 0] 182)) :=
      ⟨hq4.alloc hq4.size _, by omega, by have := hq4.size; omega, (Below.heap_alloc w4 _ _ (blk_lt hk4)).trans hk4, by rw [hgd]; exact heap_alloc_new w4 _, hr4.below ((Below.refl _ _).alloc (Nat.le_refl _) _), by omega, by omega⟩
    have HVN : Hid (∀ j, j < 3 → (ram lb fb j).2 ≠ 0 → (∀ i, i < j → (ram lb fb i).2 = 0) → V = pdO none) := Lib.hid (by
      intro j hj hne hz
      rw [HV.out]
      match j, hj with
      | 0, _ => rw [if_neg hne]
      | 1, _ => rw [if_pos (hz 0 (by omega)), if_neg hne]
      | 2, _ => rw [if_pos (hz 0 (by omega)), if_pos (hz 1 (by omega)), if_neg hne])
    clear hr3 hg4 hq3 hk3 hq4 hk4 hr4 hgl hgi hlo
    go_wp2_with fail
    rw [← hgd]
    generalize w4.alloc (.cells #[.int .u64 0, .int .u64 0, .int .u64 0, .int .u64 0, .int .u64 0, .int .u64 0, .int .u64 0, .int .u64 0, .int .u64 0, .int .u64 0, .int .u64 0, .int .u64 0] 182) = wz at *
    clear hgd
    go_loopw [34] (fun i Z => ∃ j : Nat, j ≤ 3 ∧ i = .int .i64 (j : Int) ∧ FGR w gr gd lo g lb fb j Z)
      (fun i _ => 3 - (intOf i).toNat)
    case atStart => exact ⟨0, by omega, rfl, ⟨fun q h => absurd h (by omega), P1⟩⟩
    case round =>
      clear P1
      obtain ⟨j, hj, rfl, HX0⟩ := hrel
      have P := HX0.p
      have HX := Lib.hid HX0.z
      clear HX0
      by_cases hlt : j < 3
      · have i1 : (0 : Int) ≤ (j : Int) := by omega
        have i2 : (j : Int) < 3 := by omega
        have hz0 := rcd_zero lb fb j 0 hlt (by omega)
        have hz1 := rcd_zero lb fb j 1 hlt (by omega)
        have hz2 := rcd_zero lb fb j 2 hlt (by omega)
        have hz3 := rcd_zero lb fb j 3 hlt (by omega)
        rw [Nat.add_zero] at hz0
        have HNX : Hid (rcd lb fb (j + 1) = ((((rcd lb fb j).setIfInBounds (j * 4) (.int .u64 ((ram lb fb j).1.a : Int))).setIfInBounds (j * 4 + 1) (.int .u64 ((ram lb fb j).1.b : Int))).setIfInBounds (j * 4 + 2) (.int .u64 ((ram lb fb j).1.c : Int))).setIfInBounds (j * 4 + 3) (.int .u64 ((ram lb fb j).1.d : Int)) ∧ rst lb fb (j + 1) = ((rB (rst lb fb j).1 (rst lb fb j).2).2.1, (rB (rst lb fb j).1 (rst lb fb j).2).2.2)) := Lib.hid ⟨rfl, rfl⟩
        have HRM : Hid (ram lb fb j = fromU (rB (rst lb fb j).1 (rst lb fb j).2).1) := Lib.hid rfl
        have HV1 := Lib.hid (fun hne => HVN.out j hlt hne HX.out)
        have HV2 : Hid ((ram lb fb j).2 = 0 → ∀ q, q < j + 1 → (ram lb fb q).2 = 0) := Lib.hid (fun h0 q hq => by
          by_cases e : q = j
          · rw [e]; exact h0
          · exact HX.out q (by omega))
        generalize rcd lb fb j = cd at *
        generalize (rst lb fb j).1 = lj at *
        generalize (rst lb fb j).2 = fj at *
        generalize ram lb fb j = rj at *
        go_wp2_with fail
        refine (rdB_any P.rd).mono ?_
        rintro e wa ⟨vB, rfl, hoB, hr, hg⟩
        replace P := P.call hg hr
        clear hr hg
        generalize rB lj fj = Q at *
        obtain ⟨m, l3, f3⟩ := Q
        dsimp only at P HNX HRM hoB ⊢
        have HF := Lib.hid (from_any vB m _ hoB.rd)
        obtain ⟨AB, cB, rfl⟩ := hoB.form
        clear hoB
        generalize m.length = mlen at *
        go_wp2_with fail
        refine HF.out.mono ?_
        rintro e w5 ⟨rfl, hb5⟩
        replace P := P.up hb5
        rw [← HRM.out]
        clear hb5 HF
        obtain ⟨x, fe⟩ := rj
        dsimp only at HNX HRM HV1 HV2 ⊢
        unfold U4.val U4.cells
        have hau : Below w5.heap.size w5 (w5.alloc (.cells #[.int .u64 (x.a : Int), .int .u64 (x.b : Int), .int .u64 (x.c : Int), .int .u64 (x.d : Int)] 32)) := (Below.refl _ _).alloc (Nat.le_refl _) _
        have hu5 := heap_alloc_new w5 (.cells #[.int .u64 (x.a : Int), .int .u64 (x.b : Int), .int .u64 (x.c : Int), .int .u64 (x.d : Int)] 32)
        have P5 := P.up hau
        have u0 := blk_cell hu5 0
        have u1 := blk_cell hu5 1
        have u2 := blk_cell hu5 2
        have u3 := blk_cell hu5 3
        by_cases hfe : fe = 0
        · subst hfe
          have z0 := (blk_cell P5.loc (j * 4)).trans hz0
          have z1 := (blk_cell P5.loc (j * 4 + 1)).trans hz1
          have z2 := (blk_cell P5.loc (j * 4 + 2)).trans hz2
          have z3 := (blk_cell P5.loc (j * 4 + 3)).trans hz3
          have y0 := blk_free P5.loc (j * 4)
          have y1 := blk_free P5.loc (j * 4 + 1)
          have y2 := blk_free P5.loc (j * 4 + 2)
          have y3 := blk_free P5.loc (j * 4 + 3)
          have P6 := (((P5.set (j * 4) (.int .u64 (x.a : Int))).set (j * 4 + 1) (.int .u64 (x.b : Int))).set (j * 4 + 2) (.int .u64 (x.c : Int))).set (j * 4 + 3) (.int .u64 (x.d : Int))
          rw [← HNX.out.1] at P6
          have HP6 := Lib.hid P6
          clear P P5 P6 hau hu5 HVN HV1 HX hz0 hz1 hz2 hz3
          go_wp2_with fail
          have h6 := HP6.out
          refine ⟨⟨j + 1, by omega, ?_, ⟨HV2.out rfl, ?_⟩⟩, ?_⟩
          · simp
          · rw [HNX.out.2]; exact h6
          · simp [intOf]; omega
        · have hne : (fe != 0) = true := by simpa using hfe
          have hv := HV1.out hfe
          have hrr := P5.hr
          have hbel := P5.below
          have hres := P5.res
          have r0 := blk_cell hres 0
          have q0 := blk_free hres 0
          have r1 := blk_cell hres 1
          have q1 := blk_free hres 1
          have r2 := blk_cell hres 2
          have q2 := blk_free hres 2
          have r3 := blk_cell hres 3
          have q3 := blk_free hres 3
          have r4 := blk_cell hres 4
          have q4 := blk_free hres 4
          have r5 := blk_cell hres 5
          have q5 := blk_free hres 5
          have r6 := blk_cell hres 6
          have q6 := blk_free hres 6
          have r7 := blk_cell hres 7
          have q7 := blk_free hres 7
          have r8 := blk_cell hres 8
          have q8 := blk_free hres 8
          have r9 := blk_cell hres 9
          have q9 := blk_free hres 9
          have r10 := blk_cell hres 10
          have q10 := blk_free hres 10
          have r11 := blk_cell hres 11
          have q11 := blk_free hres 11
          have r12 := blk_cell hres 12
          have q12 := blk_free hres 12
          have r13 := blk_cell hres 13
          have q13 := blk_free hres 13
          have hk7 := set14P hres (.string ⟨#[]⟩) (.string ⟨#[]⟩) (.int .u64 0) (.int .u64 0) (.int .u64 0) (.int .u64 0) (.int .u64 0) (.int .u64 0) (.int .u64 0) (.int .u64 0) (.int .u64 0) (.int .u64 0) (.int .u64 0) (.int .u64 0)
          have hb7 := below_set14P hbel hrr (.string ⟨#[]⟩) (.string ⟨#[]⟩) (.int .u64 0) (.int .u64 0) (.int .u64 0) (.int .u64 0) (.int .u64 0) (.int .u64 0) (.int .u64 0) (.int .u64 0) (.int .u64 0) (.int .u64 0) (.int .u64 0) (.int .u64 0)
          have HD := Lib.hid (And.intro (blk_cell hk7 0) (And.intro (blk_cell hk7 1) (And.intro (blk_cell hk7 2) (And.intro (blk_cell hk7 3) (And.intro (blk_cell hk7 4) (And.intro (blk_cell hk7 5) (And.intro (blk_cell hk7 6) (And.intro (blk_cell hk7 7) (And.intro (blk_cell hk7 8) (And.intro (blk_cell hk7 9) (And.intro (blk_cell hk7 10) (And.intro (blk_cell hk7 11) (And.intro (blk_cell hk7 12) (blk_cell hk7 13))))))))))))))
          have HVV := Lib.hid hv
          try rw [← hgr]
          clear hk7 hv hres hgr hgi0 P P5 hau hu5 HVN HV HV1 HV2 HX hz0 hz1 hz2 hz3 HNX HRM hrr hbel hog hlt hj hl0
          go_wp2_with fail
          obtain ⟨d0, d1, d2, d3, d4, d5, d6, d7, d8, d9, d10, d11, d12, d13⟩ := HD.out
          refine bodyPost_ret (v := V) ?_ rfl ⟨rfl, hb7⟩
          rw [HVV.out]
          simp at d0 d1 d2 d3 d4 d5 d6 d7 d8 d9 d10 d11 d12 d13
          simp [results, Tryz.results56, go_sem, d0, d1, d2, d3, d4, d5, d6, d7, d8, d9, d10, d11, d12, d13, pdO, PdV.val, PdV.cells, PdV.none, U4.zero]
      · have i2 : ¬ (j : Int) < 3 := by omega
        obtain rfl : j = 3 := by omega
        rw [rcd_three] at P
        have hz0 := HX.out 0 (by omega)
        have hz1 := HX.out 1 (by omega)
        have hz2 := HX.out 2 (by omega)
        have hv0 := HV.out
        rw [if_pos hz0, if_pos hz1, if_pos hz2] at hv0
        have HE := Lib.hid (rdEnd_any P.rd)
        generalize (ram lb fb 0).1 = x at *
        generalize (ram lb fb 1).1 = y at *
        generalize (ram lb fb 2).1 = z at *
        generalize rEnd (rst lb fb 3).1 (rst lb fb 3).2 = E at *
        have HV0 := Lib.hid hv0
        clear hv0 HV HVN HX hz0 hz1 hz2
        go_wp2_with fail
        refine HE.out.mono ?_
        rintro e w7 ⟨rfl, rfl⟩
        have hrr := P.hr
        have hbel := P.below
        have hloc := P.loc
        by_cases hE : E = 0
        · subst hE
          have hv := HV0.out
          rw [if_pos rfl] at hv
          have s0 := blk_cell hloc 0
          have s1 := blk_cell hloc 1
          have s2 := blk_cell hloc 2
          have s3 := blk_cell hloc 3
          have s4 := blk_cell hloc 4
          have s5 := blk_cell hloc 5
          have s6 := blk_cell hloc 6
          have s7 := blk_cell hloc 7
          have s8 := blk_cell hloc 8
          have s9 := blk_cell hloc 9
          have s10 := blk_cell hloc 10
          have s11 := blk_cell hloc 11
          have hres := P.res
          have r0 := blk_cell hres 0
          have q0 := blk_free hres 0
          have r1 := blk_cell hres 1
          have q1 := blk_free hres 1
          have r2 := blk_cell hres 2
          have q2 := blk_free hres 2
          have r3 := blk_cell hres 3
          have q3 := blk_free hres 3
          have r4 := blk_cell hres 4
          have q4 := blk_free hres 4
          have r5 := blk_cell hres 5
          have q5 := blk_free hres 5
          have r6 := blk_cell hres 6
          have q6 := blk_free hres 6
          have r7 := blk_cell hres 7
          have q7 := blk_free hres 7
          have r8 := blk_cell hres 8
          have q8 := blk_free hres 8
          have r9 := blk_cell hres 9
          have q9 := blk_free hres 9
          have r10 := blk_cell hres 10
          have q10 := blk_free hres 10
          have r11 := blk_cell hres 11
          have q11 := blk_free hres 11
          have r12 := blk_cell hres 12
          have q12 := blk_free hres 12
          have r13 := blk_cell hres 13
          have q13 := blk_free hres 13
          have hk7 := set14P hres (.string ⟨xa.toArray⟩) (.string ⟨xb.toArray⟩) (.int .u64 (x.a : Int)) (.int .u64 (x.b : Int)) (.int .u64 (x.c : Int)) (.int .u64 (x.d : Int)) (.int .u64 (y.a : Int)) (.int .u64 (y.b : Int)) (.int .u64 (y.c : Int)) (.int .u64 (y.d : Int)) (.int .u64 (z.a : Int)) (.int .u64 (z.b : Int)) (.int .u64 (z.c : Int)) (.int .u64 (z.d : Int))
          have hb7 := below_set14P hbel hrr (.string ⟨xa.toArray⟩) (.string ⟨xb.toArray⟩) (.int .u64 (x.a : Int)) (.int .u64 (x.b : Int)) (.int .u64 (x.c : Int)) (.int .u64 (x.d : Int)) (.int .u64 (y.a : Int)) (.int .u64 (y.b : Int)) (.int .u64 (y.c : Int)) (.int .u64 (y.d : Int)) (.int .u64 (z.a : Int)) (.int .u64 (z.b : Int)) (.int .u64 (z.c : Int)) (.int .u64 (z.d : Int))
          have HD := Lib.hid (And.intro (blk_cell hk7 0) (And.intro (blk_cell hk7 1) (And.intro (blk_cell hk7 2) (And.intro (blk_cell hk7 3) (And.intro (blk_cell hk7 4) (And.intro (blk_cell hk7 5) (And.intro (blk_cell hk7 6) (And.intro (blk_cell hk7 7) (And.intro (blk_cell hk7 8) (And.intro (blk_cell hk7 9) (And.intro (blk_cell hk7 10) (And.intro (blk_cell hk7 11) (And.intro (blk_cell hk7 12) (blk_cell hk7 13))))))))))))))
          have HVV := Lib.hid hv
          try rw [← hgr]
          clear hk7 hv hres hloc HV0 P HE hrr hbel hog hgr hgi0 hl0
          go_wp2_with fail
          obtain ⟨d0, d1, d2, d3, d4, d5, d6, d7, d8, d9, d10, d11, d12, d13⟩ := HD.out
          refine bodyPost_ret (v := V) ?_ rfl ⟨rfl, hb7⟩
          rw [HVV.out]
          simp at d0 d1 d2 d3 d4 d5 d6 d7 d8 d9 d10 d11 d12 d13
          simp [results, Tryz.results56, go_sem, d0, d1, d2, d3, d4, d5, d6, d7, d8, d9, d10, d11, d12, d13, pdO, PdV.val, PdV.cells]
        · have hne : (E != 0) = true := by simpa using hE
          have hv := HV0.out
          rw [if_neg hE] at hv
          have hres := P.res
          have r0 := blk_cell hres 0
          have q0 := blk_free hres 0
          have r1 := blk_cell hres 1
          have q1 := blk_free hres 1
          have r2 := blk_cell hres 2
          have q2 := blk_free hres 2
          have r3 := blk_cell hres 3
          have q3 := blk_free hres 3
          have r4 := blk_cell hres 4
          have q4 := blk_free hres 4
          have r5 := blk_cell hres 5
          have q5 := blk_free hres 5
          have r6 := blk_cell hres 6
          have q6 := blk_free hres 6
          have r7 := blk_cell hres 7
          have q7 := blk_free hres 7
          have r8 := blk_cell hres 8
          have q8 := blk_free hres 8
          have r9 := blk_cell hres 9
          have q9 := blk_free hres 9
          have r10 := blk_cell hres 10
          have q10 := blk_free hres 10
          have r11 := blk_cell hres 11
          have q11 := blk_free hres 11
          have r12 := blk_cell hres 12
          have q12 := blk_free hres 12
          have r13 := blk_cell hres 13
          have q13 := blk_free hres 13
          have hk7 := set14P hres (.string ⟨#[]⟩) (.string ⟨#[]⟩) (.int .u64 0) (.int .u64 0) (.int .u64 0) (.int .u64 0) (.int .u64 0) (.int .u64 0) (.int .u64 0) (.int .u64 0) (.int .u64 0) (.int .u64 0) (.int .u64 0) (.int .u64 0)
          have hb7 := below_set14P hbel hrr (.string ⟨#[]⟩) (.string ⟨#[]⟩) (.int .u64 0) (.int .u64 0) (.int .u64 0) (.int .u64 0) (.int .u64 0) (.int .u64 0) (.int .u64 0) (.int .u64 0) (.int .u64 0) (.int .u64 0) (.int .u64 0) (.int .u64 0)
          have HD := Lib.hid (And.intro (blk_cell hk7 0) (And.intro (blk_cell hk7 1) (And.intro (blk_cell hk7 2) (And.intro (blk_cell hk7 3) (And.intro (blk_cell hk7 4) (And.intro (blk_cell hk7 5) (And.intro (blk_cell hk7 6) (And.intro (blk_cell hk7 7) (And.intro (blk_cell hk7 8) (And.intro (blk_cell hk7 9) (And.intro (blk_cell hk7 10) (And.intro (blk_cell hk7 11) (And.intro (blk_cell hk7 12) (blk_cell hk7 13))))))))))))))
          have HVV := Lib.hid hv
          try rw [← hgr]
          clear hk7 hv hres hgr hgi0 hloc HV0 P HE hrr hbel hog hl0
          go_wp2_with fail
          obtain ⟨d0, d1, d2, d3, d4, d5, d6, d7, d8, d9, d10, d11, d12, d13⟩ := HD.out
          refine bodyPost_ret (v := V) ?_ rfl ⟨rfl, hb7⟩
          rw [HVV.out]
          simp at d0 d1 d2 d3 d4 d5 d6 d7 d8 d9 d10 d11 d12 d13
          simp [results, Tryz.results56, go_sem, d0, d1, d2, d3, d4, d5, d6, d7, d8, d9, d10, d11, d12, d13, pdO, PdV.val, PdV.cells, PdV.none, U4.zero]
end Go.Proofs.YtaafaaoioleokaaGreatDoor
namespace Go.Proofs.YtaafaaoioleokaaGreatDoor
set_option maxRecDepth 100000
open Go Go.RowKit
set_option linter.unusedVariables false

set_option maxHeartbeats 4000000 in
theorem ftotal_any (w : World) (f d : ByteArray) (x y z : U4) (hx : x.ok) (hy : y.ok) (hz : z.ok) :
    Calls Tryz.prog 53 #[.agg #[.string d, .int .u64 (x.a : Int), .int .u64 (x.b : Int), .int .u64 (x.c : Int), .int .u64 (x.d : Int), .int .u64 (y.a : Int), .int .u64 (y.b : Int), .int .u64 (y.c : Int), .int .u64 (y.d : Int), .int .u64 (z.a : Int), .int .u64 (z.b : Int), .int .u64 (z.c : Int), .int .u64 (z.d : Int)]] w fun e w' => e = .returned (.tuple #[(totFee ⟨f, d, x, y, z⟩).1.val, .bool (totFee ⟨f, d, x, y, z⟩).2]) ∧ Below w.heap.size w w' := by
  have HA := Lib.hid (fun Z => add_any x y Z hx hy)
  have HP := addU_ok' x y
  unfold totFee
  dsimp only
  generalize addU x y = S at *
  obtain ⟨s, p⟩ := S
  have HB := Lib.hid (fun Z => add_any s z Z HP hz)
  dsimp only
  generalize addU s z = T at *
  obtain ⟨t, q⟩ := T
  have hbox := heap_alloc_new w (.cells #[.string d, .int .u64 (x.a : Int), .int .u64 (x.b : Int), .int .u64 (x.c : Int), .int .u64 (x.d : Int), .int .u64 (y.a : Int), .int .u64 (y.b : Int), .int .u64 (y.c : Int), .int .u64 (y.d : Int), .int .u64 (z.a : Int), .int .u64 (z.b : Int), .int .u64 (z.c : Int), .int .u64 (z.d : Int)] 34)
  have ha0 : Below w.heap.size w (w.alloc (.cells #[.string d, .int .u64 (x.a : Int), .int .u64 (x.b : Int), .int .u64 (x.c : Int), .int .u64 (x.d : Int), .int .u64 (y.a : Int), .int .u64 (y.b : Int), .int .u64 (y.c : Int), .int .u64 (y.d : Int), .int .u64 (z.a : Int), .int .u64 (z.b : Int), .int .u64 (z.c : Int), .int .u64 (z.d : Int)] 34)) := (Below.refl _ _).alloc (Nat.le_refl _) _
  have hres := heap_alloc_new (w.alloc (.cells #[.string d, .int .u64 (x.a : Int), .int .u64 (x.b : Int), .int .u64 (x.c : Int), .int .u64 (x.d : Int), .int .u64 (y.a : Int), .int .u64 (y.b : Int), .int .u64 (y.c : Int), .int .u64 (y.d : Int), .int .u64 (z.a : Int), .int .u64 (z.b : Int), .int .u64 (z.c : Int), .int .u64 (z.d : Int)] 34)) (.cells #[.int .u64 0, .int .u64 0, .int .u64 0, .int .u64 0] 32)
  have hbx2 := (Below.heap_alloc (w.alloc (.cells #[.string d, .int .u64 (x.a : Int), .int .u64 (x.b : Int), .int .u64 (x.c : Int), .int .u64 (x.d : Int), .int .u64 (y.a : Int), .int .u64 (y.b : Int), .int .u64 (y.c : Int), .int .u64 (y.d : Int), .int .u64 (z.a : Int), .int .u64 (z.b : Int), .int .u64 (z.c : Int), .int .u64 (z.d : Int)] 34)) (.cells #[.int .u64 0, .int .u64 0, .int .u64 0, .int .u64 0] 32) _ (blk_lt hbox)).trans hbox
  have hq0 := ha0.alloc ha0.size (.cells #[.int .u64 0, .int .u64 0, .int .u64 0, .int .u64 0] 32)
  have hgr : (w.alloc (.cells #[.string d, .int .u64 (x.a : Int), .int .u64 (x.b : Int), .int .u64 (x.c : Int), .int .u64 (x.d : Int), .int .u64 (y.a : Int), .int .u64 (y.b : Int), .int .u64 (y.c : Int), .int .u64 (y.d : Int), .int .u64 (z.a : Int), .int .u64 (z.b : Int), .int .u64 (z.c : Int), .int .u64 (z.d : Int)] 34)).heap.size = w.heap.size + 1 := by simp
  rw [hgr] at hres
  have b1 := blk_cell hbx2 1
  have b2 := blk_cell hbx2 2
  have b3 := blk_cell hbx2 3
  have b4 := blk_cell hbx2 4
  have b5 := blk_cell hbx2 5
  have b6 := blk_cell hbx2 6
  have b7 := blk_cell hbx2 7
  have b8 := blk_cell hbx2 8
  have HBX := Lib.hid hbx2
  have HRS := Lib.hid hres
  clear hbox ha0 hgr hx hy hz HP hres hbx2
  unfold U4.val U4.cells at HA HB
  dsimp only at HA HB
  cases p with
  | false =>
    rw [if_neg (by simp)]
    go_enter Tryz.func53, Tryz.ntmps53
    go_wp2_with fail
    generalize (w.alloc (.cells #[.string d, .int .u64 (x.a : Int), .int .u64 (x.b : Int), .int .u64 (x.c : Int), .int .u64 (x.d : Int), .int .u64 (y.a : Int), .int .u64 (y.b : Int), .int .u64 (y.c : Int), .int .u64 (y.d : Int), .int .u64 (z.a : Int), .int .u64 (z.b : Int), .int .u64 (z.c : Int), .int .u64 (z.d : Int)] 34)).alloc (.cells #[.int .u64 0, .int .u64 0, .int .u64 0, .int .u64 0] 32) = w0 at *
    refine (HA.out _).mono ?_
    rintro e w1 ⟨rfl, hb1⟩
    have hq1 := below_chain hq0 hq0.size hb1
    have hbx1 := (hb1.block _ (blk_lt HBX.out)).trans HBX.out
    have hrs1 := (hb1.block _ (blk_lt HRS.out)).trans HRS.out
    have hu := heap_alloc_new w1 (.cells #[.int .u64 (s.a : Int), .int .u64 (s.b : Int), .int .u64 (s.c : Int), .int .u64 (s.d : Int)] 32)
    have hau : Below w1.heap.size w1 (w1.alloc (.cells #[.int .u64 (s.a : Int), .int .u64 (s.b : Int), .int .u64 (s.c : Int), .int .u64 (s.d : Int)] 32)) := (Below.refl _ _).alloc (Nat.le_refl _) _
    have hq2 := below_chain hq1 hq1.size hau
    have u0 := blk_cell hu 0
    have u1 := blk_cell hu 1
    have u2 := blk_cell hu 2
    have u3 := blk_cell hu 3
    have hbx3 := (hau.block _ (blk_lt hbx1)).trans hbx1
    have hrs3 := (hau.block _ (blk_lt hrs1)).trans hrs1
    clear b1 b2 b3 b4 b5 b6 b7 b8 HBX HRS hb1 HA hq0 hbx1 hrs1
    clear hau hu hq1 HB hbx3
    have hres7 := hrs3
    have r0 := blk_cell hres7 0
    have q0 := blk_free hres7 0
    have r1 := blk_cell hres7 1
    have q1 := blk_free hres7 1
    have r2 := blk_cell hres7 2
    have q2 := blk_free hres7 2
    have r3 := blk_cell hres7 3
    have q3 := blk_free hres7 3
    have hk7 := set4P hres7 (.int .u64 0) (.int .u64 0) (.int .u64 0) (.int .u64 0)
    have hb7 := below_set4P hq2 (Nat.le_add_right w.heap.size 1) (.int .u64 0) (.int .u64 0) (.int .u64 0) (.int .u64 0)
    have HD := Lib.hid (And.intro (blk_cell hk7 0) (And.intro (blk_cell hk7 1) (And.intro (blk_cell hk7 2) (blk_cell hk7 3))))
    clear hk7 hres7
    go_wp2_with fail
    obtain ⟨d0, d1, d2, d3⟩ := HD.out
    refine bodyPost_ret ?_ rfl ⟨rfl, hb7⟩
    simp at d0 d1 d2 d3
    simp [results, Tryz.results53, go_sem, d0, d1, d2, d3, U4.val, U4.cells, U4.zero]
  | true =>
    rw [if_pos rfl]
    go_enter Tryz.func53, Tryz.ntmps53
    go_wp2_with fail
    generalize (w.alloc (.cells #[.string d, .int .u64 (x.a : Int), .int .u64 (x.b : Int), .int .u64 (x.c : Int), .int .u64 (x.d : Int), .int .u64 (y.a : Int), .int .u64 (y.b : Int), .int .u64 (y.c : Int), .int .u64 (y.d : Int), .int .u64 (z.a : Int), .int .u64 (z.b : Int), .int .u64 (z.c : Int), .int .u64 (z.d : Int)] 34)).alloc (.cells #[.int .u64 0, .int .u64 0, .int .u64 0, .int .u64 0] 32) = w0 at *
    refine (HA.out _).mono ?_
    rintro e w1 ⟨rfl, hb1⟩
    have hq1 := below_chain hq0 hq0.size hb1
    have hbx1 := (hb1.block _ (blk_lt HBX.out)).trans HBX.out
    have hrs1 := (hb1.block _ (blk_lt HRS.out)).trans HRS.out
    have hu := heap_alloc_new w1 (.cells #[.int .u64 (s.a : Int), .int .u64 (s.b : Int), .int .u64 (s.c : Int), .int .u64 (s.d : Int)] 32)
    have hau : Below w1.heap.size w1 (w1.alloc (.cells #[.int .u64 (s.a : Int), .int .u64 (s.b : Int), .int .u64 (s.c : Int), .int .u64 (s.d : Int)] 32)) := (Below.refl _ _).alloc (Nat.le_refl _) _
    have hq2 := below_chain hq1 hq1.size hau
    have u0 := blk_cell hu 0
    have u1 := blk_cell hu 1
    have u2 := blk_cell hu 2
    have u3 := blk_cell hu 3
    have hbx3 := (hau.block _ (blk_lt hbx1)).trans hbx1
    have hrs3 := (hau.block _ (blk_lt hrs1)).trans hrs1
    clear b1 b2 b3 b4 b5 b6 b7 b8 HBX HRS hb1 HA hq0 hbx1 hrs1
    have c9 := blk_cell hbx3 9
    have c10 := blk_cell hbx3 10
    have c11 := blk_cell hbx3 11
    have c12 := blk_cell hbx3 12
    have HRS := Lib.hid hrs3
    clear hau hu hbx3 hrs3
    go_wp2_with fail
    refine (HB.out _).mono ?_
    rintro e w5 ⟨rfl, hb5⟩
    have hq5 := below_chain hq2 hq2.size hb5
    have hrs5 := (hb5.block _ (blk_lt HRS.out)).trans HRS.out
    clear c9 c10 c11 c12 u0 u1 u2 u3 HB HRS hb5 hq2 hq1
    cases q <;>
      (skip
       have hres7 := hrs5
       have r0 := blk_cell hres7 0
       have q0 := blk_free hres7 0
       have r1 := blk_cell hres7 1
       have q1 := blk_free hres7 1
       have r2 := blk_cell hres7 2
       have q2 := blk_free hres7 2
       have r3 := blk_cell hres7 3
       have q3 := blk_free hres7 3
       have hk7 := set4P hres7 (.int .u64 (t.a : Int)) (.int .u64 (t.b : Int)) (.int .u64 (t.c : Int)) (.int .u64 (t.d : Int))
       have hb7 := below_set4P hq5 (Nat.le_add_right w.heap.size 1) (.int .u64 (t.a : Int)) (.int .u64 (t.b : Int)) (.int .u64 (t.c : Int)) (.int .u64 (t.d : Int))
       have HD := Lib.hid (And.intro (blk_cell hk7 0) (And.intro (blk_cell hk7 1) (And.intro (blk_cell hk7 2) (blk_cell hk7 3))))
       clear hk7 hres7
       go_wp2_with fail
       obtain ⟨d0, d1, d2, d3⟩ := HD.out
       refine bodyPost_ret ?_ rfl ⟨rfl, hb7⟩
       simp at d0 d1 d2 d3
       simp [results, Tryz.results53, go_sem, d0, d1, d2, d3, U4.val, U4.cells, U4.zero])
/-- a row of three gifts -/
def GfAt (W : World) (v : Value) (l : List (ByteArray × U4)) : Prop := ∃ g c, v = .slice (some ⟨g, 0, none⟩) l.length c ∧ g < W.heap.size ∧ ∀ (j : Nat) (h : j < l.length) (i : Nat) (u : Value), (#[.string l[j].1, .int .u64 (l[j].2.a : Int), .int .u64 (l[j].2.b : Int), .int .u64 (l[j].2.c : Int), .int .u64 (l[j].2.d : Int)] : Array Value)[i]? = some u → W.cell? ⟨g, j * 5 + i, none⟩ = some u
theorem GfAt.up {W W' : World} {v : Value} {l : List (ByteArray × U4)} (h : GfAt W v l) (hb : Below W.heap.size W W') : GfAt W' v l := by
  obtain ⟨g, c, hv, hg, hc⟩ := h
  exact ⟨g, c, hv, Nat.lt_of_lt_of_le hg hb.size, fun j hj i u hu => (hb.cell (p := ⟨g, j * 5 + i, none⟩) hg).trans (hc j hj i u hu)⟩
theorem GfAt.of3 {W : World} {g c : Nat} {a1 a2 a3 : ByteArray} {x1 x2 x3 : U4} {t : TypeId} (h : W.heap[g]? = some (.cells #[.string a1, .int .u64 (x1.a : Int), .int .u64 (x1.b : Int), .int .u64 (x1.c : Int), .int .u64 (x1.d : Int), .string a2, .int .u64 (x2.a : Int), .int .u64 (x2.b : Int), .int .u64 (x2.c : Int), .int .u64 (x2.d : Int), .string a3, .int .u64 (x3.a : Int), .int .u64 (x3.b : Int), .int .u64 (x3.c : Int), .int .u64 (x3.d : Int)] t (0, 0))) :
    GfAt W (.slice (some ⟨g, 0, none⟩) 3 c) [(a1, x1), (a2, x2), (a3, x3)] := by
  refine ⟨g, c, rfl, blk_lt h, fun j hj i u hu => ?_⟩
  have hi : i < 5 := by
    have := (Array.getElem?_eq_some_iff.1 hu).1
    simpa using this
  rw [blk_cell h (j * 5 + i), ← hu]
  match j, hj with
  | 0, _ => match i, hi with
    | 0, _ => rfl
    | 1, _ => rfl
    | 2, _ => rfl
    | 3, _ => rfl
    | 4, _ => rfl
  | 1, _ => match i, hi with
    | 0, _ => rfl
    | 1, _ => rfl
    | 2, _ => rfl
    | 3, _ => rfl
    | 4, _ => rfl
  | 2, _ => match i, hi with
    | 0, _ => rfl
    | 1, _ => rfl
    | 2, _ => rfl
    | 3, _ => rfl
    | 4, _ => rfl
set_option maxHeartbeats 4000000 in
theorem fgifts_late (w : World) (fr dn f b : ByteArray) (x y z : U4) :
    Calls Tryz.prog 58 #[.agg #[.string fr, .string dn, .int .u64 (x.a : Int), .int .u64 (x.b : Int), .int .u64 (x.c : Int), .int .u64 (x.d : Int), .int .u64 (y.a : Int), .int .u64 (y.b : Int), .int .u64 (y.c : Int), .int .u64 (y.d : Int), .int .u64 (z.a : Int), .int .u64 (z.b : Int), .int .u64 (z.c : Int), .int .u64 (z.d : Int)], .string f, .string b, .bool true] w fun e w' => ∃ v, e = .returned v ∧ GfAt w' v (giftsM ⟨fr, dn, x, y, z⟩ f b true) ∧ Below w.heap.size w w' := by
  have hbox := heap_alloc_new w (.cells #[.string fr, .string dn, .int .u64 (x.a : Int), .int .u64 (x.b : Int), .int .u64 (x.c : Int), .int .u64 (x.d : Int), .int .u64 (y.a : Int), .int .u64 (y.b : Int), .int .u64 (y.c : Int), .int .u64 (y.d : Int), .int .u64 (z.a : Int), .int .u64 (z.b : Int), .int .u64 (z.c : Int), .int .u64 (z.d : Int)] 103)
  have ha0 : Below w.heap.size w (w.alloc (.cells #[.string fr, .string dn, .int .u64 (x.a : Int), .int .u64 (x.b : Int), .int .u64 (x.c : Int), .int .u64 (x.d : Int), .int .u64 (y.a : Int), .int .u64 (y.b : Int), .int .u64 (y.c : Int), .int .u64 (y.d : Int), .int .u64 (z.a : Int), .int .u64 (z.b : Int), .int .u64 (z.c : Int), .int .u64 (z.d : Int)] 103)) := (Below.refl _ _).alloc (Nat.le_refl _) _
  have b0 := blk_cell hbox 0
  have b1 := blk_cell hbox 1
  have b2 := blk_cell hbox 2
  have b3 := blk_cell hbox 3
  have b4 := blk_cell hbox 4
  have b5 := blk_cell hbox 5
  have b6 := blk_cell hbox 6
  have b7 := blk_cell hbox 7
  have b8 := blk_cell hbox 8
  have b9 := blk_cell hbox 9
  have b10 := blk_cell hbox 10
  have b11 := blk_cell hbox 11
  have b12 := blk_cell hbox 12
  have b13 := blk_cell hbox 13
  have hrow := heap_alloc_new (w.alloc (.cells #[.string fr, .string dn, .int .u64 (x.a : Int), .int .u64 (x.b : Int), .int .u64 (x.c : Int), .int .u64 (x.d : Int), .int .u64 (y.a : Int), .int .u64 (y.b : Int), .int .u64 (y.c : Int), .int .u64 (y.d : Int), .int .u64 (z.a : Int), .int .u64 (z.b : Int), .int .u64 (z.c : Int), .int .u64 (z.d : Int)] 103)) (.cells #[.string fr, .int .u64 (x.a : Int), .int .u64 (x.b : Int), .int .u64 (x.c : Int), .int .u64 (x.d : Int), .string fr, .int .u64 (y.a : Int), .int .u64 (y.b : Int), .int .u64 (y.c : Int), .int .u64 (y.d : Int), .string b, .int .u64 (z.a : Int), .int .u64 (z.b : Int), .int .u64 (z.c : Int), .int .u64 (z.d : Int)] 110)
  have hq := ha0.alloc ha0.size (.cells #[.string fr, .int .u64 (x.a : Int), .int .u64 (x.b : Int), .int .u64 (x.c : Int), .int .u64 (x.d : Int), .string fr, .int .u64 (y.a : Int), .int .u64 (y.b : Int), .int .u64 (y.c : Int), .int .u64 (y.d : Int), .string b, .int .u64 (z.a : Int), .int .u64 (z.b : Int), .int .u64 (z.c : Int), .int .u64 (z.d : Int)] 110)
  have hgr : (w.alloc (.cells #[.string fr, .string dn, .int .u64 (x.a : Int), .int .u64 (x.b : Int), .int .u64 (x.c : Int), .int .u64 (x.d : Int), .int .u64 (y.a : Int), .int .u64 (y.b : Int), .int .u64 (y.c : Int), .int .u64 (y.d : Int), .int .u64 (z.a : Int), .int .u64 (z.b : Int), .int .u64 (z.c : Int), .int .u64 (z.d : Int)] 103)).heap.size = w.heap.size + 1 := by simp
  rw [hgr] at hrow
  have HG := Lib.hid (GfAt.of3 (c := 3) hrow)
  have HQ := Lib.hid hq
  clear hbox ha0 hrow hq hgr
  go_enter Tryz.func58, Tryz.ntmps58
  go_wp2_with fail
  go_ret
  exact ⟨_, rfl, HG.out, HQ.out⟩
set_option maxHeartbeats 4000000 in
theorem fgifts_soon (w : World) (fr dn f b : ByteArray) (x y z : U4) :
    Calls Tryz.prog 58 #[.agg #[.string fr, .string dn, .int .u64 (x.a : Int), .int .u64 (x.b : Int), .int .u64 (x.c : Int), .int .u64 (x.d : Int), .int .u64 (y.a : Int), .int .u64 (y.b : Int), .int .u64 (y.c : Int), .int .u64 (y.d : Int), .int .u64 (z.a : Int), .int .u64 (z.b : Int), .int .u64 (z.c : Int), .int .u64 (z.d : Int)], .string f, .string b, .bool false] w fun e w' => ∃ v, e = .returned v ∧ GfAt w' v (giftsM ⟨fr, dn, x, y, z⟩ f b false) ∧ Below w.heap.size w w' := by
  have hbox := heap_alloc_new w (.cells #[.string fr, .string dn, .int .u64 (x.a : Int), .int .u64 (x.b : Int), .int .u64 (x.c : Int), .int .u64 (x.d : Int), .int .u64 (y.a : Int), .int .u64 (y.b : Int), .int .u64 (y.c : Int), .int .u64 (y.d : Int), .int .u64 (z.a : Int), .int .u64 (z.b : Int), .int .u64 (z.c : Int), .int .u64 (z.d : Int)] 103)
  have ha0 : Below w.heap.size w (w.alloc (.cells #[.string fr, .string dn, .int .u64 (x.a : Int), .int .u64 (x.b : Int), .int .u64 (x.c : Int), .int .u64 (x.d : Int), .int .u64 (y.a : Int), .int .u64 (y.b : Int), .int .u64 (y.c : Int), .int .u64 (y.d : Int), .int .u64 (z.a : Int), .int .u64 (z.b : Int), .int .u64 (z.c : Int), .int .u64 (z.d : Int)] 103)) := (Below.refl _ _).alloc (Nat.le_refl _) _
  have b0 := blk_cell hbox 0
  have b1 := blk_cell hbox 1
  have b2 := blk_cell hbox 2
  have b3 := blk_cell hbox 3
  have b4 := blk_cell hbox 4
  have b5 := blk_cell hbox 5
  have b6 := blk_cell hbox 6
  have b7 := blk_cell hbox 7
  have b8 := blk_cell hbox 8
  have b9 := blk_cell hbox 9
  have b10 := blk_cell hbox 10
  have b11 := blk_cell hbox 11
  have b12 := blk_cell hbox 12
  have b13 := blk_cell hbox 13
  have hrow := heap_alloc_new (w.alloc (.cells #[.string fr, .string dn, .int .u64 (x.a : Int), .int .u64 (x.b : Int), .int .u64 (x.c : Int), .int .u64 (x.d : Int), .int .u64 (y.a : Int), .int .u64 (y.b : Int), .int .u64 (y.c : Int), .int .u64 (y.d : Int), .int .u64 (z.a : Int), .int .u64 (z.b : Int), .int .u64 (z.c : Int), .int .u64 (z.d : Int)] 103)) (.cells #[.string f, .int .u64 (x.a : Int), .int .u64 (x.b : Int), .int .u64 (x.c : Int), .int .u64 (x.d : Int), .string b, .int .u64 (y.a : Int), .int .u64 (y.b : Int), .int .u64 (y.c : Int), .int .u64 (y.d : Int), .string fr, .int .u64 (z.a : Int), .int .u64 (z.b : Int), .int .u64 (z.c : Int), .int .u64 (z.d : Int)] 110)
  have hq := ha0.alloc ha0.size (.cells #[.string f, .int .u64 (x.a : Int), .int .u64 (x.b : Int), .int .u64 (x.c : Int), .int .u64 (x.d : Int), .string b, .int .u64 (y.a : Int), .int .u64 (y.b : Int), .int .u64 (y.c : Int), .int .u64 (y.d : Int), .string fr, .int .u64 (z.a : Int), .int .u64 (z.b : Int), .int .u64 (z.c : Int), .int .u64 (z.d : Int)] 110)
  have hgr : (w.alloc (.cells #[.string fr, .string dn, .int .u64 (x.a : Int), .int .u64 (x.b : Int), .int .u64 (x.c : Int), .int .u64 (x.d : Int), .int .u64 (y.a : Int), .int .u64 (y.b : Int), .int .u64 (y.c : Int), .int .u64 (y.d : Int), .int .u64 (z.a : Int), .int .u64 (z.b : Int), .int .u64 (z.c : Int), .int .u64 (z.d : Int)] 103)).heap.size = w.heap.size + 1 := by simp
  rw [hgr] at hrow
  have HG := Lib.hid (GfAt.of3 (c := 3) hrow)
  have HQ := Lib.hid hq
  clear hbox ha0 hrow hq hgr
  go_enter Tryz.func58, Tryz.ntmps58
  go_wp2_with fail
  go_ret
  exact ⟨_, rfl, HG.out, HQ.out⟩
theorem fgifts_any (w : World) (v : PdV) (f b : ByteArray) (late : Bool) :
    Calls Tryz.prog 58 #[v.val, .string f, .string b, .bool late] w fun e w' => ∃ u, e = .returned u ∧ GfAt w' u (giftsM v f b late) ∧ Below w.heap.size w w' := by
  obtain ⟨fr, dn, x, y, z⟩ := v
  cases late with
  | false => exact fgifts_soon w fr dn f b x y z
  | true => exact fgifts_late w fr dn f b x y z
end Go.Proofs.YtaafaaoioleokaaGreatDoor
namespace Go.Proofs.YtaafaaoioleokaaGreatDoor
set_option maxRecDepth 100000
open Go Go.RowKit
set_option linter.unusedVariables false

theorem send_right {R : List Pr} {a b d : ByteArray} {x : U4} (h : (sendM R a b d x).1 = 0) : identB a = true ∧ denomB d = true ∧ eqB x U4.zero = false := by
  apply rightM_zero
  unfold sendM at h
  split at h
  · assumption
  · exact h
theorem denomB_size {d : ByteArray} (h : denomB d = true) : d.size ≤ 160 := by
  unfold denomB denomL at h
  simp only [Bool.and_eq_true, decide_eq_true_eq] at h
  simpa using h.1
theorem identB_size {a : ByteArray} (h : identB a = true) : a.size ≤ 32 := by simpa using (identL_len2 h).2
set_option maxHeartbeats 8000000 in
theorem fahead_any {W w : World} {y : Lyr} {l : List Lyr} {R : List Pr} {k : Nat} (h : At W y l R k w) (hn : y.n + k + 3 ≤ maxLen) (fr id : ByteArray) (n : Nat) (hn64 : n < 18446744073709551616) (d : ByteArray) (x y2 z : U4) (hx : x.ok) (hy : y2.ok) (hz : z.ok) (hfr : fr.size ≤ 100000000) (hid : id.size ≤ 100000000) (hd : d.size ≤ 100000000) :
    Calls Tryz.prog 11 #[.pointer (some ⟨y.b, 0, none⟩), .string fr, .string id, .int .u64 (n : Int), .agg #[.string d, .int .u64 (x.a : Int), .int .u64 (x.b : Int), .int .u64 (x.c : Int), .int .u64 (x.d : Int), .int .u64 (y2.a : Int), .int .u64 (y2.b : Int), .int .u64 (y2.c : Int), .int .u64 (y2.d : Int), .int .u64 (z.a : Int), .int .u64 (z.b : Int), .int .u64 (z.c : Int), .int .u64 (z.d : Int)]] w fun e w' => e = .returned (.int .i64 (aheadM R id n ⟨fr, d, x, y2, z⟩).1) ∧ At W y l (aheadM R id n ⟨fr, d, x, y2, z⟩).2 (k + 3) w' ∧ Kept w w' := by
  have H40 : Hid (identB id = false → aheadM R id n ⟨fr, d, x, y2, z⟩ = (40, R)) := Lib.hid fun h => by unfold aheadM; rw [if_neg (by simp [h])]
  have H130 : Hid (identB id = true → (getL R (kPl wCommit id n)).isSome = false → aheadM R id n ⟨fr, d, x, y2, z⟩ = (130, R)) := Lib.hid fun h h2 => by unfold aheadM; rw [if_pos h, if_neg (by simp [h2])]
  have H150 : Hid (identB id = true → (getL R (kPl wCommit id n)).isSome = true → (getL R (kFee id n)).isSome = true → aheadM R id n ⟨fr, d, x, y2, z⟩ = (150, R)) := Lib.hid fun h h2 h3 => by unfold aheadM; rw [if_pos h, if_pos h2, if_pos h3]
  have H10 : Hid (identB id = true → (getL R (kPl wCommit id n)).isSome = true → (getL R (kFee id n)).isSome = false → (totFee ⟨fr, d, x, y2, z⟩).2 = false → aheadM R id n ⟨fr, d, x, y2, z⟩ = (10, R)) := Lib.hid fun h h2 h3 h4 => by unfold aheadM; rw [if_pos h, if_pos h2, if_neg (by simp [h3]), if_neg (by simp [h4])]
  have HNO : Hid (identB id = true → (getL R (kPl wCommit id n)).isSome = true → (getL R (kFee id n)).isSome = false → (totFee ⟨fr, d, x, y2, z⟩).2 = true → (sendM R fr poolS d (totFee ⟨fr, d, x, y2, z⟩).1).1 ≠ 0 → aheadM R id n ⟨fr, d, x, y2, z⟩ = ((sendM R fr poolS d (totFee ⟨fr, d, x, y2, z⟩).1).1, R) ∧ (sendM R fr poolS d (totFee ⟨fr, d, x, y2, z⟩).1).2 = R) := Lib.hid fun h h2 h3 h4 h5 => by unfold aheadM; rw [if_pos h, if_pos h2, if_neg (by simp [h3]), if_pos h4, if_neg h5]; exact ⟨rfl, send_no h5⟩
  have HOK : Hid (identB id = true → (getL R (kPl wCommit id n)).isSome = true → (getL R (kFee id n)).isSome = false → (totFee ⟨fr, d, x, y2, z⟩).2 = true → (sendM R fr poolS d (totFee ⟨fr, d, x, y2, z⟩).1).1 = 0 → aheadM R id n ⟨fr, d, x, y2, z⟩ = (0, putL (kFee id n, some (pdB ⟨fr, d, x, y2, z⟩)) (sendM R fr poolS d (totFee ⟨fr, d, x, y2, z⟩).1).2) ∧ fr.size ≤ 1000 ∧ d.size ≤ 1000) := Lib.hid fun h h2 h3 h4 h5 => by
    unfold aheadM; rw [if_pos h, if_pos h2, if_neg (by simp [h3]), if_pos h4, if_pos h5]
    obtain ⟨q1, q2, -⟩ := send_right h5
    have := identB_size q1
    have := denomB_size q2
    exact ⟨rfl, by omega, by omega⟩
  have HI : Hid (∀ Z : World, Calls Tryz.prog 50 #[.string id] Z fun e w' => e = .returned (.bool (identB id)) ∧ Z = w') := Lib.hid fun Z => ident_any id Z (by unfold maxLen; omega)
  have hkp : (kPl wCommit id n).size ≤ maxLen := by
    unfold kPl
    simp only [ByteArray.size_append]
    rw [show ibcS.size = 4 from rfl, show wCommit.size = 6 from rfl, show slB.size = 1 from rfl, hexN_size]
    unfold maxLen; omega
  have HKC := Lib.hid (fun Z : World => pCommit_any id n Z hn64 hid)
  have HKF := Lib.hid (fun Z : World => fkey_any id n Z hn64 hid)
  have HG1 := Lib.hid (fun (Z : World) (hz : Below w.heap.size w Z) => (h.up hz).get (kPl wCommit id n) hkp)
  have HG2 := Lib.hid (fun (Z : World) (hz : Below w.heap.size w Z) => (h.up hz).get (kFee id n) (by rw [kFee_size]; unfold maxLen; omega))
  have HT := Lib.hid (fun Z : World => ftotal_any Z fr d x y2 z hx hy hz)
  have HS := Lib.hid (fun (Z : World) (hz : Below w.heap.size w Z) => (h.up hz).send (by omega) fr poolS d (totFee ⟨fr, d, x, y2, z⟩).1 (totFee_ok _) hfr (by decide +kernel) hd)
  have hzz := hz
  have HP : Hid (∀ (Z : World) (R' : List Pr), At W y l R' (k + 2) Z → identB id = true → fr.size ≤ 1000 → d.size ≤ 1000 → _) := Lib.hid fun Z R' hz h1 h2 h3 => fput_any hz (by omega) id h1 n hn64 ⟨fr, d, x, y2, z⟩ ⟨hx, hy, hzz, by show fr.size ≤ _; omega, by show d.size ≤ _; omega⟩ h2 h3
  have HAT := Lib.hid (fun (Z : World) (hz : Below w.heap.size w Z) => (h.up hz).more (show k ≤ k + 3 by omega))
  have HAM := Lib.hid (fun (Z : World) (R' : List Pr) (hz : At W y l R' (k + 2) Z) => hz.more (show k + 2 ≤ k + 3 by omega))
  have HKB := Lib.hid (fun (Z : World) (hz : Below w.heap.size w Z) => Kept.of_belowX hz)
  generalize aheadM R id n ⟨fr, d, x, y2, z⟩ = AM at *
  generalize pdB ⟨fr, d, x, y2, z⟩ = PDB at *
  generalize (totFee ⟨fr, d, x, y2, z⟩).1 = T at *
  generalize (totFee ⟨fr, d, x, y2, z⟩).2 = tb at *
  generalize sendM R fr poolS d T = SM at *
  generalize kPl wCommit id n = KC at *
  generalize kFee id n = KF at *
  generalize (getL R KC).getD [] = LC at *
  generalize (getL R KF).getD [] = LF at *
  generalize (getL R KC).isSome = bc at *
  generalize (getL R KF).isSome = bf at *
  generalize identB id = bi at *
  have hbox := heap_alloc_new w (.cells #[.string d, .int .u64 (x.a : Int), .int .u64 (x.b : Int), .int .u64 (x.c : Int), .int .u64 (x.d : Int), .int .u64 (y2.a : Int), .int .u64 (y2.b : Int), .int .u64 (y2.c : Int), .int .u64 (y2.d : Int), .int .u64 (z.a : Int), .int .u64 (z.b : Int), .int .u64 (z.c : Int), .int .u64 (z.d : Int)] 34)
  have ha0 : Below w.heap.size w (w.alloc (.cells #[.string d, .int .u64 (x.a : Int), .int .u64 (x.b : Int), .int .u64 (x.c : Int), .int .u64 (x.d : Int), .int .u64 (y2.a : Int), .int .u64 (y2.b : Int), .int .u64 (y2.c : Int), .int .u64 (y2.d : Int), .int .u64 (z.a : Int), .int .u64 (z.b : Int), .int .u64 (z.c : Int), .int .u64 (z.d : Int)] 34)) := (Below.refl _ _).alloc (Nat.le_refl _) _
  obtain ⟨yb, hyb⟩ : ∃ yb, yb = y.b := ⟨_, rfl⟩
  rw [← hyb] at HG1 HG2 HS HP ⊢
  clear h hn hn64 hx hy hz hfr hid hd hkp hyb
  unfold U4.val U4.cells at HT HS
  unfold PdV.val PdV.cells at HP
  dsimp only at HT HS HP
  unfold poolS at HS
  go_enter Tryz.func11, Tryz.ntmps11
  go_wp2_with fail
  generalize w.alloc (.cells #[.string d, .int .u64 (x.a : Int), .int .u64 (x.b : Int), .int .u64 (x.c : Int), .int .u64 (x.d : Int), .int .u64 (y2.a : Int), .int .u64 (y2.b : Int), .int .u64 (y2.c : Int), .int .u64 (y2.d : Int), .int .u64 (z.a : Int), .int .u64 (z.b : Int), .int .u64 (z.c : Int), .int .u64 (z.d : Int)] 34) = w0 at *
  refine (HI.out _).mono ?_
  rintro e w1 ⟨rfl, rfl⟩
  cases bi with
  | false =>
    go_wp2_with fail
    go_ret
    have e := H40.out (by simp)
    subst e
    exact ⟨rfl, HAT.out _ ha0, HKB.out _ ha0⟩
  | true =>
    clear H40 HI
    go_wp2_with fail
    refine (HKC.out _).mono ?_
    rintro e w2 ⟨rfl, hb2⟩
    have hq2 := below_chain ha0 ha0.size hb2
    have hx2 := (hb2.block _ (blk_lt hbox)).trans hbox
    have HG1' := Lib.hid (HG1.out _ hq2)
    clear HKC ha0 hbox hb2 HG1
    go_wp2_with fail
    refine HG1'.out.mono ?_
    rintro e w3 ⟨v3, rfl, ho3, hb3⟩
    have hq3 := below_chain hq2 hq2.size hb3
    have hx3 := (hb3.block _ (blk_lt hx2)).trans hx2
    obtain ⟨A3, c3, rfl⟩ := ho3.form
    generalize LC.length = nc at *
    clear HG1' hq2 hx2 hb3 ho3
    cases bc with
    | false =>
      go_wp2_with fail
      go_ret
      have e := H130.out (by simp) (by simp)
      subst e
      exact ⟨rfl, HAT.out _ hq3, HKB.out _ hq3⟩
    | true =>
      clear H130
      go_wp2_with fail
      refine (HKF.out _).mono ?_
      rintro e w4 ⟨rfl, hb4⟩
      have hq4 := below_chain hq3 hq3.size hb4
      have hx4 := (hb4.block _ (blk_lt hx3)).trans hx3
      have HG2' := Lib.hid (HG2.out _ hq4)
      clear HKF hq3 hx3 hb4 HG2
      go_wp2_with fail
      refine HG2'.out.mono ?_
      rintro e w5 ⟨v5, rfl, ho5, hb5⟩
      have hq5 := below_chain hq4 hq4.size hb5
      have hx5 := (hb5.block _ (blk_lt hx4)).trans hx4
      obtain ⟨A5, c5, rfl⟩ := ho5.form
      generalize LF.length = nf at *
      clear HG2' hq4 hx4 hb5 ho5
      cases bf with
      | true =>
        go_wp2_with fail
        go_ret
        have e := H150.out (by simp) (by simp) (by simp)
        subst e
        exact ⟨rfl, HAT.out _ hq5, HKB.out _ hq5⟩
      | false =>
        clear H150
        have b0 := blk_cell hx5 0
        have b1 := blk_cell hx5 1
        have b2 := blk_cell hx5 2
        have b3 := blk_cell hx5 3
        have b4 := blk_cell hx5 4
        have b5 := blk_cell hx5 5
        have b6 := blk_cell hx5 6
        have b7 := blk_cell hx5 7
        have b8 := blk_cell hx5 8
        have b9 := blk_cell hx5 9
        have b10 := blk_cell hx5 10
        have b11 := blk_cell hx5 11
        have b12 := blk_cell hx5 12
        go_wp2_with fail
        refine (HT.out _).mono ?_
        rintro e w6 ⟨rfl, hb6⟩
        have hq6 := below_chain hq5 hq5.size hb6
        have hx6 := (hb6.block _ (blk_lt hx5)).trans hx5
        have hu := heap_alloc_new w6 (.cells #[.int .u64 (T.a : Int), .int .u64 (T.b : Int), .int .u64 (T.c : Int), .int .u64 (T.d : Int)] 32)
        have hau : Below w6.heap.size w6 (w6.alloc (.cells #[.int .u64 (T.a : Int), .int .u64 (T.b : Int), .int .u64 (T.c : Int), .int .u64 (T.d : Int)] 32)) := (Below.refl _ _).alloc (Nat.le_refl _) _
        have hq7 := below_chain hq6 hq6.size hau
        have hx7 := (hau.block _ (blk_lt hx6)).trans hx6
        have u0 := blk_cell hu 0
        have u1 := blk_cell hu 1
        have u2 := blk_cell hu 2
        have u3 := blk_cell hu 3
        have e0 := blk_cell hx7 0
        clear b0 b1 b2 b3 b4 b5 b6 b7 b8 b9 b10 b11 b12 HT hb6 hq5 hx5 hq6 hx6
        cases tb with
        | false =>
          clear hu hau hx7
          have HQ7 := Lib.hid hq7
          clear hq7
          go_wp2_with fail
          go_ret
          have e := H10.out (by simp) (by simp) (by simp) (by simp)
          subst e
          exact ⟨rfl, HAT.out _ HQ7.out, HKB.out _ HQ7.out⟩
        | true =>
          clear H10
          have HX7 := Lib.hid hx7
          have HS7 := Lib.hid (HS.out _ hq7)
          have HQ7 := Lib.hid hq7
          clear hu hau hq7 hx7 HS
          go_wp2_with fail
          refine HS7.out.mono ?_
          rintro e w8 ⟨rfl, A8, hk8⟩
          have hkk := (HKB.out _ HQ7.out).transX hk8
          have hx8 := hk8.blockX HX7.out
          obtain ⟨se, SR⟩ := SM
          dsimp only at A8 HNO HOK ⊢
          clear u0 u1 u2 u3 e0 HS7 HX7 HQ7 hk8
          by_cases hse : se = 0
          · subst hse
            obtain ⟨e, s1, s2⟩ := HOK.out (by simp) (by simp) (by simp) (by simp) (by simp)
            subst e
            have HP8 := Lib.hid (HP.out _ _ A8 (by simp) s1 s2)
            have b0 := blk_cell hx8 0
            have b1 := blk_cell hx8 1
            have b2 := blk_cell hx8 2
            have b3 := blk_cell hx8 3
            have b4 := blk_cell hx8 4
            have b5 := blk_cell hx8 5
            have b6 := blk_cell hx8 6
            have b7 := blk_cell hx8 7
            have b8 := blk_cell hx8 8
            have b9 := blk_cell hx8 9
            have b10 := blk_cell hx8 10
            have b11 := blk_cell hx8 11
            have b12 := blk_cell hx8 12
            clear HP hx8 A8 HNO HOK s1 s2
            go_wp2_with fail
            refine HP8.out.mono ?_
            rintro e w9 ⟨rfl, A9, hk9⟩
            have hkf := hkk.transX hk9
            go_wp2_with fail
            go_ret
            exact ⟨rfl, A9, hkf⟩
          · have hne : (se != 0) = true := by simpa using hse
            obtain ⟨e, s1⟩ := HNO.out (by simp) (by simp) (by simp) (by simp) hse
            subst e
            subst s1
            have A9 := HAM.out _ _ A8
            clear HP hx8 A8 HNO HOK
            go_wp2_with fail
            go_ret
            exact ⟨rfl, A9, hkk⟩
end Go.Proofs.YtaafaaoioleokaaGreatDoor
namespace Go.Proofs.YtaafaaoioleokaaGreatDoor
set_option maxRecDepth 100000
open Go Go.RowKit
set_option linter.unusedVariables false

theorem gifts_ok {v : PdV} (hv : v.ok) {fw by_ : ByteArray} (late : Bool) (h1 : fw.size ≤ 100000000) (h2 : by_.size ≤ 100000000) : ∀ g ∈ giftsM v fw by_ late, g.1.size ≤ 100000000 ∧ g.2.ok := by
  obtain ⟨o1, o2, o3, o4, o5⟩ := hv
  unfold giftsM
  intro g hg
  split at hg <;> simp only [List.mem_cons, List.not_mem_nil, or_false] at hg <;> rcases hg with rfl | rfl | rfl <;> first | exact ⟨h1, by assumption⟩ | exact ⟨h2, by assumption⟩ | exact ⟨by show v.fr.size ≤ _; omega, by assumption⟩
theorem gifts_len (v : PdV) (fw by_ : ByteArray) (late : Bool) : (giftsM v fw by_ late).length = 3 := by
  unfold giftsM; split <;> rfl
theorem gives_next {v : PdV} {gl : List (ByteArray × U4)} {j : Nat} (hj : j < gl.length) {R : List Pr} : givesM v (gl.drop j) R = if (giveM R v gl[j].1 gl[j].2).1 = 0 then givesM v (gl.drop (j + 1)) (giveM R v gl[j].1 gl[j].2).2 else giveM R v gl[j].1 gl[j].2 := by
  rw [List.drop_eq_getElem_cons hj]
  rfl
theorem GfAt.keptX {W W' : World} {v : Value} {l : List (ByteArray × U4)} (h : GfAt W v l) (hk : Kept W W') : GfAt W' v l := by
  obtain ⟨g, c, hv, hg, hc⟩ := h
  refine ⟨g, c, hv, ?_, fun j hj i u hu => hk.cell (hc j hj i u hu)⟩
  obtain ⟨F, h1, _⟩ := hk
  exact Nat.lt_of_lt_of_le hg h1.size
structure FSR (W : World) (y : Lyr) (l : List Lyr) (R : List Pr) (k : Nat) (z : Lyr) (v : PdV) (gl : List (ByteArray × U4)) (w5 : World) (j : Nat) (Z : World) : Prop where
  ex : ∃ R2 jj, jj ≤ 2 * j ∧ Bra W y l R k z R2 jj Z ∧ givesM v gl R = givesM v (gl.drop j) R2 ∧ Kept w5 Z
set_option maxHeartbeats 16000000 in
theorem fsettle_any {W w : World} {y : Lyr} {l : List Lyr} {R : List Pr} {k : Nat} (h : At W y l R k w) (hn : y.n + k + 8 ≤ maxLen) (src dst : ByteArray) (seq : Nat) (hseq : seq < 18446744073709551616) (Ad : Option Addr) (nd cd : Nat) (ht tm : Nat) (fw by_ : ByteArray) (late : Bool) (hsrc : src.size ≤ 100000000) (hfw : fw.size ≤ 100000000) (hby : by_.size ≤ 100000000) :
    Calls Tryz.prog 12 #[.pointer (some ⟨y.b, 0, none⟩), .agg #[.string src, .string dst, .int .u64 (seq : Int), .slice Ad nd cd, .int .u64 (ht : Int), .int .u64 (tm : Int)], .string fw, .string by_, .bool late] w fun e w' => e = .returned (.int .i64 (settleM R src seq fw by_ late).1) ∧ At W y l (settleM R src seq fw by_ late).2 (k + 7) w' ∧ Kept w w' := by
  have HAT := Lib.hid (fun (Z : World) (hz : At W y l R k Z) => hz.more (show k ≤ k + 7 by omega))
  have HAM := Lib.hid (fun (Z : World) (R' : List Pr) (j : Nat) (hj : j ≤ 7) (hz : At W y l R' (k + j) Z) => hz.more (show k + j ≤ k + 7 by omega))
  have HK := Lib.hid (fun Z : World => fkey_any src seq Z hseq hsrc)
  have hks : (kFee src seq).size ≤ maxLen := by rw [kFee_size]; unfold maxLen; omega
  have HSZ := Lib.hid (And.intro hn hks)
  have HN : Hid (getPd R src seq = none → settleM R src seq fw by_ late = (0, R)) := Lib.hid fun e => by unfold settleM; rw [e]
  have HE : Hid (∀ v, getPd R src seq = some v → (givesM v (giftsM v fw by_ late) R).1 ≠ 0 → settleM R src seq fw by_ late = ((givesM v (giftsM v fw by_ late) R).1, R)) := Lib.hid fun v e h => by unfold settleM; rw [e]; dsimp only; rw [if_neg h]
  have HY : Hid (∀ v, getPd R src seq = some v → (givesM v (giftsM v fw by_ late) R).1 = 0 → settleM R src seq fw by_ late = (0, putL (kFee src seq, none) (givesM v (giftsM v fw by_ late) R).2)) := Lib.hid fun v e h => by unfold settleM; rw [e]; dsimp only; rw [if_pos h]
  have hbox := heap_alloc_new w (.cells #[.string src, .string dst, .int .u64 (seq : Int), .slice Ad nd cd, .int .u64 (ht : Int), .int .u64 (tm : Int)] 42)
  have ha0 : Below w.heap.size w (w.alloc (.cells #[.string src, .string dst, .int .u64 (seq : Int), .slice Ad nd cd, .int .u64 (ht : Int), .int .u64 (tm : Int)] 42)) := (Below.refl _ _).alloc (Nat.le_refl _) _
  have A0 := h.up ha0
  have hk0 := Kept.of_belowX ha0
  have HG := Lib.hid (fget_any A0 src seq hseq hsrc)
  have HOK : Hid (∀ v, getPd R src seq = some v → v.ok) := Lib.hid fun v e => getPd_ok e
  generalize getPd R src seq = o at *
  generalize settleM R src seq fw by_ late = AM at *
  generalize kFee src seq = KF at *
  have c0 := blk_cell hbox 0
  have c2 := blk_cell hbox 2
  obtain ⟨yb, hyb⟩ : ∃ yb, yb = y.b := ⟨_, rfl⟩
  rw [← hyb] at HG ⊢
  have HYB := Lib.hid hyb
  have HBX := Lib.hid hbox
  have HA0 := Lib.hid A0
  have HK0 := Lib.hid hk0
  clear h hn hseq hsrc hks hyb hbox A0 ha0 hk0
  go_enter Tryz.func12, Tryz.ntmps12
  go_wp2_with fail
  generalize w.alloc (.cells #[.string src, .string dst, .int .u64 (seq : Int), .slice Ad nd cd, .int .u64 (ht : Int), .int .u64 (tm : Int)] 42) = w0 at *
  refine HG.out.mono ?_
  rintro e w1 ⟨rfl, hb1⟩
  have A1 := HA0.out.up hb1
  have hk1 := HK0.out.transX (Kept.of_belowX hb1)
  have hx1 := (hb1.block _ (blk_lt HBX.out)).trans HBX.out
  clear HG HA0 HBX HK0 hb1 c0 c2
  cases o with
  | none =>
    have e := HN.out (by simp)
    subst e
    have hu := heap_alloc_new w1 (.cells #[.string ⟨#[]⟩, .string ⟨#[]⟩, .int .u64 0, .int .u64 0, .int .u64 0, .int .u64 0, .int .u64 0, .int .u64 0, .int .u64 0, .int .u64 0, .int .u64 0, .int .u64 0, .int .u64 0, .int .u64 0] 103)
    have hau : Below w1.heap.size w1 (w1.alloc (.cells #[.string ⟨#[]⟩, .string ⟨#[]⟩, .int .u64 0, .int .u64 0, .int .u64 0, .int .u64 0, .int .u64 0, .int .u64 0, .int .u64 0, .int .u64 0, .int .u64 0, .int .u64 0, .int .u64 0, .int .u64 0] 103)) := (Below.refl _ _).alloc (Nat.le_refl _) _
    have A2 := HAT.out _ (A1.up hau)
    have hk2 := hk1.transX (Kept.of_belowX hau)
    have HF := Lib.hid (And.intro A2 hk2)
    clear A1 A2 hk1 hk2 hu hau hx1
    unfold pdO PdV.none PdV.val PdV.cells U4.zero
    dsimp only
    go_wp2_with fail
    go_ret
    exact ⟨rfl, HF.out.1, HF.out.2⟩
  | some v =>
    have hvo := HOK.out v (by simp)
    replace HE : Hid ((givesM v (giftsM v fw by_ late) R).1 ≠ 0 → AM = ((givesM v (giftsM v fw by_ late) R).1, R)) := Lib.hid (HE.out v (by simp))
    replace HY : Hid ((givesM v (giftsM v fw by_ late) R).1 = 0 → AM = (0, putL (KF, none) (givesM v (giftsM v fw by_ late) R).2)) := Lib.hid (HY.out v (by simp))
    have HGO := Lib.hid (gifts_ok hvo late hfw hby)
    have HGL := Lib.hid (gifts_len v fw by_ late)
    have HGI := Lib.hid (fun Z : World => fgifts_any Z v fw by_ late)
    have HVO := Lib.hid hvo
    generalize hgl : giftsM v fw by_ late = gl at *
    have HV1 : Hid (∀ (R2 : List Pr) (to : ByteArray) (x : U4), giveM R2 v to x = if eqB x U4.zero = true then (0, R2) else sendM R2 poolS (if identB to = true then to else v.fr) v.dn x) := Lib.hid fun _ _ _ => rfl
    have HFR := Lib.hid (show v.fr.size ≤ 100000000 ∧ v.dn.size ≤ 100000000 from ⟨by have := hvo.2.2.2.1; omega, by have := hvo.2.2.2.2; omega⟩)
    clear hgl hfw hby HOK HN hvo
    obtain ⟨vv, hvv⟩ : ∃ vv, vv = v := ⟨_, rfl⟩
    rw [← hvv] at HE HY HV1
    have HVV := Lib.hid hvv
    clear hvv HVO
    obtain ⟨fr, dn, x, y2, z2⟩ := v
    unfold pdO PdV.val PdV.cells at *
    dsimp only at HFR HV1 HGI ⊢
    have hvfr : Hid (vv.fr = fr ∧ vv.dn = dn) := Lib.hid (by rw [HVV.out]; exact ⟨rfl, rfl⟩)
    rw [hvfr.out.1, hvfr.out.2] at HV1
    clear hvfr HVV
    have hu := heap_alloc_new w1 (.cells #[.string fr, .string dn, .int .u64 (x.a : Int), .int .u64 (x.b : Int), .int .u64 (x.c : Int), .int .u64 (x.d : Int), .int .u64 (y2.a : Int), .int .u64 (y2.b : Int), .int .u64 (y2.c : Int), .int .u64 (y2.d : Int), .int .u64 (z2.a : Int), .int .u64 (z2.b : Int), .int .u64 (z2.c : Int), .int .u64 (z2.d : Int)] 103)
    have hau : Below w1.heap.size w1 (w1.alloc (.cells #[.string fr, .string dn, .int .u64 (x.a : Int), .int .u64 (x.b : Int), .int .u64 (x.c : Int), .int .u64 (x.d : Int), .int .u64 (y2.a : Int), .int .u64 (y2.b : Int), .int .u64 (y2.c : Int), .int .u64 (y2.d : Int), .int .u64 (z2.a : Int), .int .u64 (z2.b : Int), .int .u64 (z2.c : Int), .int .u64 (z2.d : Int)] 103)) := (Below.refl _ _).alloc (Nat.le_refl _) _
    have A2 := A1.up hau
    have hk2 := hk1.transX (Kept.of_belowX hau)
    have hx2 := (hau.block _ (blk_lt hx1)).trans hx1
    have HBR := Lib.hid A2.branch
    rw [← HYB.out] at HBR
    have HX2 := Lib.hid hx2
    have HU2 := Lib.hid hu
    have HK2 := Lib.hid hk2
    clear A1 A2 hk1 hk2 hx1 hx2 hu hau
    go_wp2_with fail
    generalize w1.alloc (.cells #[.string fr, .string dn, .int .u64 (x.a : Int), .int .u64 (x.b : Int), .int .u64 (x.c : Int), .int .u64 (x.d : Int), .int .u64 (y2.a : Int), .int .u64 (y2.b : Int), .int .u64 (y2.c : Int), .int .u64 (y2.d : Int), .int .u64 (z2.a : Int), .int .u64 (z2.b : Int), .int .u64 (z2.c : Int), .int .u64 (z2.d : Int)] 103) = w2 at *
    generalize w1.heap.size = g11 at *
    refine HBR.out.mono ?_
    rintro e w3 ⟨z, rfl, -, -, B3, hb3⟩
    have hk3 := HK2.out.transX (Kept.of_belowX hb3)
    have hx3 := (hb3.block _ (blk_lt HX2.out)).trans HX2.out
    have hu3 := (hb3.block _ (blk_lt HU2.out)).trans HU2.out
    have b0 := blk_cell hu3 0
    have b1 := blk_cell hu3 1
    have b2 := blk_cell hu3 2
    have b3 := blk_cell hu3 3
    have b4 := blk_cell hu3 4
    have b5 := blk_cell hu3 5
    have b6 := blk_cell hu3 6
    have b7 := blk_cell hu3 7
    have b8 := blk_cell hu3 8
    have b9 := blk_cell hu3 9
    have b10 := blk_cell hu3 10
    have b11 := blk_cell hu3 11
    have b12 := blk_cell hu3 12
    have b13 := blk_cell hu3 13
    have HX3 := Lib.hid hx3
    have HU3 := Lib.hid hu3
    have HK3 := Lib.hid hk3
    have HB3 := Lib.hid B3
    clear HBR HX2 HU2 HK2 hb3 hx3 hu3 hk3 B3
    obtain ⟨zb, hzb⟩ : ∃ zb, zb = z.b := ⟨_, rfl⟩
    rw [← hzb]
    have HZB := Lib.hid hzb
    clear hzb
    go_wp2_with fail
    refine (HGI.out _).mono ?_
    rintro e w4 ⟨v4, rfl, hgf, hb4⟩
    have hk4 := HK3.out.transX (Kept.of_belowX hb4)
    have hx4 := (hb4.block _ (blk_lt HX3.out)).trans HX3.out
    have hu4 := (hb4.block _ (blk_lt HU3.out)).trans HU3.out
    have B4 := HB3.out.up hb4
    have HGF := Lib.hid (fun (Z : World) (hz : Kept w4 Z) => hgf.keptX hz)
    obtain ⟨gg, cg, rfl, -, -⟩ := hgf
    rw [HGL.out]
    have HX4 := Lib.hid (fun (Z : World) (hz : Kept w4 Z) => hz.blockX hx4)
    have HU4 := Lib.hid (fun (Z : World) (hz : Kept w4 Z) => hz.blockX hu4)
    have HK4 := Lib.hid hk4
    have HB4 : Hid (FSR W y l R k z vv gl w4 0 w4) := Lib.hid ⟨R, 0, by omega, B4, by simp, Kept.refl _⟩
    clear b0 b1 b2 b3 b4 b5 b6 b7 b8 b9 b10 b11 b12 b13 HGI HX3 HU3 HK3 HB3 hb4 hx4 hu4 hk4 B4
    go_wp2_with fail
    go_loopw [36] (fun i Z => ∃ j : Nat, j ≤ 3 ∧ i = .int .i64 (j : Int) ∧ FSR W y l R k z vv gl w4 j Z)
      (fun i _ => 3 - (intOf i).toNat)
    case atStart => exact ⟨0, by omega, rfl, HB4.out⟩
    case round =>
      clear HB4
      obtain ⟨j, hj, rfl, HX0⟩ := hrel
      obtain ⟨R2, jj, hjj, BR, hgv, hkw⟩ := HX0.ex
      clear HX0
      have HBR := Lib.hid BR
      have HKW := Lib.hid hkw
      by_cases hlt : j < 3
      · have hjl : j < gl.length := by have := HGL.out; omega
        have hnx := gives_next (v := vv) (R := R2) hjl
        have hgo := HGO.out _ (List.getElem_mem hjl)
        have hgi := HV1.out R2 gl[j].1 gl[j].2
        obtain ⟨g', c', e', -, hcell⟩ := HGF.out _ hkw
        have hcl := hcell j hjl
        injection e' with e1 e2 e3
        injection e1 with e1
        injection e1 with e1 _ _
        subst e1
        have i1 : (0 : Int) ≤ (j : Int) := by omega
        have i2 : (j : Int) < 3 := by omega
        generalize gl[j] = gj at *
        obtain ⟨to, ax⟩ := gj
        dsimp only at hnx hgo hgi hcl
        have f0 : wr.cell? ⟨gg, j * 5, none⟩ = some (.string to) := hcl 0 _ rfl
        have f1 : wr.cell? ⟨gg, j * 5 + 1, none⟩ = some (.int .u64 (ax.a : Int)) := hcl 1 _ rfl
        have f2 : wr.cell? ⟨gg, j * 5 + 2, none⟩ = some (.int .u64 (ax.b : Int)) := hcl 2 _ rfl
        have f3 : wr.cell? ⟨gg, j * 5 + 3, none⟩ = some (.int .u64 (ax.c : Int)) := hcl 3 _ rfl
        have f4 : wr.cell? ⟨gg, j * 5 + 4, none⟩ = some (.int .u64 (ax.d : Int)) := hcl 4 _ rfl
        have HNX := Lib.hid (hgv.trans hnx)
        have HGV := Lib.hid hgi
        have HO := Lib.hid hgo
        have hq := heap_alloc_new wr (.cells #[.string to, .int .u64 (ax.a : Int), .int .u64 (ax.b : Int), .int .u64 (ax.c : Int), .int .u64 (ax.d : Int)] 110)
        have ha : Below wr.heap.size wr (wr.alloc (.cells #[.string to, .int .u64 (ax.a : Int), .int .u64 (ax.b : Int), .int .u64 (ax.c : Int), .int .u64 (ax.d : Int)] 110)) := (Below.refl _ _).alloc (Nat.le_refl _) _
        have q0 := blk_cell hq 0
        have q1 := blk_cell hq 1
        have q2 := blk_cell hq 2
        have q3 := blk_cell hq 3
        have q4 := blk_cell hq 4
        have HZ : Hid (∀ Z : World, Calls Tryz.prog 59 #[.agg #[.int .u64 (ax.a : Int), .int .u64 (ax.b : Int), .int .u64 (ax.c : Int), .int .u64 (ax.d : Int)]] Z fun e w' => e = .returned (.bool (eqB ax U4.zero)) ∧ Below Z.heap.size Z w') := Lib.hid fun Z => zero_any ax Z
        have HI : Hid (∀ Z : World, Calls Tryz.prog 50 #[.string to] Z fun e w' => e = .returned (.bool (identB to)) ∧ Z = w') := Lib.hid fun Z => ident_any to Z (by have := HO.out.1; unfold maxLen; omega)
        have HS : Hid (∀ (Z : World) (to' : ByteArray), Below wr.heap.size wr Z → to'.size ≤ 100000000 → Calls Tryz.prog 54 #[.pointer (some ⟨zb, 0, none⟩), .string poolS, .string to', .string dn, .agg #[.int .u64 (ax.a : Int), .int .u64 (ax.b : Int), .int .u64 (ax.c : Int), .int .u64 (ax.d : Int)]] Z fun e w' => e = .returned (.int .i64 (sendM R2 poolS to' dn ax).1) ∧ Bra W y l R k z (sendM R2 poolS to' dn ax).2 (jj + 2) w' ∧ Kept Z w') := Lib.hid fun Z to' hz ht => by
          rw [HZB.out]
          exact (HBR.out.up hz).send (by unfold maxLen; omega) poolS to' dn ax HO.out.2 (by decide +kernel) ht HFR.out.2
        have HAA := Lib.hid ha
        have HQ := Lib.hid hq
        clear BR hgv hkw hnx hgo hgi hcell hcl e2 e3 hq ha
        go_wp2_with fail
        refine (HZ.out _).mono ?_
        rintro e w5 ⟨rfl, hb5⟩
        have hq5 := below_chain HAA.out HAA.out.size hb5
        have hx5 := (hb5.block _ (blk_lt HQ.out)).trans HQ.out
        generalize eqB ax U4.zero = za at *
        clear q0 q1 q2 q3 q4 f0 f1 f2 f3 f4 HZ HAA HQ hb5
        cases za with
        | true =>
          have hgi := HGV.out
          rw [if_pos (by simp)] at hgi
          have hnx := HNX.out
          rw [hgi, if_pos rfl] at hnx
          have HFS : Hid (FSR W y l R k z vv gl w4 (j + 1) w5) := Lib.hid ⟨R2, jj, by omega, HBR.out.up hq5, hnx, HKW.out.transX (Kept.of_belowX hq5)⟩
          clear hgi hnx hx5 HNX HGV HI HS
          go_wp2_with fail
          refine ⟨⟨j + 1, by omega, ?_, HFS.out⟩, ?_⟩
          · simp
          · simp [intOf]; omega
        | false =>
          have hgi := HGV.out
          rw [if_neg (by simp)] at hgi
          have HGI := Lib.hid hgi
          have r0 := blk_cell hx5 0
          have HX5 := Lib.hid hx5
          have HQ5 := Lib.hid hq5
          clear hgi HGV hx5
          go_wp2_with fail
          refine (HI.out _).mono ?_
          rintro e w6 ⟨rfl, rfl⟩
          clear HI
          generalize identB to = ib at *
          cases ib with
          | true =>
            have hgi := HGI.out
            rw [if_pos (by simp)] at hgi
            have HG2 := Lib.hid hgi
            have r1 := blk_cell HX5.out 1
            have r2 := blk_cell HX5.out 2
            have r3 := blk_cell HX5.out 3
            have r4 := blk_cell HX5.out 4
            have hu5 := HU4.out _ (HKW.out.transX (Kept.of_belowX HQ5.out))
            have s1 := blk_cell hu5 1
            have HS5 := Lib.hid (HS.out w5 to HQ5.out HO.out.1)
            have HKK := Lib.hid (HKW.out.transX (Kept.of_belowX HQ5.out))
            clear hgi hu5 HGI HX5 HS
            generalize sendM R2 poolS to dn ax = SM at *
            obtain ⟨se, SR⟩ := SM
            dsimp only at HS5 HG2
            unfold poolS at HS5
            go_wp2_with fail
            refine HS5.out.mono ?_
            rintro e w7 ⟨rfl, B7, hk7⟩
            have hkk := HKK.out.transX hk7
            by_cases hse : se = 0
            · have hnx := HNX.out
              rw [HG2.out, if_pos hse] at hnx
              have HFS : Hid (FSR W y l R k z vv gl w4 (j + 1) w7) := Lib.hid ⟨_, jj + 2, by omega, B7, hnx, hkk⟩
              clear hnx HNX HG2 B7 hk7 HS5
              subst hse
              go_wp2_with fail
              refine ⟨⟨j + 1, by omega, ?_, HFS.out⟩, ?_⟩
              · simp
              · simp [intOf]; omega
            · have hnx := HNX.out
              rw [HG2.out, if_neg hse] at hnx
              have he := HE.out (by rw [hnx]; exact hse)
              rw [hnx] at he
              have A8 := HAT.out _ B7.back
              have hkf := HK4.out.transX hkk
              have HF := Lib.hid (And.intro A8 hkf)
              have HEE := Lib.hid he
              clear hnx HNX HG2 B7 hk7 HS5 he A8 hkf hkk
              have hne : (se != 0) = true := by simpa using hse
              go_wp2_with fail
              go_ret
              have e := HEE.out
              subst e
              exact ⟨rfl, HF.out.1, HF.out.2⟩
          | false =>
            have hgi := HGI.out
            rw [if_neg (by simp)] at hgi
            have HG2 := Lib.hid hgi
            have r1 := blk_cell HX5.out 1
            have r2 := blk_cell HX5.out 2
            have r3 := blk_cell HX5.out 3
            have r4 := blk_cell HX5.out 4
            have z0 := blk_free HX5.out 0
            have hu5 := HU4.out _ (HKW.out.transX (Kept.of_belowX HQ5.out))
            have s0 := blk_cell hu5 0
            have s1 := blk_cell hu5 1
            have hb6 : Below wr.heap.size wr (w5.setCell ⟨wr.heap.size, 0, none⟩ (.string fr)) := HQ5.out.setCell (p := ⟨wr.heap.size, 0, none⟩) (Nat.le_refl _) _
            have HS5 := Lib.hid (HS.out _ fr hb6 HFR.out.1)
            have hk6 := HKW.out.transX (Kept.of_belowX hb6)
            have HKK := Lib.hid hk6
            have hx6 := blk_set HX5.out 0 (.string fr)
            have hu6 := HU4.out _ hk6
            have t0 := blk_cell hx6 0
            have t1 := blk_cell hx6 1
            have t2 := blk_cell hx6 2
            have t3 := blk_cell hx6 3
            have t4 := blk_cell hx6 4
            have t5 := blk_cell hu6 1
            simp at t0 t1 t2 t3 t4 t5
            have hne11 : ¬ wr.heap.size = g11 := by
              have h1 := blk_lt (HU4.out _ HKW.out)
              exact fun e => absurd h1 (by rw [e]; exact Nat.lt_irrefl _)
            clear hgi hu5 HGI HX5 HS hb6 hk6 hx6 hu6
            generalize sendM R2 poolS fr dn ax = SM at *
            obtain ⟨se, SR⟩ := SM
            dsimp only at HS5 HG2
            unfold poolS at HS5
            go_wp2_with fail
            refine HS5.out.mono ?_
            rintro e w7 ⟨rfl, B7, hk7⟩
            have hkk := HKK.out.transX hk7
            by_cases hse : se = 0
            · have hnx := HNX.out
              rw [HG2.out, if_pos hse] at hnx
              have HFS : Hid (FSR W y l R k z vv gl w4 (j + 1) w7) := Lib.hid ⟨_, jj + 2, by omega, B7, hnx, hkk⟩
              clear hnx HNX HG2 B7 hk7 HS5
              subst hse
              go_wp2_with fail
              refine ⟨⟨j + 1, by omega, ?_, HFS.out⟩, ?_⟩
              · simp
              · simp [intOf]; omega
            · have hnx := HNX.out
              rw [HG2.out, if_neg hse] at hnx
              have he := HE.out (by rw [hnx]; exact hse)
              rw [hnx] at he
              have A8 := HAT.out _ B7.back
              have hkf := HK4.out.transX hkk
              have HF := Lib.hid (And.intro A8 hkf)
              have HEE := Lib.hid he
              clear hnx HNX HG2 B7 hk7 HS5 he A8 hkf hkk
              have hne : (se != 0) = true := by simpa using hse
              go_wp2_with fail
              go_ret
              have e := HEE.out
              subst e
              exact ⟨rfl, HF.out.1, HF.out.2⟩
      · have i2 : ¬ (j : Int) < 3 := by omega
        obtain rfl : j = 3 := by omega
        rw [List.drop_eq_nil_of_le (by have := HGL.out; omega)] at hgv
        have hgv' : givesM vv gl R = (0, R2) := hgv
        have hx := HX4.out _ hkw
        have s0 := blk_cell hx 0
        have s2 := blk_cell hx 2
        have HR2 := Lib.hid (HY.out (by rw [hgv']))
        have HGV := Lib.hid hgv'
        have HDL := Lib.hid (fun (Z : World) (hz : Below wr.heap.size wr Z) => (BR.up hz).del (by unfold maxLen; omega) KF HSZ.out.2)
        rw [← HZB.out] at HDL
        have HKF := Lib.hid (HK4.out.transX hkw)
        clear hgv hgv' hx BR hkw
        go_wp2_with fail
        refine (HK.out _).mono ?_
        rintro e w5 ⟨rfl, hb5⟩
        have HD5 := Lib.hid (HDL.out _ hb5)
        have hk5 := HKF.out.transX (Kept.of_belowX hb5)
        clear s0 s2 HDL HK HKF hb5
        go_wp2_with fail
        refine HD5.out.mono ?_
        rintro e w6 ⟨rfl, B6, hk6⟩
        have HW6 := Lib.hid (B6.write (by have := HSZ.out.1; omega))
        rw [← HZB.out] at HW6
        have hkk := hk5.transX hk6
        clear HD5 B6 hk5 hk6
        go_wp2_with fail
        refine HW6.out.mono ?_
        rintro e w7 ⟨rfl, A7, hk7⟩
        have A8 := HAM.out _ _ (jj + 1) (by omega) A7
        have hkf := hkk.transX hk7
        have e := HR2.out
        rw [HGV.out] at e
        go_wp2_with fail
        go_ret
        subst e
        exact ⟨rfl, A8, hkf⟩
end Go.Proofs.YtaafaaoioleokaaGreatDoor
namespace Go.Proofs.YtaafaaoioleokaaGreatDoor
set_option maxRecDepth 100000
open Go Go.RowKit
set_option linter.unusedVariables false

section
variable {W W' W2 : World} {y : Lyr} {l : List Lyr} {R : List Pr} {k : Nat}
theorem At.mint (h : At W y l R k W') (hn : y.n + k + 2 ≤ maxLen) (a d : ByteArray) (x : U4) (hx : x.ok) (ha : a.size ≤ 100000000) (hd : d.size ≤ 100000000) :
    Calls Tryz.prog 44 #[.pointer (some ⟨y.b, 0, none⟩), .string a, .string d, x.val] W' fun e w' => e = .returned (.int .i64 (mintM R a d x).1) ∧ At W y l (mintM R a d x).2 (k + 2) w' ∧ Kept W' w' := by
  obtain ⟨n, f, h1, h2, h3, h4⟩ := h.b
  refine (mint_any h1 h2 (show n + 2 ≤ maxLen by omega) a d x hx ha hd).mono ?_
  rintro e w' ⟨he, hq⟩
  exact ⟨he, ⟨BankS.joinX h3 h4 hq, h.p⟩, At.kept ⟨hq, h1⟩⟩
theorem At.bal (h : At W y l R k W') (a d : ByteArray) (ha : a.size ≤ 100000000) (hd : d.size ≤ 100000000) :
    Calls Tryz.prog 45 #[.pointer (some ⟨y.b, 0, none⟩), .string a, .string d] W' fun e w' => e = .returned (balM R a d).val ∧ Below W'.heap.size W' w' := by
  obtain ⟨n, f, h1, h2, h3, h4⟩ := h.b
  rw [← balV_seen h2 a d]
  exact bal_any h1 a d ha hd
end
theorem rd_one (Z : World) (u : UInt8) : Rd (Z.alloc (.cells #[bval u] 5)) (Z.alloc (.cells #[bval u] 5)).heap.size (.slice (some ⟨Z.heap.size, 0, none⟩) 1 1) [u] := by
  have hg := heap_alloc_new Z (.cells #[bval u] 5)
  refine ⟨_, _, rfl, Nat.le_refl _, by simp [maxLen], fun _ => ⟨Z.heap.size, 0, rfl, blk_lt hg, fun j hj => ?_⟩⟩
  rcases j with _ | j
  · exact blk_cell hg 0
  · simp at hj
theorem rdp_oneF (w : World) (s : ByteArray) (v : Value) (l : List UInt8) (hr : Rd w w.heap.size v l) : RdP (w.alloc (.cells #[.string s, v] 76)) (w.alloc (.cells #[.string s, v] 76)).heap.size (.slice (some ⟨w.heap.size, 0, none⟩) 1 1) [(s, l)] := by
  have hb : Below w.heap.size w (w.alloc (.cells #[.string s, v] 76)) := (Below.refl _ _).alloc (Nat.le_refl _) _
  have hg := heap_alloc_new w (.cells #[.string s, v] 76)
  refine ⟨_, _, rfl, Nat.le_refl _, by simp [maxLen], fun _ => ⟨w.heap.size, 0, rfl, blk_lt hg, fun j hj => ?_⟩⟩
  rcases j with _ | j
  · exact ⟨blk_cell hg 0, _, blk_cell hg 1, (hr.below hb).more hb.size⟩
  · simp at hj
theorem eqself (x : U4) : ∀ W, (binOp .eql 32 x.val x.val).run Tryz.prog W = .ok (.bool true) W := fun W => by
  have h := eql4 x x W
  rw [eqB_refl] at h
  exact h
def fxChan : ByteArray := ⟨#[99, 104, 97, 110, 45, 48]⟩
def fxAnn : ByteArray := ⟨#[97, 110, 110]⟩
def fxFuel : ByteArray := ⟨#[102, 117, 101, 108]⟩
def fxRos : ByteArray := ⟨#[114, 111, 115]⟩
def fxRob : ByteArray := ⟨#[114, 111, 98]⟩
def fxV : PdV := ⟨fxAnn, fxFuel, ⟨3, 0, 0, 0⟩, ⟨2, 0, 0, 0⟩, ⟨1, 0, 0, 0⟩⟩
def fx0 : List Pr := [(kPl wCommit fxChan 1, [1])]
def fx1 : List Pr := (mintM fx0 fxAnn fxFuel ⟨9, 0, 0, 0⟩).2
def fx2 : List Pr := (aheadM fx1 fxChan 1 fxV).2
def fx3 : List Pr := (settleM fx2 fxChan 1 fxRos fxRob false).2
theorem fxM1 : (mintM fx0 fxAnn fxFuel ⟨9, 0, 0, 0⟩).1 = 0 := by decide +kernel
theorem fxA2 : (aheadM fx1 fxChan 2 fxV).1 = 130 := by decide +kernel
theorem fxA1 : (aheadM fx1 fxChan 1 fxV).1 = 0 := by decide +kernel
theorem fxA3 : (aheadM fx2 fxChan 1 fxV).1 = 150 := by decide +kernel
theorem fxE2 : aheadM fx1 fxChan 2 fxV = (130, fx1) := Prod.ext fxA2 (ahead_no (by rw [fxA2]; decide))
theorem fxE1 : aheadM fx1 fxChan 1 fxV = (0, fx2) := Prod.ext fxA1 rfl
theorem fxE3 : aheadM fx2 fxChan 1 fxV = (150, fx2) := Prod.ext fxA3 (ahead_no (by rw [fxA3]; decide))
theorem fxS1 : (settleM fx2 fxChan 1 fxRos fxRob false).1 = 0 := by decide +kernel
theorem fxB1 : eqB (balM fx3 fxRos fxFuel) ⟨3, 0, 0, 0⟩ = true := by decide +kernel
theorem fxB2 : eqB (balM fx3 fxRob fxFuel) ⟨2, 0, 0, 0⟩ = true := by decide +kernel
theorem fxB3 : eqB (balM fx3 fxAnn fxFuel) ⟨4, 0, 0, 0⟩ = true := by decide +kernel
theorem fxB4 : eqB (balM fx3 poolS fxFuel) ⟨0, 0, 0, 0⟩ = true := by decide +kernel
theorem fxOrd : ordR none fx0 = true := by decide +kernel
theorem fxSmall : ∀ p ∈ fx0, p.1.size ≤ maxLen := by decide +kernel
set_option maxHeartbeats 8000000 in
theorem ffixed_any (w : World) : Calls Tryz.prog 8 #[] w fun e w' => e = .returned (.bool true) ∧ Below w.heap.size w w' := by
  have HK := Lib.hid (pCommit_any fxChan 1 w (by decide) (by decide +kernel))
  obtain ⟨K, hK⟩ : ∃ K, K = kPl wCommit fxChan 1 := ⟨_, rfl⟩
  rw [← hK] at HK
  have HN : Hid (∀ Z : World, Calls Tryz.prog 7 #[.slice (some ⟨Z.heap.size + 1, 0, none⟩) 1 1] ((Z.alloc (.cells #[.int .u8 1] 5)).alloc (.cells #[.string K, .slice (some ⟨Z.heap.size, 0, none⟩) 1 1] 76)) fun e w' => ∃ yb ym yf, e = .returned (.tuple #[.pointer (some ⟨yb, 0, none⟩), .int .i64 0]) ∧ Z.heap.size ≤ ym ∧ At w' ⟨yb, ym, 1, yf⟩ [] fx0 0 w' ∧ Below Z.heap.size Z w') := Lib.hid fun Z => by
    have hz : Below Z.heap.size Z (Z.alloc (.cells #[.int .u8 1] 5)) := (Below.refl _ _).alloc (Nat.le_refl _) _
    have hz2 := hz.alloc hz.size (.cells #[.string K, .slice (some ⟨Z.heap.size, 0, none⟩) 1 1] 76)
    have hnew := new_any _ _ fx0 (rdp_oneF (Z.alloc (.cells #[bval 1] 5)) (kPl wCommit fxChan 1) _ [1] (rd_one Z 1)) fxSmall
    rw [← hK, show bval 1 = .int .u8 1 from rfl, show (Z.alloc (.cells #[.int .u8 1] 5)).heap.size = Z.heap.size + 1 by simp] at hnew
    refine hnew.mono ?_
    rintro e w' ⟨⟨h, -⟩ | ⟨-, y, rfl, h1, h2, h3, h4, h5, h6⟩, hb⟩
    · rw [fxOrd] at h; cases h
    · obtain ⟨yb, ym, yn, yf⟩ := y
      have h3' : yn = 1 := h3
      subst h3'
      exact ⟨yb, ym, yf, rfl, Nat.le_trans hz2.size h2, At.made h6 h4 h5 fxSmall, hz2.trans (hb.mono hz2.size)⟩
  clear hK
  have HPAY := Lib.hid (fun Z : World => heap_alloc_new Z (.cells #[.string ⟨#[102, 117, 101, 108]⟩, .int .u64 3, .int .u64 0, .int .u64 0, .int .u64 0, .int .u64 2, .int .u64 0, .int .u64 0, .int .u64 0, .int .u64 1, .int .u64 0, .int .u64 0, .int .u64 0] 34))
  go_enter Tryz.func8, Tryz.ntmps8
  unfold fxChan at HK
  go_wp2_with fail
  refine HK.out.mono ?_
  rintro e w1 ⟨rfl, hb1⟩
  have HN1 := Lib.hid (HN.out w1)
  clear HK HN
  go_wp2_with fail
  refine HN1.out.mono ?_
  rintro e w2 ⟨yb, ym, yf, rfl, hym, A2, hb2⟩
  have hq2 := hb1.trans (hb2.mono hb1.size)
  have hym2 : w.heap.size ≤ ym := Nat.le_trans hb1.size hym
  have HQ := Lib.hid (And.intro hq2 hym2)
  have HM := Lib.hid (A2.mint (show 1 + 0 + 2 ≤ maxLen by unfold maxLen; decide) fxAnn fxFuel ⟨9, 0, 0, 0⟩ (by unfold U4.ok; decide) (by decide +kernel) (by decide +kernel))
  rw [fxM1] at HM
  clear HN1 hb1 hb2 hym hq2 hym2 A2
  unfold fxAnn fxFuel at HM
  go_wp2_with fail
  refine HM.out.mono ?_
  rintro e w3 ⟨rfl, A3, -⟩
  replace A3 : At w2 ⟨yb, ym, 1, yf⟩ [] fx1 2 w3 := A3
  have hp3 := HPAY.out w3
  have hb3 : Below w3.heap.size w3 (w3.alloc (.cells #[.string ⟨#[102, 117, 101, 108]⟩, .int .u64 3, .int .u64 0, .int .u64 0, .int .u64 0, .int .u64 2, .int .u64 0, .int .u64 0, .int .u64 0, .int .u64 1, .int .u64 0, .int .u64 0, .int .u64 0] 34)) := (Below.refl _ _).alloc (Nat.le_refl _) _
  have A4 := A3.up hb3
  have HG := Lib.hid (fahead_any A4 (show 1 + 2 + 3 ≤ maxLen by unfold maxLen; decide) fxAnn fxChan 2 (by decide) fxFuel ⟨3, 0, 0, 0⟩ ⟨2, 0, 0, 0⟩ ⟨1, 0, 0, 0⟩ (by unfold U4.ok; decide) (by unfold U4.ok; decide) (by unfold U4.ok; decide) (by decide +kernel) (by decide +kernel) (by decide +kernel))
  rw [show aheadM fx1 fxChan 2 ⟨fxAnn, fxFuel, ⟨3, 0, 0, 0⟩, ⟨2, 0, 0, 0⟩, ⟨1, 0, 0, 0⟩⟩ = (130, fx1) from fxE2] at HG
  have b0 := blk_cell hp3 0
  have b1 := blk_cell hp3 1
  have b2 := blk_cell hp3 2
  have b3 := blk_cell hp3 3
  have b4 := blk_cell hp3 4
  have b5 := blk_cell hp3 5
  have b6 := blk_cell hp3 6
  have b7 := blk_cell hp3 7
  have b8 := blk_cell hp3 8
  have b9 := blk_cell hp3 9
  have b10 := blk_cell hp3 10
  have b11 := blk_cell hp3 11
  have b12 := blk_cell hp3 12
  have HP := Lib.hid hp3
  clear hp3 hb3 A3 A4 HM
  unfold fxAnn fxFuel fxChan at HG
  go_wp2_with fail
  refine HG.out.mono ?_
  rintro e w5 ⟨rfl, A5, hk5⟩
  try dsimp only at A5
  have hp5 := hk5.blockX HP.out
  have HG2 := Lib.hid (fahead_any A5 (show 1 + (2 + 3) + 3 ≤ maxLen by unfold maxLen; decide) fxAnn fxChan 1 (by decide) fxFuel ⟨3, 0, 0, 0⟩ ⟨2, 0, 0, 0⟩ ⟨1, 0, 0, 0⟩ (by unfold U4.ok; decide) (by unfold U4.ok; decide) (by unfold U4.ok; decide) (by decide +kernel) (by decide +kernel) (by decide +kernel))
  rw [show aheadM fx1 fxChan 1 ⟨fxAnn, fxFuel, ⟨3, 0, 0, 0⟩, ⟨2, 0, 0, 0⟩, ⟨1, 0, 0, 0⟩⟩ = (0, fx2) from fxE1] at HG2
  clear b0 b1 b2 b3 b4 b5 b6 b7 b8 b9 b10 b11 b12 HG HP hk5 A5
  have b0 := blk_cell hp5 0
  have b1 := blk_cell hp5 1
  have b2 := blk_cell hp5 2
  have b3 := blk_cell hp5 3
  have b4 := blk_cell hp5 4
  have b5 := blk_cell hp5 5
  have b6 := blk_cell hp5 6
  have b7 := blk_cell hp5 7
  have b8 := blk_cell hp5 8
  have b9 := blk_cell hp5 9
  have b10 := blk_cell hp5 10
  have b11 := blk_cell hp5 11
  have b12 := blk_cell hp5 12
  have HP := Lib.hid hp5
  clear hp5
  unfold fxAnn fxFuel fxChan at HG2
  go_wp2_with fail
  refine HG2.out.mono ?_
  rintro e w6 ⟨rfl, A6, hk6⟩
  try dsimp only at A6
  have hp6 := hk6.blockX HP.out
  have HG3 := Lib.hid (fahead_any A6 (show 1 + (2 + 3 + 3) + 3 ≤ maxLen by unfold maxLen; decide) fxAnn fxChan 1 (by decide) fxFuel ⟨3, 0, 0, 0⟩ ⟨2, 0, 0, 0⟩ ⟨1, 0, 0, 0⟩ (by unfold U4.ok; decide) (by unfold U4.ok; decide) (by unfold U4.ok; decide) (by decide +kernel) (by decide +kernel) (by decide +kernel))
  rw [show aheadM fx2 fxChan 1 ⟨fxAnn, fxFuel, ⟨3, 0, 0, 0⟩, ⟨2, 0, 0, 0⟩, ⟨1, 0, 0, 0⟩⟩ = (150, fx2) from fxE3] at HG3
  clear b0 b1 b2 b3 b4 b5 b6 b7 b8 b9 b10 b11 b12 HG2 HP hk6 A6
  have b0 := blk_cell hp6 0
  have b1 := blk_cell hp6 1
  have b2 := blk_cell hp6 2
  have b3 := blk_cell hp6 3
  have b4 := blk_cell hp6 4
  have b5 := blk_cell hp6 5
  have b6 := blk_cell hp6 6
  have b7 := blk_cell hp6 7
  have b8 := blk_cell hp6 8
  have b9 := blk_cell hp6 9
  have b10 := blk_cell hp6 10
  have b11 := blk_cell hp6 11
  have b12 := blk_cell hp6 12
  clear hp6
  unfold fxAnn fxFuel fxChan at HG3
  go_wp2_with fail
  refine HG3.out.mono ?_
  rintro e w7 ⟨rfl, A7, -⟩
  try dsimp only at A7
  have HS := Lib.hid (fsettle_any A7 (show 1 + (2 + 3 + 3 + 3) + 8 ≤ maxLen by unfold maxLen; decide) fxChan ⟨#[]⟩ 1 (by decide) none 0 0 0 0 fxRos fxRob false (by decide +kernel) (by decide +kernel) (by decide +kernel))
  rw [show settleM fx2 fxChan 1 fxRos fxRob false = (0, fx3) from Prod.ext fxS1 rfl] at HS
  clear b0 b1 b2 b3 b4 b5 b6 b7 b8 b9 b10 b11 b12 HG3 A7
  unfold fxChan fxRos fxRob at HS
  go_wp2_with fail
  refine HS.out.mono ?_
  rintro e w8 ⟨rfl, A8, -⟩
  try dsimp only at A8
  have q3 : ∀ W, (binOp .eql 32 (.agg #[.int .u64 3, .int .u64 0, .int .u64 0, .int .u64 0]) (.agg #[.int .u64 3, .int .u64 0, .int .u64 0, .int .u64 0])).run Tryz.prog W = .ok (.bool true) W := fun W => eqself ⟨3, 0, 0, 0⟩ W
  have q2 : ∀ W, (binOp .eql 32 (.agg #[.int .u64 2, .int .u64 0, .int .u64 0, .int .u64 0]) (.agg #[.int .u64 2, .int .u64 0, .int .u64 0, .int .u64 0])).run Tryz.prog W = .ok (.bool true) W := fun W => eqself ⟨2, 0, 0, 0⟩ W
  have q4 : ∀ W, (binOp .eql 32 (.agg #[.int .u64 4, .int .u64 0, .int .u64 0, .int .u64 0]) (.agg #[.int .u64 4, .int .u64 0, .int .u64 0, .int .u64 0])).run Tryz.prog W = .ok (.bool true) W := fun W => eqself ⟨4, 0, 0, 0⟩ W
  have q0 : ∀ W, (binOp .eql 32 (.agg #[.int .u64 0, .int .u64 0, .int .u64 0, .int .u64 0]) (.agg #[.int .u64 0, .int .u64 0, .int .u64 0, .int .u64 0])).run Tryz.prog W = .ok (.bool true) W := fun W => eqself ⟨0, 0, 0, 0⟩ W
  have HB := Lib.hid (A8.bal fxRos fxFuel (by decide +kernel) (by decide +kernel))
  rw [eqB_iff.1 fxB1] at HB
  have HA8 := Lib.hid A8
  clear HS A8
  unfold fxRos fxFuel at HB
  unfold U4.val U4.cells at HB
  go_wp2_with fail
  refine HB.out.mono ?_
  rintro e w9 ⟨rfl, hb9⟩
  have A9 := HA8.out.up hb9
  have HB2 := Lib.hid (A9.bal fxRob fxFuel (by decide +kernel) (by decide +kernel))
  rw [eqB_iff.1 fxB2] at HB2
  have HA9 := Lib.hid A9
  clear HB A9 HA8 hb9
  unfold fxRob fxFuel at HB2
  unfold U4.val U4.cells at HB2
  go_wp2_with fail
  refine HB2.out.mono ?_
  rintro e w10 ⟨rfl, hb10⟩
  have A10 := HA9.out.up hb10
  have HB3 := Lib.hid (A10.bal fxAnn fxFuel (by decide +kernel) (by decide +kernel))
  rw [eqB_iff.1 fxB3] at HB3
  have HA10 := Lib.hid A10
  clear HB2 A10 HA9 hb10
  unfold fxAnn fxFuel at HB3
  unfold U4.val U4.cells at HB3
  go_wp2_with fail
  refine HB3.out.mono ?_
  rintro e w11 ⟨rfl, hb11⟩
  have A11 := HA10.out.up hb11
  have HB4 := Lib.hid (A11.bal poolS fxFuel (by decide +kernel) (by decide +kernel))
  rw [eqB_iff.1 fxB4] at HB4
  have HA11 := Lib.hid A11
  clear HB3 A11 HA10 hb11
  unfold poolS fxFuel at HB4
  unfold U4.val U4.cells at HB4
  go_wp2_with fail
  refine HB4.out.mono ?_
  rintro e w12 ⟨rfl, hb12⟩
  have A12 := HA11.out.up hb12
  have hq := HQ.out.1.trans (A12.below HQ.out.2 HQ.out.1.size)
  clear A12 HA11 HB4 hb12
  go_wp2_with fail
  go_ret
  exact ⟨rfl, hq⟩
end Go.Proofs.YtaafaaoioleokaaGreatDoor
namespace Go.Proofs.YtaafaaoioleokaaGreatDoor
set_option maxRecDepth 100000
open Go Go.RowKit
set_option linter.unusedVariables false

structure FOp where
  kd : Int
  fr : ByteArray
  by_ : ByteArray
  id : ByteArray
  seq : Nat
  dn : ByteArray
  x : U4
  y : U4
  z : U4
  late : Bool
def FOp.cells (o : FOp) : Array Value := #[.int .i64 o.kd, .string o.fr, .string o.by_, .string o.id, .int .u64 (o.seq : Int), .string o.dn, .int .u64 (o.x.a : Int), .int .u64 (o.x.b : Int), .int .u64 (o.x.c : Int), .int .u64 (o.x.d : Int), .int .u64 (o.y.a : Int), .int .u64 (o.y.b : Int), .int .u64 (o.y.c : Int), .int .u64 (o.y.d : Int), .int .u64 (o.z.a : Int), .int .u64 (o.z.b : Int), .int .u64 (o.z.c : Int), .int .u64 (o.z.d : Int), .bool o.late]
def FOp.fine (o : FOp) : Prop := o.x.ok ∧ o.y.ok ∧ o.z.ok ∧ o.seq < 18446744073709551616 ∧ o.fr.size ≤ 100000000 ∧ o.by_.size ≤ 100000000 ∧ o.id.size ≤ 100000000 ∧ o.dn.size ≤ 100000000
def RdFO (W : World) (v : Value) (l : List FOp) : Prop := ∃ A c, v = .slice A l.length c ∧ (0 < l.length → ∃ b o, A = some ⟨b, o, none⟩ ∧ b < W.heap.size ∧
  ∀ (j : Nat) (h : j < l.length) (i : Nat) (u : Value), i < 19 → l[j].cells[i]? = some u → W.cell? ⟨b, o + j * 19 + i, none⟩ = some u)
theorem RdFO.kept {W W' : World} {v : Value} {l : List FOp} (h : RdFO W v l) (hk : Kept W W') : RdFO W' v l := by
  obtain ⟨A, c, rfl, hc⟩ := h
  refine ⟨A, c, rfl, fun h0 => ?_⟩
  obtain ⟨b, o, rfl, hb1, hcell⟩ := hc h0
  have hs : W.heap.size ≤ W'.heap.size := by obtain ⟨F, h1, _⟩ := hk; exact h1.size
  exact ⟨b, o, rfl, Nat.lt_of_lt_of_le hb1 hs, fun j hj i u hi hu => hk.cell (hcell j hj i u hi hu)⟩
/-- behind a settlement nothing is paid ahead any more -/
theorem settle_gone {R : List Pr} {id : ByteArray} {n : Nat} {fw by_ : ByteArray} {late : Bool} (h : (settleM R id n fw by_ late).1 = 0) : getPd (settleM R id n fw by_ late).2 id n = none := by
  unfold settleM at h ⊢
  cases hg : getPd R id n with
  | none => exact hg
  | some v =>
    rw [hg] at h
    dsimp only at h ⊢
    split
    · unfold getPd
      rw [getL_putL, if_pos rfl]
      rfl
    · next h1 => rw [if_neg h1] at h; exact absurd h h1
/-- what is put elsewhere leaves what stands under a prefix -/
theorem putL_filter {R : List Pr} (h : Rise R) (pfx key : ByteArray) (v : Option (List UInt8)) (hk : begB pfx key = false) : (putL (key, v) R).filter (fun p => begB pfx p.1) = R.filter (fun p => begB pfx p.1) := by
  refine Rise.ext ((h.put _).filter _) (h.filter _) fun s => ?_
  rw [getL_filter, getL_filter, getL_putL]
  by_cases e : s = key
  · subst e
    rw [hk]
    simp
  · rw [if_neg e]
theorem sup_bal (a d : ByteArray) : begB supP (kBal a d) = false := by
  unfold begB
  rw [kBal_list]
  simp [Lib.hasPrefix, supP]
  rfl
theorem sup_fee (a : ByteArray) (n : Nat) : begB supP (kFee a n) = false := by
  unfold begB kFee
  rw [data_list, data_list, data_list]
  simp [Lib.hasPrefix, supP, feeP]
  rfl
theorem sup_commit (a : ByteArray) (n : Nat) : begB supP (kPl wCommit a n) = false := by
  unfold begB kPl
  rw [data_list, data_list, data_list, data_list, data_list]
  simp [Lib.hasPrefix, supP, ibcS]
  rfl
theorem send_filter {R : List Pr} (h : Rise R) (a b d : ByteArray) (x : U4) : (sendM R a b d x).2.filter (fun p => begB supP p.1) = R.filter (fun p => begB supP p.1) := by
  unfold sendM
  split
  · split
    · split
      · split
        · rfl
        · split
          · unfold keepL
            rw [putL_filter (h.put _) _ _ _ (sup_bal _ _), putL_filter h _ _ _ (sup_bal _ _)]
          · rfl
      · rfl
    · rfl
  · rfl
theorem ahead_filter {R : List Pr} (h : Rise R) (id : ByteArray) (n : Nat) (v : PdV) : (aheadM R id n v).2.filter (fun p => begB supP p.1) = R.filter (fun p => begB supP p.1) := by
  unfold aheadM
  split
  · split
    · split
      · rfl
      · split
        · split
          · rw [putL_filter h.send _ _ _ (sup_fee _ _), send_filter h]
          · rfl
        · rfl
    · rfl
  · rfl
theorem give_rise {R : List Pr} (h : Rise R) (v : PdV) (to : ByteArray) (x : U4) : Rise (giveM R v to x).2 := by
  unfold giveM
  split
  · exact h
  · exact h.send
theorem give_filter {R : List Pr} (h : Rise R) (v : PdV) (to : ByteArray) (x : U4) : (giveM R v to x).2.filter (fun p => begB supP p.1) = R.filter (fun p => begB supP p.1) := by
  unfold giveM
  split
  · rfl
  · exact send_filter h _ _ _ _
theorem gives_both {v : PdV} : ∀ (gl : List (ByteArray × U4)) {R : List Pr}, Rise R → Rise (givesM v gl R).2 ∧ (givesM v gl R).2.filter (fun p => begB supP p.1) = R.filter (fun p => begB supP p.1)
  | [], R, h => ⟨h, rfl⟩
  | g :: gl, R, h => by
    unfold givesM
    split
    · obtain ⟨h1, h2⟩ := gives_both gl (give_rise h v g.1 g.2)
      exact ⟨h1, h2.trans (give_filter h _ _ _)⟩
    · exact ⟨give_rise h _ _ _, give_filter h _ _ _⟩
theorem settle_filter {R : List Pr} (h : Rise R) (id : ByteArray) (n : Nat) (fw by_ : ByteArray) (late : Bool) : (settleM R id n fw by_ late).2.filter (fun p => begB supP p.1) = R.filter (fun p => begB supP p.1) := by
  unfold settleM
  cases getPd R id n with
  | none => rfl
  | some v =>
    obtain ⟨h1, h2⟩ := gives_both (v := v) (giftsM v fw by_ late) h
    dsimp only
    split
    · rw [putL_filter h1 _ _ _ (sup_fee _ _), h2]
    · rfl
theorem setL_filter {R : List Pr} (h : Rise R) (a : ByteArray) (n : Nat) (v : List UInt8) : (setL (kPl wCommit a n) v R).filter (fun p => begB supP p.1) = R.filter (fun p => begB supP p.1) := by
  unfold setL
  split
  · exact putL_filter h _ _ _ (sup_commit _ _)
  · rfl
end Go.Proofs.YtaafaaoioleokaaGreatDoor
