
/- The walk of the law: the supply is the sum of the balances. -/
import Derived.Test.YtgiciaeaibonbaaGreatDoorBankW
import Derived.Test.YtgiciaeaibonbaaGreatDoorBankH
import Derived.Test.YtgiciaeaibonbaaGreatDoorBankL0
import Derived.Test.YtgiciaeaibonbaaGreatDoorLimbZ0
import Derived.Test.YtgiciaeaibonbaaGreatDoorBOp
namespace Go.Proofs.YtgiciaeaibonbaaGreatDoor
set_option maxRecDepth 100000
open Go Go.RowKit
set_option linter.unusedVariables false

theorem Acc.more {W W' : World} {y : Lyr} {R : List Pr} {k k' : Nat} (h : Acc W y R k W') (hk : k ≤ k') : Acc W y R k' W' := by
  obtain ⟨⟨n, f, h1, h2, h3, h4⟩, hp⟩ := h
  exact ⟨⟨n, f, h1, h2, by omega, h4⟩, hp⟩
theorem Chg.cellG {w w' : World} {b : Nat} (h : Chg w w' (fun k => k = b)) {g i : Nat} {v : Value} (hne : g ≠ b) (e : w.cell? ⟨g, i, none⟩ = some v) : w'.cell? ⟨g, i, none⟩ = some v :=
  (cell_same (p := ⟨g, i, none⟩) (h.block g (World.block_lt_of_cell? w ⟨g, i, none⟩ e) hne)).trans e
/-- a cell that isn't a number's -/
theorem LBlk.ne_cell {W : World} {g b i : Nat} {S : U4} (hU : LBlk W g S.cells) {u : Value} (e : W.cell? ⟨b, i, none⟩ = some u) (hu : ∀ z, u ≠ .int .u64 z) : b ≠ g := fun h => by
  subst h
  rw [LBlk.cell hU i] at e
  match i, e with
  | 0, e => exact hu _ (Option.some.inj e).symm
  | 1, e => exact hu _ (Option.some.inj e).symm
  | 2, e => exact hu _ (Option.some.inj e).symm
  | 3, e => exact hu _ (Option.some.inj e).symm
  | i + 4, e => cases e
/-- a row of pairs stays where a number alone has changed -/
theorem rows_chgU {W : World} {g : Nat} {S : U4} {v : Value} {ps : List Pr} (hr : RdP W W.heap.size v ps) (hU : LBlk W g S.cells) : ∃ A c, v = .slice A ps.length c ∧ ps.length ≤ c ∧ c ≤ maxLen ∧ ∀ j (h : j < ps.length), ∃ b o, A = some ⟨b, o, none⟩ ∧ ∀ Z, Chg W Z (fun k => k = g) → Z.cell? ⟨b, o + j * 2, none⟩ = some (.string ps[j].1) ∧ ∃ x, Z.cell? ⟨b, o + j * 2 + 1, none⟩ = some x ∧ Rd Z Z.heap.size x ps[j].2 := by
  obtain ⟨A, c, hv, h1, h2, hp⟩ := hr
  refine ⟨A, c, hv, h1, h2, fun j hj => ?_⟩
  obtain ⟨b, o, hA, hb, hcell⟩ := hp (by omega)
  refine ⟨b, o, hA, fun Z hz => ?_⟩
  obtain ⟨q1, x, q2, q3⟩ := hcell j hj
  have hne := hU.ne_cell q1 (fun z h => by cases h)
  refine ⟨Chg.cellG hz hne q1, x, Chg.cellG hz hne q2, ?_⟩
  obtain ⟨A', c', hv', k1, k2, hq⟩ := q3
  refine ⟨A', c', hv', k1, k2, fun h0 => ?_⟩
  obtain ⟨b', o', r1, r2, r3⟩ := hq h0
  refine ⟨b', o', r1, Nat.lt_of_lt_of_le r2 hz.size, fun i hi => ?_⟩
  have e := r3 i hi
  exact Chg.cellG hz (hU.ne_cell e (fun z h => by cases h)) e
theorem addU_fits {x y : U4} (h : x.nat + y.nat < 2 ^ 256) : (addU x y).2 = true := by
  unfold addU
  split
  · rfl
  · next h1 => exact absurd (by simpa [top] using h) h1

set_option maxHeartbeats 16000000 in
theorem sums_law (w : World) (v : Value) (ops : List BOp) (hv : RdB w w.heap.size v ops) (hlen : ops.length ≤ 2000000) (hf : ∀ o ∈ ops, o.fine) (fr : TypeId × Nat × Nat) (hk : w.heap[1]? = some (.cells kVals fr.1 fr.2)) :
    Calls Tryz.prog 3 #[v] w fun e w' => e = .returned (.bool true) ∧ Below w.heap.size w w' := by
  obtain ⟨A, cp, rfl, hc1, hc2, hp⟩ := hv
  unfold maxLen at hc2
  obtain ⟨n, hnn⟩ : ∃ n, n = ops.length := ⟨_, rfl⟩
  rw [← hnn] at hc1 hlen ⊢
  have HN := Lib.hid hnn
  have HF := Lib.hid hf
  have HP := Lib.hid hp
  have HKW := Lib.hid hk
  clear hnn hf hp hk
  have HN0 := Lib.hid (fun (W : World) => new_any W (.slice none 0 0) [] ⟨none, 0, rfl, Nat.le_refl _, Nat.zero_le _, fun h => absurd h (by simp)⟩ (by simp))
  go_enter Tryz.func3, Tryz.ntmps3
  go_wp2_with fail
  refine (HN0.out _).mono ?_
  rintro e w1 ⟨h1 | ⟨-, y, rfl, hyb, hym, hyn, hly, hri, hp1⟩, hq1⟩
  · exact absurd h1.1 (by decide)
  have A1 := Acc.made hp1 hly hri (by simp)
  obtain ⟨yb, ym, yn, yf⟩ := y
  dsimp only at hyb hym hyn ⊢
  have hyn' : yn = 0 := hyn
  clear hyn
  subst hyn'
  have hW1 := hq1.size
  clear hyb hly hri hp1 HN0
  go_wp2_with fail
  refine (bfixed_any _).mono ?_
  rintro e w2 ⟨rfl, hb2⟩
  have A2 := Lib.hid (A1.up hb2)
  have hq2 := below_chain hq1 hq1.size hb2
  clear A1 hb2
  go_wp2_with fail
  go_loopw [31] (fun i W => ∃ (j : Nat) (R : List Pr), j ≤ n ∧ i = .int .i64 (j : Int) ∧ Acc w1 ⟨yb, ym, 0, yf⟩ R (2 * j) W ∧ Hid (Books R) ∧ Below w.heap.size w W)
    (fun i _ => n - (intOf i).toNat)
  case atStart => exact ⟨0, [], Nat.zero_le _, rfl, A2.out, Lib.hid Books.nil, hq2⟩
  case round =>
    rename World => W
    obtain ⟨j, R, hjn, rfl, hA, HBK, hb⟩ := hrel
    clear A2 hq2
    by_cases hlt : j < n
    · have hjl : j < ops.length := by have := HN.out; omega
      obtain ⟨g, o, rfl, hgl, hcell⟩ := HP.out (by omega)
      have hfo := HF.out _ (List.getElem_mem hjl)
      have hck := hcell j hjl
      generalize ops[j] = op at *
      obtain ⟨ok, oa, oc, od, ox⟩ := op
      obtain ⟨f1, f2, f3, f4⟩ := hfo
      dsimp only at f1 f2 f3 f4
      have hcc : ∀ i u, i < 8 → (BOp.mk ok oa oc od ox).cells[i]? = some u → W.cell? ⟨g, o + j * 8 + i, none⟩ = some u := fun i u hi e =>
        (hb.cell (p := ⟨g, o + j * 8 + i, none⟩) hgl).trans ((hck i hi).trans e)
      have e0 : W.cell? ⟨g, o + j * 8, none⟩ = some (.int .i64 ok) := hcc 0 _ (by omega) rfl
      have e1 := hcc 1 _ (by omega) rfl
      have e2 := hcc 2 _ (by omega) rfl
      have e3 := hcc 3 _ (by omega) rfl
      have e4 := hcc 4 _ (by omega) rfl
      have e5 := hcc 5 _ (by omega) rfl
      have e6 := hcc 6 _ (by omega) rfl
      have e7 := hcc 7 _ (by omega) rfl
      have i1 : (0 : Int) ≤ (j : Int) := by omega
      have i2 : (j : Int) < (n : Int) := by omega
      have hb4 : Below W.heap.size W (W.alloc (.cells #[.int .i64 ok, .string oa, .string oc, .string od, .int .u64 (ox.a : Int), .int .u64 (ox.b : Int), .int .u64 (ox.c : Int), .int .u64 (ox.d : Int)] 32)) := (Below.refl _ _).alloc (Nat.le_refl _) _
      have HZ := Lib.hid (box_op W ok oa oc od ox 32)
      have z := HZ.out _ (Kept.refl _)
      obtain ⟨z0, z1, z2, z3, z4, z5, z6, z7⟩ := z
      have hA1 := hA.up hb4
      have hb5 := below_chain hb hb.size hb4
      have HR1 := Lib.hid (hA1.root (show 0 + 2 * j ≤ 1000000000 by omega) fr ((hb5.block _ (blk_lt HKW.out)).trans HKW.out))
      have HKT := Lib.hid ((hb5.block _ (blk_lt HKW.out)).trans HKW.out)
      obtain ⟨SR, hSR⟩ : ∃ SR : ByteArray, SR = ⟨(rootM R).1.toArray⟩ := ⟨_, rfl⟩
      have HCS : Hid (∀ (Z : World) (v : Value), Rd Z Z.heap.size v (rootM R).1 → (convert 33 9 v).run Tryz.prog Z = .ok (.string SR) Z) := Lib.hid fun Z v h => by rw [hSR]; exact run_str Tryz.underlying33 Tryz.underlying5 Tryz.isString h
      clear hSR hcell hck hcc hgl hA hb hb4
      go_wp2_with fail
      refine HR1.out.mono ?_
      rintro e w3 ⟨v3, rfl, ho3, hb3⟩
      have A3 := hA1.up hb3
      have hk3 := Kept.of_below hb3
      have HK := Lib.hid (fun (Z : World) (hz : Kept w3 Z) => (hk3.trans hz).block HKT.out)
      have hr3 := ho3.rd
      have HV3 : Hid (∀ Z, Kept w3 Z → (convert 33 9 v3).run Tryz.prog Z = .ok (.string SR) Z) := Lib.hid fun Z hz => HCS.out Z v3 (hz.rd hr3)
      obtain ⟨A3', c3, hv3⟩ := ho3.form
      obtain ⟨rlen, hrl⟩ : ∃ rlen, rlen = (rootM R).1.length := ⟨_, rfl⟩
      rw [← hrl] at hv3
      subst hv3
      have z := HZ.out _ hk3
      clear z0 z1 z2 z3 z4 z5 z6 z7
      obtain ⟨z0, z1, z2, z3, z4, z5, z6, z7⟩ := z
      clear HR1 hA1 hb3 hk3 ho3 hr3 hrl hb5 HKT HZ e0 e1 e2 e3 e4 e5 e6 e7
      by_cases k1 : ok = 1
      · subst k1
        have HC := Lib.hid (A3.mint (show 0 + 2 * j + 2 ≤ maxLen by unfold maxLen; omega) oa od ox f1 f2 f4)
        unfold U4.val U4.cells at HC
        clear A3
        go_wp2_with fail
        refine HC.out.mono ?_
        rintro e w4 ⟨rfl, A4, hk4⟩
        clear HC z0 z1 z2 z3 z4 z5 z6 z7
        obtain ⟨E, hE⟩ : ∃ E, E = (mintM R oa od ox).1 := ⟨_, rfl⟩
        rw [← hE]
        have HE : Hid (E ≠ 0 → (mintM R oa od ox).2 = R) := Lib.hid (by rw [hE]; exact fun h => change_no (u := 10) (by decide) h)
        have HBK2 : Hid (Books (mintM R oa od ox).2) := Lib.hid HBK.out.mint
        generalize (mintM R oa od ox).2 = R2 at *
        clear hE
        have hA4 := A4.below (B := w.heap.size) hym hW1
        have hq4 := hq1.trans hA4
        have HV4 := Lib.hid (fun (Z : World) (hz : Kept w4 Z) => HV3.out Z (hk4.trans hz))
        by_cases e0 : E = 0
        · subst e0
          clear HV3 HV4 HE hk4
          go_wp2_with fail
          go_quiet (fail)
          go_wp2_with fail
          exact ⟨⟨j + 1, R2, by omega, by go_num, (A4.up (below_drewN' (Below.refl _ _) _)).more (by omega), HBK2, below_drewN' hq4 _⟩, by simp [intOf]; omega⟩
        · have hne : (E != 0) = true := by simpa using e0
          have hRR : R2 = R := HE.out e0
          have A4d := A4.up (Below.drew (Below.refl _ _))
          have HR4 := Lib.hid (A4d.root (show 0 + (2 * j + 2) ≤ 1000000000 by omega) fr ((HK.out _ hk4).trans rfl))
          rw [hRR] at HR4
          have hkd : Kept w4 w4.drew := Kept.drew _
          clear HE A4d
          go_wp2_with fail
          go_region_held_law (fun Z => (convert 33 9 (.slice A3' rlen c3)).run Tryz.prog Z = .ok (.string SR) Z)
            (with_reducible first | exact HV4.out _ hk6 | exact HV4.out _ hkd)
            ((go_at_call 6; (refine HR4.out.mono ?_; rintro e w6 ⟨v6, rfl, ho6, hb6⟩; have hk6 := hkd.trans (Kept.of_below hb6); have q6 := HCS.out w6 v6 ho6.rd; obtain ⟨A6, c6, hv6⟩ := ho6.form; subst hv6)))
          all_goals
            have hb46 := below_chain (Below.drew (Below.refl w4.heap.size w4)) (Nat.le_refl _) hb6
            go_wp2_with fail
            exact ⟨⟨j + 1, R2, by omega, by go_num, (A4.up hb46).more (by omega), HBK2, below_chain hq4 (Nat.le_trans hW1 hA4.size) hb46⟩, by simp [intOf]; omega⟩
      · by_cases k2 : ok = 2
        · subst k2
          have HC := Lib.hid (A3.burn (show 0 + 2 * j + 2 ≤ maxLen by unfold maxLen; omega) oa od ox f1 f2 f4)
          unfold U4.val U4.cells at HC
          clear A3
          go_wp2_with fail
          refine HC.out.mono ?_
          rintro e w4 ⟨rfl, A4, hk4⟩
          clear HC z0 z1 z2 z3 z4 z5 z6 z7
          obtain ⟨E, hE⟩ : ∃ E, E = (burnM R oa od ox).1 := ⟨_, rfl⟩
          rw [← hE]
          have HE : Hid (E ≠ 0 → (burnM R oa od ox).2 = R) := Lib.hid (by rw [hE]; exact fun h => change_no (u := 71) (by decide) h)
          have HBK2 : Hid (Books (burnM R oa od ox).2) := Lib.hid HBK.out.burn
          generalize (burnM R oa od ox).2 = R2 at *
          clear hE
          have hA4 := A4.below (B := w.heap.size) hym hW1
          have hq4 := hq1.trans hA4
          have HV4 := Lib.hid (fun (Z : World) (hz : Kept w4 Z) => HV3.out Z (hk4.trans hz))
          by_cases e0 : E = 0
          · subst e0
            clear HV3 HV4 HE hk4
            go_wp2_with fail
            go_quiet (fail)
            go_wp2_with fail
            exact ⟨⟨j + 1, R2, by omega, by go_num, (A4.up (below_drewN' (Below.refl _ _) _)).more (by omega), HBK2, below_drewN' hq4 _⟩, by simp [intOf]; omega⟩
          · have hne : (E != 0) = true := by simpa using e0
            have hRR : R2 = R := HE.out e0
            have A4d := A4.up (Below.drew (Below.refl _ _))
            have HR4 := Lib.hid (A4d.root (show 0 + (2 * j + 2) ≤ 1000000000 by omega) fr ((HK.out _ hk4).trans rfl))
            rw [hRR] at HR4
            have hkd : Kept w4 w4.drew := Kept.drew _
            clear HE A4d
            go_wp2_with fail
            go_region_held_law (fun Z => (convert 33 9 (.slice A3' rlen c3)).run Tryz.prog Z = .ok (.string SR) Z)
              (with_reducible first | exact HV4.out _ hk6 | exact HV4.out _ hkd)
              ((go_at_call 6; (refine HR4.out.mono ?_; rintro e w6 ⟨v6, rfl, ho6, hb6⟩; have hk6 := hkd.trans (Kept.of_below hb6); have q6 := HCS.out w6 v6 ho6.rd; obtain ⟨A6, c6, hv6⟩ := ho6.form; subst hv6)))
            all_goals
              have hb46 := below_chain (Below.drew (Below.refl w4.heap.size w4)) (Nat.le_refl _) hb6
              go_wp2_with fail
              exact ⟨⟨j + 1, R2, by omega, by go_num, (A4.up hb46).more (by omega), HBK2, below_chain hq4 (Nat.le_trans hW1 hA4.size) hb46⟩, by simp [intOf]; omega⟩
        · by_cases k3 : ok = 3
          · subst k3
            have HC := Lib.hid (A3.send (show 0 + 2 * j + 2 ≤ maxLen by unfold maxLen; omega) oa oc od ox f1 f2 f3 f4)
            unfold U4.val U4.cells at HC
            clear A3
            go_wp2_with fail
            refine HC.out.mono ?_
            rintro e w4 ⟨rfl, A4, hk4⟩
            clear HC z0 z1 z2 z3 z4 z5 z6 z7
            obtain ⟨E, hE⟩ : ∃ E, E = (sendM R oa oc od ox).1 := ⟨_, rfl⟩
            rw [← hE]
            have HE : Hid (E ≠ 0 → (sendM R oa oc od ox).2 = R) := Lib.hid (by rw [hE]; exact fun h => send_no h)
            have HBK2 : Hid (Books (sendM R oa oc od ox).2) := Lib.hid HBK.out.send
            generalize (sendM R oa oc od ox).2 = R2 at *
            clear hE
            have hA4 := A4.below (B := w.heap.size) hym hW1
            have hq4 := hq1.trans hA4
            have HV4 := Lib.hid (fun (Z : World) (hz : Kept w4 Z) => HV3.out Z (hk4.trans hz))
            by_cases e0 : E = 0
            · subst e0
              clear HV3 HV4 HE hk4
              go_wp2_with fail
              go_quiet (fail)
              go_wp2_with fail
              exact ⟨⟨j + 1, R2, by omega, by go_num, (A4.up (below_drewN' (Below.refl _ _) _)).more (by omega), HBK2, below_drewN' hq4 _⟩, by simp [intOf]; omega⟩
            · have hne : (E != 0) = true := by simpa using e0
              have hRR : R2 = R := HE.out e0
              have A4d := A4.up (Below.drew (Below.refl _ _))
              have HR4 := Lib.hid (A4d.root (show 0 + (2 * j + 2) ≤ 1000000000 by omega) fr ((HK.out _ hk4).trans rfl))
              rw [hRR] at HR4
              have hkd : Kept w4 w4.drew := Kept.drew _
              clear HE A4d
              go_wp2_with fail
              go_region_held_law (fun Z => (convert 33 9 (.slice A3' rlen c3)).run Tryz.prog Z = .ok (.string SR) Z)
                (with_reducible first | exact HV4.out _ hk6 | exact HV4.out _ hkd)
                ((go_at_call 6; (refine HR4.out.mono ?_; rintro e w6 ⟨v6, rfl, ho6, hb6⟩; have hk6 := hkd.trans (Kept.of_below hb6); have q6 := HCS.out w6 v6 ho6.rd; obtain ⟨A6, c6, hv6⟩ := ho6.form; subst hv6)))
              all_goals
                have hb46 := below_chain (Below.drew (Below.refl w4.heap.size w4)) (Nat.le_refl _) hb6
                go_wp2_with fail
                exact ⟨⟨j + 1, R2, by omega, by go_num, (A4.up hb46).more (by omega), HBK2, below_chain hq4 (Nat.le_trans hW1 hA4.size) hb46⟩, by simp [intOf]; omega⟩
          · have k1' : (ok == 1) = false := by simpa using k1
            have k2' : (ok == 2) = false := by simpa using k2
            have k3' : (ok == 3) = false := by simpa using k3
            clear k1 k2 k3
            have A4 := A3.more (show 2 * j ≤ 2 * j + 2 by omega)
            have hA4 := A4.below (B := w.heap.size) hym hW1
            have hq4 := hq1.trans hA4
            have hkd : Kept w3 w3.drew := Kept.drew _
            have HR4 := Lib.hid ((A4.up (Below.drew (Below.refl _ _))).root (show 0 + (2 * j + 2) ≤ 1000000000 by omega) fr (HK.out _ hkd))
            clear z1 z2 z3 z4 z5 z6 z7 A3
            go_wp2_with fail
            go_region_held_law (fun Z => (convert 33 9 (.slice A3' rlen c3)).run Tryz.prog Z = .ok (.string SR) Z)
              (with_reducible first | exact HV3.out _ hk6 | exact HV3.out _ hkd)
              ((go_at_call 6; (refine HR4.out.mono ?_; rintro e w6 ⟨v6, rfl, ho6, hb6⟩; have hk6 := hkd.trans (Kept.of_below hb6); have q6 := HCS.out w6 v6 ho6.rd; obtain ⟨A6, c6, hv6⟩ := ho6.form; subst hv6)))
            all_goals
              have hb46 := below_chain (Below.drew (Below.refl w3.heap.size w3)) (Nat.le_refl _) hb6
              go_wp2_with fail
              exact ⟨⟨j + 1, R, by omega, by go_num, (A4.up hb46).more (by omega), HBK, below_chain hq4 (Nat.le_trans hW1 hA4.size) hb46⟩, by simp [intOf]; omega⟩
    · have i2 : ¬ (j : Int) < (n : Int) := by omega
      have HPS := Lib.hid (hA.pairs (show 0 + 2 * j ≤ 1000000000 by omega) ⟨#[115, 117, 112, 47]⟩ (by decide +kernel))
      have HAK := Lib.hid hA
      clear hA
      go_wp2_with fail
      refine HPS.out.mono ?_
      rintro e w3 ⟨v3, rfl, ho3, hb3⟩
      have hr3 := ho3.rdP
      have A3 := Lib.hid (HAK.out.up hb3)
      have hq3 := below_chain hb hb.size hb3
      obtain ⟨L, hL⟩ : ∃ L, L = R.filter (fun p => begB supP p.1) := ⟨_, rfl⟩
      have hL' : R.filter (fun p => begB ⟨#[115, 117, 112, 47]⟩ p.1) = L := hL.symm
      rw [hL'] at hr3 ho3
      obtain ⟨As, cs, hv3, hcs1, hcs2, hps⟩ := hr3
      unfold maxLen at hcs2
      obtain ⟨m, hm⟩ : ∃ m, m = L.length := ⟨_, rfl⟩
      rw [← hm] at hv3 hcs1
      subst hv3
      have HM := Lib.hid (And.intro hm hL)
      have HROW := Lib.hid hps
      have hq3' := Lib.hid hq3
      clear hm hps ho3 hb3 hL hL' HPS HAK hb
      go_wp2_with fail
      go_loopw [85] (fun i Z => ∃ q : Nat, q ≤ m ∧ i = .int .i64 (q : Int) ∧ Below w3.heap.size w3 Z)
        (fun i _ => m - (intOf i).toNat)
      case atStart => exact ⟨0, Nat.zero_le _, rfl, Below.refl _ _⟩
      case round =>
        rename World => V
        obtain ⟨q, hqm, rfl, hbV⟩ := hrel
        by_cases hltq : q < m
        · have hql : q < L.length := by have := HM.out.1; omega
          obtain ⟨g, o, rfl, hgl, hcell⟩ := HROW.out (by omega)
          obtain ⟨q1, x, q2, q3⟩ := hcell q hql
          have hmem : L[q] ∈ R.filter (fun p => begB supP p.1) := by rw [← HM.out.2]; exact List.getElem_mem hql
          obtain ⟨X, hX, hkey, hXR⟩ := HBK.out.sup_row hmem
          have hpos := HBK.out.pos hXR hkey hX
          have a1 := (hbV.cell (p := ⟨g, o + q * 2, none⟩) hgl).trans q1
          have a2 := (hbV.cell (p := ⟨g, o + q * 2 + 1, none⟩) hgl).trans q2
          obtain ⟨Ax, cx, rfl⟩ := q3.form
          rw [hkey] at a1
          generalize L[q].2.length = xl at *
          have i3 : (0 : Int) ≤ (q : Int) := by omega
          have i4 : (q : Int) < (m : Int) := by omega
          have hsl := sup_cut X
          have hXs : X.size ≤ 160 := by
            have h2 := denom_len hX
            rw [← Lib.size_eq] at h2
            exact h2
          have hks : (kSup X).size = 4 + X.size := by
            rw [Lib.size_eq, kSup_list, List.length_append, ← Lib.size_eq]; rfl
          have i5 : (4 : Int) ≤ ((kSup X).size : Int) := by omega
          have HX := Lib.hid (And.intro hX (And.intro hpos hXs))
          have hbW1 : Below V.heap.size V (V.alloc (.cells #[.string (kSup X), .slice Ax xl cx] 40)) := (Below.refl _ _).alloc (Nat.le_refl _) _
          have hgz := heap_alloc_new V (.cells #[.string (kSup X), .slice Ax xl cx] 40)
          have d0 : (V.alloc (.cells #[.string (kSup X), .slice Ax xl cx] 40)).cell? ⟨V.heap.size, 0, none⟩ = some (.string (kSup X)) := blk_cell hgz 0
          have hbV1 := below_chain hbV hbV.size hbW1
          clear hcell q1 q2 q3 hmem hkey hXR hpos hX hgz hks hXs hbW1
          generalize hkX : kSup X = kx at *
          have HKX := Lib.hid hkX
          clear hkX
          go_wp2_with fail
          obtain ⟨V1, hV1⟩ : ∃ V1, V1 = V.alloc (.cells #[.string kx, .slice Ax xl cx] 40) := ⟨_, rfl⟩
          have hs1 : V1.heap.size = V.heap.size + 1 := by rw [hV1]; simp
          rw [← hV1] at hbV1 ⊢
          rw [← hs1]
          clear hV1 hs1 d0 a1 a2 hsl i5 hbV
          have hbV2 : Below V1.heap.size V1 (V1.alloc (.cells #[.int .u64 0, .int .u64 0, .int .u64 0, .int .u64 0] 30)) := (Below.refl _ _).alloc (Nat.le_refl _) _
          have hU := LBlk.new V1 U4.zero.cells
          have hUl : V1.heap.size < (V1.alloc (.cells #[.int .u64 0, .int .u64 0, .int .u64 0, .int .u64 0] 30)).heap.size := by simp
          have HPB := Lib.hid ((A3.out.up (below_chain hbV1 hbV1.size hbV2)).pairs (show 0 + 2 * j ≤ 1000000000 by omega) ⟨#[98, 97, 108, 47]⟩ (by decide +kernel))
          obtain ⟨L2, hL2⟩ : ∃ L2, L2 = R.filter (fun p => begB balP p.1) := ⟨_, rfl⟩
          have hL2' : R.filter (fun p => begB ⟨#[98, 97, 108, 47]⟩ p.1) = L2 := hL2.symm
          rw [hL2'] at HPB
          refine HPB.out.mono ?_
          rintro e w5 ⟨v5, rfl, ho5, hb5⟩
          have hU5 : LBlk w5 V1.heap.size U4.zero.cells := LBlk.below hU hb5 hUl
          have hb51 := below_chain hbV2 hbV2.size hb5
          obtain ⟨Ab, cb, hv5, hcb1, hcb2, hrow⟩ := rows_chgU ho5.rdP hU5
          unfold maxLen at hcb2
          obtain ⟨mb, hmb⟩ : ∃ mb, mb = L2.length := ⟨_, rfl⟩
          rw [← hmb] at hv5 hcb1
          subst hv5
          have HMB := Lib.hid (And.intro hmb hL2)
          have HRW := Lib.hid hrow
          have HU5 := Lib.hid (And.intro hU5 hb51)
          clear hmb hL2 hL2' hrow ho5 hb5 hU hUl hbV2 HPB hU5 hb51
          generalize hgs : V1.heap.size = gs at *
          have HGS := Lib.hid hgs
          clear hgs
          go_wp2_with fail
          go_loopw [96] (fun i Z => ∃ (r : Nat) (S : U4), r ≤ mb ∧ i = .int .i64 (r : Int) ∧ Chg w5 Z (fun k => k = gs) ∧ LBlk Z gs S.cells ∧ S.ok ∧ Hid (S.nat = partK X R r) ∧ Below gs V1 Z)
            (fun i _ => mb - (intOf i).toNat)
          case atStart => exact ⟨0, U4.zero, Nat.zero_le _, rfl, Chg.refl _ _, HU5.out.1, zero_ok, Lib.hid rfl, HU5.out.2⟩
          case round =>
            rename World => Z
            obtain ⟨r, S, hrm, rfl, hch, hUS, hSo, HSN, hbZ⟩ := hrel
            by_cases hltr : r < mb
            · have hrl : r < L2.length := by have := HMB.out.1; omega
              obtain ⟨b2, o2, hA2, hcl⟩ := HRW.out r hrl
              subst hA2
              obtain ⟨q1, x2, q2, q3⟩ := hcl Z hch
              have hmem : L2[r] ∈ R.filter (fun p => begB balP p.1) := by rw [← HMB.out.2]; exact List.getElem_mem hrl
              obtain ⟨a, d, ha, hd, hkey⟩ := HBK.out.bal_row hmem
              have HPN : Hid (partK X R (r + 1) = partK X R r + (if decide (d = X) = true then (fromU L2[r].2).1.nat else 0)) := Lib.hid (by
                have h1 := part_next (X := X) (R := R) (j := r) (by rw [← HMB.out.2]; exact hrl)
                have h2 : (R.filter (fun p => begB balP p.1))[r]'(by rw [← HMB.out.2]; exact hrl) = L2[r] := by congr 1; exact HMB.out.2.symm
                rw [h2, hkey, isB_bal ha] at h1
                exact h1)
              have HPL := Lib.hid (HBK.out.part_le HX.out.1 (r + 1))
              rw [hkey] at q1
              obtain ⟨l, hl⟩ : ∃ l, l = L2[r].2 := ⟨_, rfl⟩
              rw [← hl] at q3 HPN
              obtain ⟨Ax2, cx2, rfl⟩ := q3.form
              have hks : (kBal a d).size ≤ 9223372036854775807 := by
                have h1 := kBal_fits ha hd
                simp only [keyB, Bool.and_eq_true, decide_eq_true_eq] at h1
                omega
              have htest := test_bal ha hd HX.out.1
              have i7 : (0 : Int) ≤ (r : Int) := by omega
              have i8 : (r : Int) < (mb : Int) := by omega
              have hXs := HX.out.2.2
              have hadd : ∀ W, (Op.stringOp .add ⟨#[47]⟩ X).run Tryz.prog W = .ok (.string (slB ++ X)) W := fun W => txt_add slB X (by show 1 + X.size ≤ _; omega) W
              have hsX : (slB ++ X).size = X.size + 1 := by rw [ByteArray.size_append]; show 1 + X.size = _; omega
              generalize kBal a d = key at *
              have HEN := Lib.hid (fun W => ends_any key (slB ++ X) W (by unfold maxLen; exact hks) (by unfold maxLen; omega))
              have hbA : Below Z.heap.size Z (Z.alloc (.cells #[.string key, .slice Ax2 l.length cx2] 40)) := (Below.refl _ _).alloc (Nat.le_refl _) _
              have hgz2 := heap_alloc_new Z (.cells #[.string key, .slice Ax2 l.length cx2] 40)
              have y0 : (Z.alloc (.cells #[.string key, .slice Ax2 l.length cx2] 40)).cell? ⟨Z.heap.size, 0, none⟩ = some (.string key) := blk_cell hgz2 0
              have y1 : (Z.alloc (.cells #[.string key, .slice Ax2 l.length cx2] 40)).cell? ⟨Z.heap.size, 1, none⟩ = some (.slice Ax2 l.length cx2) := blk_cell hgz2 1
              have hr2 := (q3.below hbA).more hbA.size
              have hUA := LBlk.alloc hUS (.cells #[.string key, .slice Ax2 l.length cx2] 40)
              have hchA := hch.trans' (Chg.of_below hbA (fun k => k = gs))
              have hgZ : gs ≤ Z.heap.size := by have := hUS.lt; omega
              have hbZA := hbZ.alloc hgZ (.cells #[.string key, .slice Ax2 l.length cx2] 40)
              have HK2 := Lib.hid (And.intro hUA (And.intro hchA (And.intro hbZA (And.intro hr2 hgZ))))
              clear hcl hmem hkey hl hUA hchA hbZA hr2 hgz2 hbA hUS hch hbZ q3 ha hd hgZ
              generalize slB ++ X = sx at *
              rcases htest with ⟨t1, t2⟩ | ⟨t1, t2, t3, t4⟩
              · rw [t1] at HEN
                rw [t2] at HPN
                clear t1 t2
                go_wp2_with fail
                refine (HEN.out _).mono ?_
                rintro e w6 ⟨rfl, rfl⟩
                go_wp2_with fail
                exact ⟨⟨r + 1, S, by omega, by go_num, HK2.out.2.1, HK2.out.1, hSo, Lib.hid (by rw [HPN.out, HSN.out]; simp), HK2.out.2.2.1⟩, by simp [intOf]; omega⟩
              · rw [t1] at HEN
                obtain ⟨m1, hm1⟩ : ∃ m1, m1 = key.size - X.size - 1 := ⟨_, rfl⟩
                obtain ⟨m0, hm0⟩ : ∃ m0, m0 = key.size - X.size := ⟨_, rfl⟩
                rw [← hm1] at t2 t4
                have k1 : IntKind.i64.wrap ((key.size : Int) - (X.size : Int)) = (m0 : Int) := by rw [IntKind.wrap_i64]; omega
                have k2 : IntKind.i64.wrap ((m0 : Int) - 1) = (m1 : Int) := by rw [IntKind.wrap_i64]; omega
                have k3 : (4 : Int) ≤ (m1 : Int) := by omega
                have k4 : (m1 : Int) ≤ (key.size : Int) := by omega
                have k5 : (0 : Int) ≤ (m1 : Int) := by omega
                have HON := Lib.hid (fun W => one_any (key.extract 4 m1) W (by rw [ByteArray.size_extract]; unfold maxLen; omega))
                rw [t4] at HON
                clear t1 t2 t3 t4 hm1 hm0
                by_cases hdX : d = X
                · have hde : decide (d = X) = true := by simp [hdX]
                  rw [hde] at HON HPN
                  clear hde hdX
                  rw [if_pos rfl] at HPN
                  have HFR := Lib.hid (rfrom_any (.slice Ax2 l.length cx2) l _ HK2.out.2.2.2.1)
                  obtain ⟨E, hE⟩ : ∃ E : Int, E = (fromU l).2 := ⟨_, rfl⟩
                  obtain ⟨Y, hY⟩ : ∃ Y : U4, Y = (fromU l).1 := ⟨_, rfl⟩
                  have hYo : Y.ok := by rw [hY]; exact fromU_ok _
                  rw [← hE, ← hY] at HFR
                  rw [← hY] at HPN
                  have HADD := Lib.hid (fun W => radd_any S Y W hSo hYo)
                  have hfit : (addU S Y).2 = true := addU_fits (by
                    have h1 := HPL.out
                    have h2 := HPN.out
                    have h3 := HSN.out
                    have h4 := nat_lt (supM_ok R X)
                    have h5 : top = 2 ^ 256 := by decide
                    omega)
                  have HS2 := Lib.hid (addU_yes hfit)
                  rw [hfit] at HADD
                  have hUS2 := HK2.out.1
                  generalize (addU S Y).1 = S2 at *
                  clear hE hY hfit
                  unfold U4.val U4.cells at HFR HADD
                  go_wp2_with fail
                  refine (HEN.out _).mono ?_
                  rintro e w6 ⟨rfl, rfl⟩
                  go_wp2_with fail
                  refine (HON.out _).mono ?_
                  rintro e w6 ⟨rfl, rfl⟩
                  go_wp2_with fail
                  refine HFR.out.mono ?_
                  rintro e w7 ⟨rfl, hb7⟩
                  have hgA := Nat.lt_of_lt_of_le hUS2.lt (Nat.le_refl _)
                  have hU7 := LBlk.below hUS2 hb7 hUS2.lt
                  have hU8 := LBlk.alloc hU7 (.cells Y.cells 30)
                  have hY8 := LBlk.new w7 Y.cells
                  have hb8 : Below w7.heap.size w7 (w7.alloc (.cells Y.cells 30)) := (Below.refl _ _).alloc (Nat.le_refl _) _
                  have hb78 := below_chain hb7 hb7.size hb8
                  obtain ⟨s0, s1, s2, s3⟩ := LBlk.all (s := S) hU8
                  obtain ⟨p0, p1, p2, p3⟩ := LBlk.all (s := Y) hY8
                  unfold U4.cells at s0 s1 s2 s3 p0 p1 p2 p3 hb78 hU8 hb8
                  clear y0 y1 hb7 hU7 hY8 hUS2
                  go_wp2_with fail
                  generalize w7.alloc (.cells #[.int .u64 (Y.a : Int), .int .u64 (Y.b : Int), .int .u64 (Y.c : Int), .int .u64 (Y.d : Int)] 30) = w8 at *
                  clear s0 s1 s2 s3 p0 p1 p2 p3 hb8
                  refine (HADD.out _).mono ?_
                  rintro e w9 ⟨rfl, hb9⟩
                  have hU9 := LBlk.below (cs := S.cells) hU8 hb9 (blk_lt hU8)
                  have hU10 := LBlk.alloc hU9 (.cells S2.cells 30)
                  have hM10 := LBlk.new w9 S2.cells
                  have hb10 : Below w9.heap.size w9 (w9.alloc (.cells S2.cells 30)) := (Below.refl _ _).alloc (Nat.le_refl _) _
                  have hb910 := below_chain (below_chain hb78 hb78.size hb9) (Nat.le_trans hb78.size hb9.size) hb10
                  obtain ⟨s0, s1, s2, s3⟩ := LBlk.all (s := S) hU10
                  obtain ⟨p0, p1, p2, p3⟩ := LBlk.all (s := S2) hM10
                  have f0 := blk_free hU10 0
                  have f1 := blk_free hU10 1
                  have f2 := blk_free hU10 2
                  have f3 := blk_free hU10 3
                  have hU11 := LBlk.set4 (s := S) hU10 S2
                  unfold U4.cells at s0 s1 s2 s3 p0 p1 p2 p3 f0 f1 f2 f3 hb910 hU11
                  clear hU9 hU10 hM10 hb10 hb9 hU8 hb78
                  go_wp2_with fail
                  generalize w9.alloc (.cells #[.int .u64 (S2.a : Int), .int .u64 (S2.b : Int), .int .u64 (S2.c : Int), .int .u64 (S2.d : Int)] 30) = w10 at *
                  have hch10 : Chg w5 w10 (fun k => k = gs) := HK2.out.2.1.trans' (Chg.of_below hb910 _)
                  have hch11 := (((hch10.trans' (Chg.set w10 (p := ⟨gs, 0, none⟩) (F := fun k => k = gs) rfl (.int .u64 (S2.a : Int)))).trans' (Chg.set _ (p := ⟨gs, 1, none⟩) (F := fun k => k = gs) rfl (.int .u64 (S2.b : Int)))).trans' (Chg.set _ (p := ⟨gs, 2, none⟩) (F := fun k => k = gs) rfl (.int .u64 (S2.c : Int)))).trans' (Chg.set _ (p := ⟨gs, 3, none⟩) (F := fun k => k = gs) rfl (.int .u64 (S2.d : Int)))
                  have hgs10 : gs ≤ (Z.alloc (.cells #[.string key, .slice Ax2 l.length cx2] 40)).heap.size := Nat.le_trans HK2.out.2.2.2.2 (by simp)
                  have hb11 := Below.set4U (below_chain' HK2.out.2.2.1 hgs10 hb910) (Nat.le_refl gs) (.int .u64 (S2.a : Int)) (.int .u64 (S2.b : Int)) (.int .u64 (S2.c : Int)) (.int .u64 (S2.d : Int))
                  exact ⟨⟨r + 1, S2, by omega, by go_num, hch11, hU11, HS2.out.2, Lib.hid (by rw [HPN.out, ← HSN.out]; exact HS2.out.1), hb11⟩, by simp [intOf]; omega⟩
                · have hde : decide (d = X) = false := by simp [hdX]
                  rw [hde] at HON HPN
                  clear hde hdX
                  go_wp2_with fail
                  refine (HEN.out _).mono ?_
                  rintro e w6 ⟨rfl, rfl⟩
                  go_wp2_with fail
                  refine (HON.out _).mono ?_
                  rintro e w6 ⟨rfl, rfl⟩
                  go_wp2_with fail
                  exact ⟨⟨r + 1, S, by omega, by go_num, HK2.out.2.1, HK2.out.1, hSo, Lib.hid (by rw [HPN.out, HSN.out]; simp), HK2.out.2.2.1⟩, by simp [intOf]; omega⟩
            · have i7 : ¬ (r : Int) < (mb : Int) := by omega
              obtain rfl : r = mb := by omega
              have hSS : S = supM R X := by
                have h1 := HBK.out.part_all HX.out.1
                rw [← HMB.out.2, ← HMB.out.1, ← HSN.out] at h1
                rw [← ofN_nat hSo, ← ofN_nat (supM_ok R X), h1]
              subst hSS
              have hbZ1 : Below V1.heap.size V1 Z := by rw [HGS.out]; exact hbZ
              have hb3Z := below_chain hbV1 hbV1.size hbZ1
              have AZ := A3.out.up hb3Z
              have HSP := Lib.hid ((AZ.up (Below.drew (Below.refl _ _))).sup X (by have := HX.out.2.2; omega))
              have n1 := fun W => neq4 (supM R X) (supM R X) W
              have n2 : ∀ W, (binOp .eql 30 (.agg (supM R X).cells) (.agg #[.int .u64 0, .int .u64 0, .int .u64 0, .int .u64 0])).run Tryz.prog W = .ok (.bool false) W := fun W => by
                have h := eql4 (supM R X) U4.zero W
                rw [HX.out.2.1] at h
                exact h
              rw [eqB_refl] at n1
              have HUZ := Lib.hid (And.intro hUS hb3Z)
              have hzd : Below Z.heap.size Z Z.drew := Below.drew (Below.refl _ _)
              have HCL : Hid (∀ Z', Below Z.heap.size Z Z' → Z'.cell? ⟨gs, 0, none⟩ = some (.int .u64 ((supM R X).a : Int)) ∧ Z'.cell? ⟨gs, 1, none⟩ = some (.int .u64 ((supM R X).b : Int)) ∧ Z'.cell? ⟨gs, 2, none⟩ = some (.int .u64 ((supM R X).c : Int)) ∧ Z'.cell? ⟨gs, 3, none⟩ = some (.int .u64 ((supM R X).d : Int))) := Lib.hid fun Z' hz => LBlk.all (s := supM R X) (LBlk.below HUZ.out.1 hz HUZ.out.1.lt)
              clear hSo HSN hUS hch hbZ hbZ1 hb3Z AZ
              generalize supM R X = S at *
              unfold U4.val at HSP
              unfold U4.cells at HSP n1 n2
              simp only [Bool.not_true] at n1
              go_wp2_with fail
              go_region_held_law (fun Z' => Z'.cell? ⟨gs, 0, none⟩ = some (.int .u64 (S.a : Int)) ∧ Z'.cell? ⟨gs, 1, none⟩ = some (.int .u64 (S.b : Int)) ∧ Z'.cell? ⟨gs, 2, none⟩ = some (.int .u64 (S.c : Int)) ∧ Z'.cell? ⟨gs, 3, none⟩ = some (.int .u64 (S.d : Int)))
                (with_reducible first | exact HCL.out _ hz7 | exact HCL.out _ hzd)
                ((go_at_call 15; (refine HSP.out.mono ?_; rintro e w7 ⟨rfl, hb7⟩; have hz7 := below_chain hzd hzd.size hb7)))
              all_goals
                have hfin := below_chain HUZ.out.2 HUZ.out.2.size hz7
                go_wp2_with fail
                exact ⟨⟨q + 1, by omega, by go_num, hfin⟩, by simp [intOf]; omega⟩
        · have i3 : ¬ (q : Int) < (m : Int) := by omega
          have AV := A3.out.up hbV
          have hqV := below_chain hq3'.out hq3'.out.size hbV
          have HPS := Lib.hid (AV.pairs (show 0 + 2 * j ≤ 1000000000 by omega) ⟨#[115, 117, 112, 47]⟩ (by decide +kernel))
          have hLs : R.filter (fun p => begB ⟨#[115, 117, 112, 47]⟩ p.1) = L := HM.out.2.symm
          rw [hLs] at HPS
          have HAV := Lib.hid AV
          clear AV hLs
          go_wp2_with fail
          refine HPS.out.mono ?_
          rintro e w5 ⟨v5, rfl, ho5, hb5⟩
          obtain ⟨A5, c5, hv5⟩ : ∃ A c, v5 = .slice A m c := by rw [HM.out.1]; exact ho5.form
          subst hv5
          have hq5 := below_chain hqV hqV.size hb5
          have AV5 := HAV.out.up hb5
          clear ho5
          by_cases hm0 : m = 0
          · have hBe : R.filter (fun p => begB ⟨#[98, 97, 108, 47]⟩ p.1) = [] := HBK.out.none (by rw [← HM.out.2]; exact List.eq_nil_of_length_eq_zero (by have := HM.out.1; omega))
            have HPB := Lib.hid (AV5.pairs (show 0 + 2 * j ≤ 1000000000 by omega) ⟨#[98, 97, 108, 47]⟩ (by decide +kernel))
            rw [hBe] at HPB
            have i6 : ¬ (0 : Int) < (m : Int) := by omega
            clear AV5 hBe hm0
            go_wp2_with fail
            refine HPB.out.mono ?_
            rintro e w6 ⟨v6, rfl, ho6, hb6⟩
            obtain ⟨A6, c6, hv6⟩ : ∃ A c, v6 = .slice A 0 c := ho6.form
            subst hv6
            have hq6 := below_chain hq5 hq5.size hb6
            clear ho6
            go_wp2_with fail
            go_ret
            exact ⟨rfl, hq6⟩
          · have i6 : (0 : Int) < (m : Int) := by omega
            clear AV5 hm0
            go_wp2_with fail
            go_ret
            exact ⟨rfl, hq5⟩
end Go.Proofs.YtgiciaeaibonbaaGreatDoor
