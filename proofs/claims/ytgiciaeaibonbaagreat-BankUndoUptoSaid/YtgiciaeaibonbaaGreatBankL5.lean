
/- The walk of the law: what is minted can be burnt again. -/
import Derived.Test.YtgiciaeaibonbaaGreatBankP0
namespace Go.Proofs.YtgiciaeaibonbaaGreat
set_option maxRecDepth 100000
open Go Go.RowKit
set_option linter.unusedVariables false

set_option maxHeartbeats 8000000 in
theorem undo_law (w : World) (v : Value) (ops : List BOp) (hv : RdB w w.heap.size v ops) (hlen : ops.length ≤ 2000000) (hf : ∀ o ∈ ops, o.fine) (kd : Int) (a c d : ByteArray) (x : U4) (hx : x.ok) (ha : a.size ≤ 100000000) (hd : d.size ≤ 100000000) :
    Calls Tryz.prog 4 #[v, .agg #[.int .i64 kd, .string a, .string c, .string d, .int .u64 (x.a : Int), .int .u64 (x.b : Int), .int .u64 (x.c : Int), .int .u64 (x.d : Int)]] w fun e w' => e = .returned (.bool true) ∧ Below w.heap.size w w' := by
  have HOX := Lib.hid (fun W h => box_op w kd a c d x 36 W h)
  obtain ⟨C, hC⟩ : ∃ C, C = Obj.cells #[.int .i64 kd, .string a, .string c, .string d, .int .u64 (x.a : Int), .int .u64 (x.b : Int), .int .u64 (x.c : Int), .int .u64 (x.d : Int)] 36 := ⟨_, rfl⟩
  have ha0 : Below w.heap.size w (w.alloc C) := (Below.refl _ _).alloc (Nat.le_refl _) _
  rw [hC] at ha0
  clear hC
  obtain ⟨A, cp, rfl, hc1, hc2, hp⟩ := hv
  unfold maxLen at hc2
  obtain ⟨n, hnn⟩ : ∃ n, n = ops.length := ⟨_, rfl⟩
  rw [← hnn] at hc1 hlen ⊢
  have HN := Lib.hid hnn
  have HF := Lib.hid hf
  have HP := Lib.hid hp
  clear hnn hf hp
  have HN0 := Lib.hid (fun (W : World) => new_any W (.slice none 0 0) [] ⟨none, 0, rfl, Nat.le_refl _, Nat.zero_le _, fun h => absurd h (by simp)⟩ (by simp))
  have HN1 := Lib.hid (fun (W : World) => rnew_doc W (.slice none 0 0) [] ⟨none, 0, rfl, Nat.le_refl _, Nat.zero_le _, fun h => absurd h (by simp)⟩ (by simp) (by simp) (by simp))
  go_enter Tryz.func4, Tryz.ntmps4
  go_wp2_with fail
  generalize w.alloc (.cells #[.int .i64 kd, .string a, .string c, .string d, .int .u64 (x.a : Int), .int .u64 (x.b : Int), .int .u64 (x.c : Int), .int .u64 (x.d : Int)] 36) = W0 at *
  refine (HN0.out _).mono ?_
  rintro e w1 ⟨h1 | ⟨-, y, rfl, hyb, hym, hyn, hly, hri, hp1⟩, hb1⟩
  · exact absurd h1.1 (by decide)
  obtain ⟨yb, ym, yn, yf⟩ := y
  dsimp only at hyb hym hyn ⊢
  have hyn' : yn = 0 := hyn
  clear hyn
  subst hyn'
  have HY := Lib.hid (And.intro hp1 hly)
  clear hyb hly hri hp1 HN0
  go_wp2_with fail
  refine (HN1.out _).mono ?_
  rintro e w2 ⟨h2 | ⟨-, b, rfl, hbb, hds⟩, hb2⟩
  · exact absurd h2.1 (by decide)
  have hq2 := below_chain hb1 hb1.size hb2
  have T2 : Two W0.heap.size ⟨yb, ym, 0, yf⟩ b [] [] 0 w2 := ⟨⟨0, yf, HY.out.1.up hb2, seen_bot0 HY.out.2 (by unfold Rise; simp) (by simp), Nat.le_refl _⟩, hds, Nat.le_refl _, by simp, hym, Nat.le_trans hb1.size hbb, Nat.le_trans hb1.size hb2.size⟩
  clear hb1 hb2 hbb hds HY hym HN1
  go_wp2_with fail
  refine (bfixed_any _).mono ?_
  rintro e w3 ⟨rfl, hb3⟩
  have T3 := Lib.hid (T2.up hb3)
  have hq3 := below_chain hq2 hq2.size hb3
  clear T2 hq2 hb3
  go_wp2_with fail
  go_loopw [28] (fun i W => ∃ (j : Nat) (R : List Pr), j ≤ n ∧ i = .int .i64 (j : Int) ∧ Two W0.heap.size ⟨yb, ym, 0, yf⟩ b R R (4 * j) W ∧ Hid (CanonL R) ∧ Below W0.heap.size W0 W)
    (fun i _ => n - (intOf i).toNat)
  case atStart => exact ⟨0, [], Nat.zero_le _, rfl, T3.out, Lib.hid CanonL.nil, hq3⟩
  case round =>
    rename World => W
    obtain ⟨j, R, hjn, rfl, T, HC, hb⟩ := hrel
    clear T3 hq3
    by_cases hlt : j < n
    · have hjl : j < ops.length := by have := HN.out; omega
      obtain ⟨g, o, rfl, hgl, hcell⟩ := HP.out (by omega)
      have hfo := HF.out _ (List.getElem_mem hjl)
      have hck := hcell j hjl
      have hstep : ops[j].step R = stepM R ops[j].kd ops[j].a ops[j].c ops[j].d ops[j].x := rfl
      have HCS := Lib.hid (HC.out.step ops[j])
      have HST := Lib.hid hstep
      generalize ops[j] = op at *
      obtain ⟨ok, oa, oc, od, ox⟩ := op
      obtain ⟨f1, f2, f3, f4⟩ := hfo
      dsimp only at f1 f2 f3 f4 HST
      have hcc : ∀ i u, i < 8 → (BOp.mk ok oa oc od ox).cells[i]? = some u → W.cell? ⟨g, o + j * 8 + i, none⟩ = some u := fun i u hi e =>
        (hb.cell (p := ⟨g, o + j * 8 + i, none⟩) (Nat.lt_of_lt_of_le hgl ha0.size)).trans ((ha0.cell (p := ⟨g, o + j * 8 + i, none⟩) hgl).trans ((hck i hi).trans e))
      have e0 : W.cell? ⟨g, o + j * 8, none⟩ = some (.int .i64 ok) := hcc 0 _ (by omega) rfl
      have e1 := hcc 1 _ (by omega) rfl
      have e2 := hcc 2 _ (by omega) rfl
      have e3 := hcc 3 _ (by omega) rfl
      have e4 := hcc 4 _ (by omega) rfl
      have e5 := hcc 5 _ (by omega) rfl
      have e6 := hcc 6 _ (by omega) rfl
      have e7 := hcc 7 _ (by omega) rfl
      have i1 : (0 : Int) ≤ (j : Int) := by omega
      have i2 : (j : Int) < (n : Int) := by omega
      have hb4 : Below W.heap.size W (W.alloc (.cells #[.int .i64 ok, .string oa, .string oc, .string od, .int .u64 (ox.a : Int), .int .u64 (ox.b : Int), .int .u64 (ox.c : Int), .int .u64 (ox.d : Int)] 36)) := (Below.refl _ _).alloc (Nat.le_refl _) _
      have z := box_op W ok oa oc od ox 36 _ (Kept.refl _)
      obtain ⟨z0, z1, z2, z3, z4, z5, z6, z7⟩ := z
      have T4 := T.up hb4
      have HPL := Lib.hid (bplay_any T4 (show 0 + 4 * j + 4 ≤ 100000000 by omega) ok oa oc od ox f1 f2 f3 f4)
      have hb5 := below_chain hb hb.size hb4
      have HB5 : Hid (∀ Z, Chg (W.alloc (.cells #[.int .i64 ok, .string oa, .string oc, .string od, .int .u64 (ox.a : Int), .int .u64 (ox.b : Int), .int .u64 (ox.c : Int), .int .u64 (ox.d : Int)] 36)) Z (FT ⟨yb, ym, 0, yf⟩ b) → Below W0.heap.size W0 Z) := Lib.hid fun Z hz => hb5.trans (T4.below hz)
      clear hcell hck hcc hgl T T4 hb hb4 hb5 HC hstep
      go_wp2_with fail
      refine HPL.out.mono ?_
      rintro e w4 ⟨rfl, T5, hc5⟩
      have hb6 := HB5.out _ hc5
      go_wp2_with fail
      exact ⟨⟨j + 1, _, by omega, by go_num, (show Two _ _ b _ _ (4 * (j + 1)) w4 from T5), by rw [HST.out] at HCS; exact HCS, hb6⟩, by simp [intOf]; omega⟩
    · have i2 : ¬ (j : Int) < (n : Int) := by omega
      obtain ⟨m, f, hm, hri, hA⟩ := T.acc
      have hm' : m ≤ 8000000 := by have : m ≤ 0 + 4 * j := hm; omega
      have hym := T.hy
      have hWs := T.hW
      have HRC := Lib.hid (And.intro hri HC.out)
      have HPA := Lib.hid (hA.pairs (show m + 0 ≤ 1000000000 by omega) ⟨#[]⟩ (by decide +kernel))
      rw [filter_all] at HPA
      dsimp only at hym
      clear T hm hri HC
      go_wp2_with fail
      refine HPA.out.mono ?_
      rintro e w4 ⟨v4, rfl, ho4, hb4⟩
      have A4 := hA.up hb4
      have HV4 := Lib.hid ho4.rdP
      obtain ⟨A5, c5, rfl⟩ := ho4.form
      obtain ⟨rl, hrl⟩ : ∃ rl, rl = R.length := ⟨_, rfl⟩
      rw [← hrl] at HV4 ⊢
      have hbW := below_chain hb hWs hb4
      have HO := Lib.hid (fun (Z : World) (hz : Kept w4 Z) => HOX.out Z ((show Kept W0 w4 from ⟨fun _ => False, ⟨hbW.os, hbW.tape, hbW.output, hbW.size, fun k hk _ => hbW.block k hk⟩, fun _ h => h.elim⟩).trans hz))
      have z := HO.out _ (Kept.refl _)
      obtain ⟨z0, z1, z2, z3, z4, z5, z6, z7⟩ := z
      have HM := Lib.hid (A4.mint (show m + 0 + 2 ≤ maxLen by unfold maxLen; omega) a d x hx ha hd)
      obtain ⟨P, hP⟩ : ∃ P, P = mintM R a d x := ⟨_, rfl⟩
      have HPP := Lib.hid hP
      rw [← hP] at HM
      unfold U4.val U4.cells at HM
      clear HPA hA ho4 hb4 A4 hP hrl
      go_wp2_with fail
      refine HM.out.mono ?_
      rintro e w5 ⟨rfl, A5', hk5⟩
      clear HM z0 z1 z2 z3 z4 z5 z6 z7
      have hfinA := A5'.below (B := W0.heap.size) hym hWs
      by_cases e0 : P.1 = 0
      · have HBM : Hid (burnM P.2 a d x = (0, R)) := Lib.hid (by rw [HPP.out]; exact burn_mint HRC.out.1 HRC.out.2 (by rw [← HPP.out]; exact e0))
        have HB := Lib.hid (A5'.burn (show m + (0 + 2) + 2 ≤ maxLen by unfold maxLen; omega) a d x hx ha hd)
        rw [HBM.out] at HB
        have z := HO.out _ hk5
        obtain ⟨z0, z1, z2, z3, z4, z5, z6, z7⟩ := z
        unfold U4.val U4.cells at HB
        clear A5' hfinA
        rw [e0]
        go_wp2_with fail
        refine HB.out.mono ?_
        rintro e w6 ⟨rfl, A6, hk6⟩
        have HPB := Lib.hid (A6.pairs (show m + (0 + 2 + 2) ≤ 1000000000 by omega) ⟨#[]⟩ (by decide +kernel))
        rw [filter_all] at HPB
        have HV6 := Lib.hid (HV4.out.kept (hk5.trans hk6))
        have hfin6 := A6.below (B := W0.heap.size) hym hWs
        clear HB z0 z1 z2 z3 z4 z5 z6 z7
        go_wp2_with fail
        refine HPB.out.mono ?_
        rintro e w7 ⟨v7, rfl, ho7, hb7⟩
        have HSA := Lib.hid (samePs_any w7 v7 (.slice A5 rl c5) R R ho7.rdP (HV6.out.kept (Kept.of_below hb7)))
        obtain ⟨A7, c7, rfl⟩ := ho7.form
        clear ho7
        go_wp2_with fail
        refine HSA.out.mono ?_
        rintro e w8 ⟨rfl, hb8⟩
        have hq8 := below_chain ha0 ha0.size (hb.trans (below_chain (below_chain hfin6 (Nat.le_trans hWs hfin6.size) hb7) (Nat.le_trans (Nat.le_trans hWs hfin6.size) hb7.size) hb8))
        simp only [decide_true]
        go_wp2_with fail
        go_ret
        exact ⟨rfl, hq8⟩
      · have HNO : Hid (P.2 = R) := Lib.hid (by rw [HPP.out]; exact change_no (u := 10) (by decide) (by rw [HPP.out] at e0; exact e0))
        have HPB := Lib.hid (A5'.pairs (show m + (0 + 2) ≤ 1000000000 by omega) ⟨#[]⟩ (by decide +kernel))
        rw [filter_all, HNO.out] at HPB
        have HV6 := Lib.hid (HV4.out.kept hk5)
        have hne : (P.1 == 0) = false := by simpa using e0
        clear A5'
        go_wp2_with fail
        refine HPB.out.mono ?_
        rintro e w7 ⟨v7, rfl, ho7, hb7⟩
        have HSA := Lib.hid (samePs_any w7 v7 (.slice A5 rl c5) R R ho7.rdP (HV6.out.kept (Kept.of_below hb7)))
        obtain ⟨A7, c7, rfl⟩ := ho7.form
        clear ho7
        go_wp2_with fail
        refine HSA.out.mono ?_
        rintro e w8 ⟨rfl, hb8⟩
        have hq8 := below_chain ha0 ha0.size (hb.trans (below_chain (below_chain hfinA (Nat.le_trans hWs hfinA.size) hb7) (Nat.le_trans (Nat.le_trans hWs hfinA.size) hb7.size) hb8))
        simp only [decide_true]
        go_wp2_with fail
        go_ret
        exact ⟨rfl, hq8⟩
end Go.Proofs.YtgiciaeaibonbaaGreat
