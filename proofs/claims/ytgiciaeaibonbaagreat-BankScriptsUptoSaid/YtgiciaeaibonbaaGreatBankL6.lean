
/- The walk of the law: over any store, every call, in every order, as the document says. -/
import Derived.Test.YtgiciaeaibonbaaGreatBankP0
import Derived.Test.YtgiciaeaibonbaaGreatRStoQ
namespace Go.Proofs.YtgiciaeaibonbaaGreat
set_option maxRecDepth 100000
open Go Go.RowKit
set_option linter.unusedVariables false

set_option maxHeartbeats 8000000 in
theorem bscripts_law (w : World) (v0 : Value) (ps : List Pr) (hps : RdP w w.heap.size v0 ps) (hnl : ∀ p ∈ ps, p.1.size ≤ maxLen) (hvl : ∀ p ∈ ps, p.2.length ≤ 2000000) (hpl : ps.length ≤ 2000000)
    (v : Value) (ops : List BOp) (hv : RdB w w.heap.size v ops) (hlen : ops.length ≤ 2000000) (hf : ∀ o ∈ ops, o.fine) :
    Calls Tryz.prog 3 #[v0, v] w fun e w' => e = .returned (.bool true) ∧ Below w.heap.size w w' := by
  have HN0 := Lib.hid (new_any w v0 ps hps hnl)
  have HN1 := Lib.hid (fun (W : World) (hb : Below w.heap.size w W) => rnew_doc W v0 ps (hps.kept (Kept.of_below hb)) hnl hvl hpl)
  have HV := Lib.hid (And.intro hnl (And.intro hvl hpl))
  obtain ⟨A0, c0, rfl⟩ : ∃ A c, v0 = .slice A ps.length c := RdP.form hps
  obtain ⟨A, cp, rfl, hc1, hc2, hp⟩ := hv
  unfold maxLen at hc2
  obtain ⟨n, hnn⟩ : ∃ n, n = ops.length := ⟨_, rfl⟩
  rw [← hnn] at hc1 hlen ⊢
  have HN := Lib.hid hnn
  have HF := Lib.hid hf
  have HP := Lib.hid hp
  clear hnn hf hp hps hnl hvl hpl
  go_enter Tryz.func3, Tryz.ntmps3
  go_wp2_with fail
  refine HN0.out.mono ?_
  rintro e w1 ⟨⟨hor, rfl⟩ | ⟨hor, y, rfl, hyb, hym, hyn, hly, hri, hp1⟩, hb1⟩
  · have HO := Lib.hid hor
    clear hor
    go_wp2_with fail
    refine (HN1.out _ hb1).mono ?_
    rintro e w2 ⟨⟨-, rfl⟩ | ⟨h2, -⟩, hb2⟩
    rotate_left
    · rw [HO.out] at h2; cases h2
    have hq2 := below_chain hb1 hb1.size hb2
    go_wp2_with fail
    refine (bfixed_any _).mono ?_
    rintro e w3 ⟨rfl, hb3⟩
    have hq3 := below_chain hq2 hq2.size hb3
    go_wp2_with fail
    go_ret
    exact ⟨rfl, hq3⟩
  have HO := Lib.hid hor
  obtain ⟨yb, ym, yn, yf⟩ := y
  dsimp only at hyb hym hyn ⊢
  have HY := Lib.hid (And.intro hp1 (And.intro hly hri))
  have HYN := Lib.hid (show yn = ps.length from hyn)
  clear hyb hly hri hp1 HN0 hyn hor
  go_wp2_with fail
  refine (HN1.out _ hb1).mono ?_
  rintro e w2 ⟨⟨h2, -⟩ | ⟨-, b, rfl, hbb, hds⟩, hb2⟩
  · rw [HO.out] at h2; cases h2
  have hq2 := below_chain hb1 hb1.size hb2
  have T2 : Two w.heap.size ⟨yb, ym, yn, yf⟩ b ps ps 0 w2 := ⟨⟨yn, yf, HY.out.1.up hb2, seen_bot0 HY.out.2.1 HY.out.2.2 HV.out.1, Nat.le_refl _⟩, hds, Nat.le_of_eq HYN.out.symm, HV.out.2.1, hym, Nat.le_trans hb1.size hbb, Nat.le_trans hb1.size hb2.size⟩
  clear hb1 hb2 hbb hds HY hym HN1
  go_wp2_with fail
  refine (bfixed_any _).mono ?_
  rintro e w3 ⟨rfl, hb3⟩
  have T3 := Lib.hid (T2.up hb3)
  have hq3 := below_chain hq2 hq2.size hb3
  clear T2 hq2 hb3
  go_wp2_with fail
  go_loopw [39] (fun i W => ∃ (j : Nat) (R : List Pr), j ≤ n ∧ i = .int .i64 (j : Int) ∧ Two w.heap.size ⟨yb, ym, yn, yf⟩ b R R (4 * j) W ∧ Below w.heap.size w W)
    (fun i _ => n - (intOf i).toNat)
  case atStart => exact ⟨0, ps, Nat.zero_le _, rfl, T3.out, hq3⟩
  case round =>
    rename World => W
    obtain ⟨j, R, hjn, rfl, T, hb⟩ := hrel
    clear T3 hq3
    by_cases hlt : j < n
    · have hjl : j < ops.length := by have := HN.out; omega
      obtain ⟨g, o, rfl, hgl, hcell⟩ := HP.out (by omega)
      have hfo := HF.out _ (List.getElem_mem hjl)
      have hck := hcell j hjl
      generalize ops[j] = op at *
      obtain ⟨ok, oa, oc, od, ox⟩ := op
      obtain ⟨f1, f2, f3, f4⟩ := hfo
      dsimp only at f1 f2 f3 f4
      have hcc : ∀ i u, i < 8 → (BOp.mk ok oa oc od ox).cells[i]? = some u → W.cell? ⟨g, o + j * 8 + i, none⟩ = some u := fun i u hi e =>
        (hb.cell (p := ⟨g, o + j * 8 + i, none⟩) hgl).trans ((hck i hi).trans e)
      have e0 : W.cell? ⟨g, o + j * 8, none⟩ = some (.int .i64 ok) := hcc 0 _ (by omega) rfl
      have e1 := hcc 1 _ (by omega) rfl
      have e2 := hcc 2 _ (by omega) rfl
      have e3 := hcc 3 _ (by omega) rfl
      have e4 := hcc 4 _ (by omega) rfl
      have e5 := hcc 5 _ (by omega) rfl
      have e6 := hcc 6 _ (by omega) rfl
      have e7 := hcc 7 _ (by omega) rfl
      have i1 : (0 : Int) ≤ (j : Int) := by omega
      have i2 : (j : Int) < (n : Int) := by omega
      have hb4 : Below W.heap.size W (W.alloc (.cells #[.int .i64 ok, .string oa, .string oc, .string od, .int .u64 (ox.a : Int), .int .u64 (ox.b : Int), .int .u64 (ox.c : Int), .int .u64 (ox.d : Int)] 36)) := (Below.refl _ _).alloc (Nat.le_refl _) _
      have z := box_op W ok oa oc od ox 36 _ (Kept.refl _)
      obtain ⟨z0, z1, z2, z3, z4, z5, z6, z7⟩ := z
      have T4 := T.up hb4
      have HPL := Lib.hid (bplay_any T4 (show yn + 4 * j + 4 ≤ 100000000 by have := HYN.out; have := HV.out.2.2; omega) ok oa oc od ox f1 f2 f3 f4)
      have hb5 := below_chain hb hb.size hb4
      have HB5 : Hid (∀ Z, Chg (W.alloc (.cells #[.int .i64 ok, .string oa, .string oc, .string od, .int .u64 (ox.a : Int), .int .u64 (ox.b : Int), .int .u64 (ox.c : Int), .int .u64 (ox.d : Int)] 36)) Z (FT ⟨yb, ym, yn, yf⟩ b) → Below w.heap.size w Z) := Lib.hid fun Z hz => hb5.trans (T4.below hz)
      clear hcell hck hcc hgl T T4 hb hb4 hb5
      go_wp2_with fail
      refine HPL.out.mono ?_
      rintro e w4 ⟨rfl, T5, hc5⟩
      have hb6 := HB5.out _ hc5
      go_wp2_with fail
      exact ⟨⟨j + 1, _, by omega, by go_num, (show Two _ _ b _ _ (4 * (j + 1)) w4 from T5), hb6⟩, by simp [intOf]; omega⟩
    · have i2 : ¬ (j : Int) < (n : Int) := by omega
      obtain ⟨m, f, hm, hri, hA⟩ := T.acc
      have hm' : m ≤ 100000000 := by have : m ≤ yn + 4 * j := hm; have := HYN.out; have := HV.out.2.2; omega
      have hsm : ∀ p ∈ R, p.1.size ≤ maxLen := by obtain ⟨_, _, _, h2, _⟩ := T.p; exact h2.small
      have HPA := Lib.hid (hA.pairs (show m + 0 ≤ 1000000000 by omega) ⟨#[]⟩ (by decide +kernel))
      have HPB := Lib.hid (fun (Z : World) (hz : Below W.heap.size W Z) => rpairs_any ((T.docR (show yn + 4 * j ≤ 100000000 by have := HYN.out; have := HV.out.2.2; omega)).up hz) ⟨#[]⟩ (by decide +kernel) hsm)
      rw [filter_all] at HPA HPB
      obtain ⟨rl, hrl⟩ : ∃ rl, rl = R.length := ⟨_, rfl⟩
      have HRL := Lib.hid hrl
      clear T hm hri hA hsm hrl
      go_wp2_with fail
      refine HPA.out.mono ?_
      rintro e w4 ⟨v4, rfl, ho4, hb4⟩
      have hr4 := ho4.rdP
      obtain ⟨A4, c4, hv4⟩ : ∃ A c, v4 = .slice A rl c := by rw [HRL.out]; exact ho4.form
      subst hv4
      have HV4 := Lib.hid hr4
      clear ho4 hr4
      go_wp2_with fail
      refine (HPB.out _ hb4).mono ?_
      rintro e w5 ⟨v5, rfl, hr5, hb5⟩
      have HSA := Lib.hid (samePs_any w5 (.slice A4 rl c4) v5 R R (HV4.out.kept (Kept.of_below hb5)) hr5)
      obtain ⟨A5, c5, hv5⟩ : ∃ A c, v5 = .slice A rl c := by rw [HRL.out]; exact RdP.form hr5
      subst hv5
      clear hr5
      go_wp2_with fail
      refine HSA.out.mono ?_
      rintro e w6 ⟨rfl, hb6⟩
      have hbb := below_chain (below_chain hb4 hb4.size hb5) (Nat.le_trans hb4.size hb5.size) hb6
      have hq := below_chain hb hb.size hbb
      simp only [decide_true]
      go_wp2_with fail
      go_ret
      exact ⟨rfl, hq⟩
end Go.Proofs.YtgiciaeaibonbaaGreat
