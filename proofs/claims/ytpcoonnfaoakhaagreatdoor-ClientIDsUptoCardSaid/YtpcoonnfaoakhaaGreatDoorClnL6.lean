/- The law: over any store a new identifier of a kind is the document's, and the next one another; heights in keys. -/
import Derived.Test.YtpcoonnfaoakhaaGreatDoorM18
import Derived.Test.YtpcoonnfaoakhaaGreatDoorM22
import Derived.Test.YtpcoonnfaoakhaaGreatDoorM16
import Derived.Test.YtpcoonnfaoakhaaGreatDoorM14
namespace Go.Proofs.YtpcoonnfaoakhaaGreatDoor
set_option maxRecDepth 100000
open Go Go.RowKit
set_option linter.unusedVariables false

section
variable {B : Nat} {y : Lyr} {b k : Nat} {Rp Rd : List Pr} {W W' : World}
theorem Two.newid (h : Two B y b Rp Rd k W) (hn : y.n + k + 2 ≤ 100000000) (kind : ByteArray) (hk : kind.size ≤ 100000000) (hT : Pows W) :
    Calls Tryz.prog 23 #[.pointer (some ⟨y.b, 0, none⟩), .string kind] W fun e w' => e = .returned (.string (newID Rp kind)) ∧ Two B y b (newR Rp kind) Rd (k + 2) w' ∧ Chg W w' (FT y b) := by
  obtain ⟨n, f, h3, h1, A⟩ := h.at0
  refine (newidU_any A (show n + 0 < maxLen by unfold maxLen; omega) kind hk hT).mono ?_
  rintro e w' ⟨he, hq, -⟩
  exact ⟨he, h.bankS h3 h1 (hq.more (show 0 + 1 ≤ 2 by omega)).b⟩
theorem numN_dec (R : List Pr) (kind : ByteArray) : (decB (numN R kind)).size ≤ 1000 := by
  have := decB_len (numN R kind) (rN_ltP _ _)
  omega
end
set_option maxHeartbeats 16000000 in
theorem clids_law (w : World) (v0 : Value) (ps : List Pr) (hps : RdP w w.heap.size v0 ps) (hnl : ∀ p ∈ ps, p.1.size ≤ maxLen) (hvl : ∀ p ∈ ps, p.2.length ≤ 2000000) (hpl : ps.length ≤ 2000000)
    (kd : ByteArray) (hkd : kd.size ≤ 10000000) (n : Nat) (hn : n < 18446744073709551616)
    (fr : TypeId × Nat × Nat) (hk : w.heap[0]? = some (.cells kVals fr.1 fr.2)) (hT : Pows w) :
    Calls Tryz.prog 5 #[v0, .string kd, .int .u64 (n : Int)] w fun e w' => e = .returned (.bool true) ∧ Below w.heap.size w w' := by
  have HN0 := Lib.hid (new_any w v0 ps hps hnl)
  have HN1 := Lib.hid (fun (W : World) (hb : Below w.heap.size w W) => rnew_doc W v0 ps (hps.kept (Kept.of_below hb)) hnl hvl hpl)
  have HFX : Hid (∀ Z, Below w.heap.size w Z → Calls Tryz.prog 20 #[] Z fun e w' => e = .returned (.bool true) ∧ Below Z.heap.size Z w') := Lib.hid fun Z hz => clfixed_any Z fr ((hz.block _ (blk_lt hk)).trans hk)
  have HX1 := Lib.hid (fun Z : World => chex_any n Z hn)
  have HX2 := Lib.hid (fun Z : World => rchex_any n Z hn)
  have HV := Lib.hid (And.intro hnl (And.intro hvl hpl))
  have HKD := Lib.hid hkd
  have HT := Lib.hid (fun (Z : World) (hz : Below w.heap.size w Z) => hT.kept (Kept.of_belowX hz))
  obtain ⟨A0, c0, rfl⟩ : ∃ A c, v0 = .slice A ps.length c := RdP.form hps
  generalize hexN n = hx at *
  have hss : (hx.toList == hx.toList) = true := beq_self_eq_true _
  clear hps hnl hvl hpl hkd hn hk hT
  go_enter Tryz.func5, Tryz.ntmps5
  go_wp2_with fail
  refine HN0.out.mono ?_
  rintro e w1 ⟨⟨hor, rfl⟩ | ⟨hor, y, rfl, hyb, hym, hyn, hly, hri, hp1⟩, hb1⟩
  · have HO := Lib.hid hor
    clear hor
    go_wp2_with fail
    refine (HN1.out _ hb1).mono ?_
    rintro e w2 ⟨⟨-, rfl⟩ | ⟨h2, -⟩, hb2⟩
    rotate_left
    · rw [HO.out] at h2; cases h2
    have hq2 := below_chain hb1 hb1.size hb2
    go_wp2_with fail
    refine (HFX.out _ hq2).mono ?_
    rintro e w3 ⟨rfl, hb3⟩
    have hq3 := below_chain hq2 hq2.size hb3
    go_wp2_with fail
    refine (HX1.out _).mono ?_
    rintro e w4 ⟨rfl, hb4⟩
    have hq4 := below_chain hq3 hq3.size hb4
    go_wp2_with fail
    refine (HX2.out _).mono ?_
    rintro e w5 ⟨rfl, hb5⟩
    have hq5 := below_chain hq4 hq4.size hb5
    go_wp2_with fail
    refine (HFX.out _ hq5).mono ?_
    rintro e w6 ⟨rfl, hb6⟩
    have hq6 := below_chain hq5 hq5.size hb6
    go_wp2_with fail
    refine (HX1.out _).mono ?_
    rintro e w7 ⟨rfl, hb7⟩
    have hq7 := below_chain hq6 hq6.size hb7
    go_wp2_with fail
    refine (HX2.out _).mono ?_
    rintro e w8 ⟨rfl, hb8⟩
    have hq8 := below_chain hq7 hq7.size hb8
    go_wp2_with fail
    go_ret
    exact ⟨rfl, hq8⟩
  have HO := Lib.hid hor
  obtain ⟨yb, ym, yn, yf⟩ := y
  dsimp only at hyb hym hyn ⊢
  have HY := Lib.hid (And.intro hp1 (And.intro hly hri))
  have HYN := Lib.hid (show yn = ps.length from hyn)
  clear hyb hly hri hp1 HN0 hyn hor
  go_wp2_with fail
  refine (HN1.out _ hb1).mono ?_
  rintro e w2 ⟨⟨h2, -⟩ | ⟨-, b, rfl, hbb, hds⟩, hb2⟩
  · rw [HO.out] at h2; cases h2
  have hq2 := below_chain hb1 hb1.size hb2
  have T2 : Two w.heap.size ⟨yb, ym, yn, yf⟩ b ps ps 0 w2 := ⟨⟨yn, yf, HY.out.1.up hb2, seen_bot0 HY.out.2.1 HY.out.2.2 HV.out.1, Nat.le_refl _⟩, hds, Nat.le_of_eq HYN.out.symm, HV.out.2.1, hym, Nat.le_trans hb1.size hbb, Nat.le_trans hb1.size hb2.size⟩
  clear hb1 hb2 hbb hds HY hym HN1
  go_wp2_with fail
  refine (HFX.out _ hq2).mono ?_
  rintro e w3 ⟨rfl, hb3⟩
  have T3 := T2.up hb3
  have hq3 := below_chain hq2 hq2.size hb3
  clear T2 hq2 hb3
  go_wp2_with fail
  refine (HX1.out _).mono ?_
  rintro e w4 ⟨rfl, hb4⟩
  have T4 := T3.up hb4
  have hq4 := below_chain hq3 hq3.size hb4
  clear T3 hq3 hb4
  go_wp2_with fail
  refine (HX2.out _).mono ?_
  rintro e w5 ⟨rfl, hb5⟩
  have T5 := Lib.hid (T4.up hb5)
  have hq5 := Lib.hid (below_chain hq4 hq4.size hb5)
  clear T4 hq4 hb5 HX1 HX2 HFX hss
  go_wp2_with fail
  go_loopw [11] (fun i W => ∃ (j : Nat) (R : List Pr), j ≤ 3 ∧ i = .int .i64 (j : Int) ∧ Hid (Two w.heap.size ⟨yb, ym, yn, yf⟩ b R R (4 * j) W ∧ Below w.heap.size w W))
    (fun i _ => 3 - (intOf i).toNat)
  case atStart => exact ⟨0, ps, Nat.zero_le _, rfl, Lib.hid ⟨T5.out, hq5.out⟩⟩
  case round =>
    rename World => W
    obtain ⟨j, R, hjn, rfl, HTB⟩ := hrel
    clear T5 hq5
    by_cases hlt : j < 3
    · have i1 : (0 : Int) ≤ (j : Int) := by omega
      have i2 : (j : Int) < 3 := by omega
      have HB0 : yn + 4 * j + 4 ≤ 100000000 := by have := HYN.out; have := HV.out.2.2; omega
      have HA := Lib.hid (HTB.out.1.newid (show yn + 4 * j + 2 ≤ 100000000 by omega) kd (by have := HKD.out; omega) (HT.out _ HTB.out.2))
      have HB : Hid (∀ Z, Two w.heap.size ⟨yb, ym, yn, yf⟩ b (newR R kd) R (4 * j + 2) Z → Calls Tryz.prog 24 #[.pointer (some ⟨b, 0, none⟩), .string kd] Z fun e w' => e = .returned (.string (newID R kd)) ∧ Two w.heap.size ⟨yb, ym, yn, yf⟩ b (newR R kd) (newR R kd) (4 * j + 2 + 2) w' ∧ Chg Z w' (FT ⟨yb, ym, yn, yf⟩ b)) :=
        Lib.hid fun Z hz => hz.rnewid (show yn + (4 * j + 2) + 2 ≤ 100000000 by omega) kd (by have := HKD.out; omega) (numN_dec R kd)
      have HJ := Lib.hid (And.intro hlt HB0)
      generalize newR R kd = R2 at *
      generalize newID R kd = S at *
      have hss : (S.toList == S.toList) = true := beq_self_eq_true _
      clear HB0 hlt
      go_wp2_with fail
      refine HA.out.mono ?_
      rintro e w6 ⟨rfl, T6, hc6⟩
      have hq6 := HTB.out.2.trans (HTB.out.1.below hc6)
      have HB6 := Lib.hid (HB.out _ T6)
      have HT6 := Lib.hid T6
      clear HA HB T6 hc6
      go_wp2_with fail
      refine HB6.out.mono ?_
      rintro e w7 ⟨rfl, T7, hc7⟩
      have hq7 := hq6.trans (HT6.out.below hc7)
      have HTF : Hid (Two w.heap.size ⟨yb, ym, yn, yf⟩ b R2 R2 (4 * (j + 1)) w7 ∧ Below w.heap.size w w7) := Lib.hid ⟨T7.more (by omega), hq7⟩
      clear HB6 HT6 T7 hc7 hq7 hq6
      go_wp2_with fail
      refine ⟨⟨j + 1, R2, by have := HJ.out.1; omega, ?_, HTF⟩, ?_⟩
      · simp
      · have := HJ.out.1
        simp [intOf]
        omega
    · have i2 : ¬ (j : Int) < 3 := by omega
      obtain rfl : j = 3 := by omega
      have T5 := HTB.out.1
      have hb := HTB.out.2
      clear HTB HT HKD
      obtain ⟨m, f, hm, hri, hA⟩ := T5.acc
      have hm' : m ≤ 100000000 := by have : m ≤ yn + (4 * 3) := hm; have := HYN.out; have := HV.out.2.2; omega
      have hsm : ∀ p ∈ R, p.1.size ≤ maxLen := by obtain ⟨_, _, _, h2, _⟩ := T5.p; exact h2.small
      have HPA := Lib.hid (hA.pairs (show m + 0 ≤ 1000000000 by omega) ⟨#[]⟩ (by decide +kernel))
      have HPB := Lib.hid (fun (Z : World) (hz : Below W.heap.size W Z) => rpairs_any ((T5.docR (show yn + (4 * 3) ≤ 100000000 by have := HYN.out; have := HV.out.2.2; omega)).up hz) ⟨#[]⟩ (by decide +kernel) hsm)
      rw [filter_all] at HPA HPB
      obtain ⟨rl, hrl⟩ : ∃ rl, rl = R.length := ⟨_, rfl⟩
      have HRL := Lib.hid hrl
      clear T5 hm hri hA hsm hrl
      go_wp2_with fail
      refine HPA.out.mono ?_
      rintro e w6' ⟨v4, rfl, ho4, hb4⟩
      have hr4 := ho4.rdP
      obtain ⟨A4, c4, hv4⟩ : ∃ A c, v4 = .slice A rl c := by rw [HRL.out]; exact ho4.form
      subst hv4
      have HV4 := Lib.hid hr4
      clear ho4 hr4
      go_wp2_with fail
      refine (HPB.out _ hb4).mono ?_
      rintro e w7' ⟨v5, rfl, hr5, hb5⟩
      have HSA := Lib.hid (samePs_any w7' (.slice A4 rl c4) v5 R R (HV4.out.kept (Kept.of_below hb5)) hr5)
      obtain ⟨A5, c5, hv5⟩ : ∃ A c, v5 = .slice A rl c := by rw [HRL.out]; exact RdP.form hr5
      subst hv5
      clear hr5
      go_wp2_with fail
      refine HSA.out.mono ?_
      rintro e w8' ⟨rfl, hb6⟩
      have hbb := below_chain (below_chain hb4 hb4.size hb5) (Nat.le_trans hb4.size hb5.size) hb6
      have hq := below_chain hb hb.size hbb
      simp only [decide_true]
      go_wp2_with fail
      go_ret
      exact ⟨rfl, hq⟩
end Go.Proofs.YtpcoonnfaoakhaaGreatDoor
