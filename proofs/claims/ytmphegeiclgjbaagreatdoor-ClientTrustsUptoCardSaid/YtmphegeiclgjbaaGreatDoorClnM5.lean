
/- What news that are taken say: mathematics; what a client trusts, read at once. A branch of one of two stores; what is over by its period: mathematics. -/
import Derived.Test.YtmphegeiclgjbaaGreatDoorClnG1
namespace Go.Proofs.YtmphegeiclgjbaaGreatDoor
set_option maxRecDepth 100000
open Go Go.RowKit
set_option linter.unusedVariables false

def gotS (o : Option CsV) : CsV := o.getD ⟨0, [], []⟩
theorem csgot_any {W w : World} {y : Lyr} {l : List Lyr} {R : List Pr} {k : Nat} (h : At W y l R k w) (a : ByteArray) (n : Nat) (hn : n < 18446744073709551616) (ha : a.size ≤ 100000000) :
    Calls Tryz.prog 17 #[.pointer (some ⟨y.b, 0, none⟩), .string a, .int .u64 (n : Int)] w fun e w' => ∃ A1 c1 A2 c2, e = .returned (.tuple #[.agg #[.int .u64 ((gotS (getCs R a n)).tm : Int), .slice A1 (gotS (getCs R a n)).rt.length c1, .slice A2 (gotS (getCs R a n)).nx.length c2], .bool (getCs R a n).isSome]) ∧
      Rd w' w'.heap.size (.slice A1 (gotS (getCs R a n)).rt.length c1) (gotS (getCs R a n)).rt ∧ Rd w' w'.heap.size (.slice A2 (gotS (getCs R a n)).nx.length c2) (gotS (getCs R a n)).nx ∧ Below w.heap.size w w' := by
  refine (csget_any h a n hn ha).mono ?_
  rintro e w' ⟨⟨v, vr, vn, hg, rfl, h1, h2⟩ | ⟨hg, rfl⟩, hb⟩
  · rw [hg]
    obtain ⟨A1, c1, rfl⟩ := h1.form
    obtain ⟨A2, c2, rfl⟩ := h2.form
    exact ⟨A1, c1, A2, c2, rfl, h1.rd, h2.rd, hb⟩
  · rw [hg]
    exact ⟨none, 0, none, 0, rfl, Rd.nil _ _, Rd.nil _ _, hb⟩
theorem wrongB_zero : ∀ (b1 b2 b3 b4 b5 b6 b7 b8 : Bool), wrongB b1 b2 b3 b4 b5 b6 b7 b8 = 0 → b1 = false ∧ b2 = false ∧ b3 = false ∧ b4 = false ∧ b5 = true ∧ b6 = true ∧ b7 = true ∧ b8 = true := by
  intro b1 b2 b3 b4 b5 b6 b7 b8 h
  unfold wrongB at h
  by_cases q1 : b1 = true
  · rw [if_pos q1] at h; exact absurd h (by decide)
  rw [if_neg q1] at h
  by_cases q2 : b2 = true
  · rw [if_pos q2] at h; exact absurd h (by decide)
  rw [if_neg q2] at h
  by_cases q3 : b3 = true
  · rw [if_pos q3] at h; exact absurd h (by decide)
  rw [if_neg q3] at h
  by_cases q4 : b4 = true
  · rw [if_pos q4] at h; exact absurd h (by decide)
  rw [if_neg q4] at h
  by_cases q5 : b5 = false
  · rw [if_pos q5] at h; exact absurd h (by decide)
  rw [if_neg q5] at h
  by_cases q6 : b6 = false
  · rw [if_pos q6] at h; exact absurd h (by decide)
  rw [if_neg q6] at h
  by_cases q7 : b7 = false
  · rw [if_pos q7] at h; exact absurd h (by decide)
  rw [if_neg q7] at h
  by_cases q8 : b8 = false
  · rw [if_pos q8] at h; exact absurd h (by decide)
  rw [if_neg q8] at h
  exact ⟨by simpa using q1, by simpa using q2, by simpa using q3, by simpa using q4, by simpa using q5, by simpa using q6, by simpa using q7, by simpa using q8⟩
theorem getCs_cli {R : List Pr} {a b : ByteArray} {n : Nat} {v : List UInt8} : getCs (setL (kCli a) v R) b n = getCs R b n := by
  unfold getCs
  rw [getL_setL_ne _ _ _ _ (fun e => cli_ne_cons _ _ _ e.symm)]
theorem getCs_made {R : List Pr} {a : ByteArray} {n : Nat} {v : CsV} (hi : identB a = true) (h1 : v.tm < 18446744073709551616) (h2 : v.rt.length ≤ 32) (h3 : v.nx.length ≤ 32) : getCs (setL (kCons a n) (csB v) R) a n = some v := by
  have hs := ident_size hi
  have hl := csB_len v
  unfold getCs
  rw [if_pos hi, getL_setL _ _ _ _ (pairB_of (by rw [kCons_size]; omega) (by rw [kCons_size]; omega) (by omega)), if_pos rfl]
  exact readCs_csB h1 (by omega) (by omega)
/-- what a step of news leaves trusted, by what was -/
theorem trusts_cases {R : List Pr} {x : StepV} (htm : x.m.h.tm < 18446744073709551616) (hk : x.m.kd = 3) :
    ((getCs R x.m.cl x.m.h.ht).isSome = true → getCs (stepM14 R x).2 x.m.cl x.m.h.ht = getCs R x.m.cl x.m.h.ht) ∧
    ((stepM14 R x).1 ≠ 0 → (getCs (stepM14 R x).2 x.m.cl x.m.h.ht).isSome = (getCs R x.m.cl x.m.h.ht).isSome) ∧
    ((stepM14 R x).1 = 0 → (getCs R x.m.cl x.m.at_).isSome = true ∧ (getCs (stepM14 R x).2 x.m.cl x.m.h.ht).isSome = true ∧ vhash x.m.s1 = x.m.h.va ∧ quorumB x.m.s1 (keysOf x.m.t1) = true ∧ x.m.at_ < x.m.h.ht ∧ linkedB (gotS (getCs R x.m.cl x.m.at_)).nx x.m.h.va x.m.h.ht x.m.at_ x.m.s3 x.m.t1 = true) := by
  unfold stepM14
  rw [if_neg (by omega), if_pos hk]
  unfold updM
  by_cases ha : aliveE R x.m.cl = 0
  · rw [if_pos ha]
    obtain ⟨c, hc1, -, hc3⟩ := alive_some ha
    obtain ⟨hid, -, -⟩ := getCl_some hc1
    by_cases hw : wrongE R x.m.cl (aliveV R x.m.cl) (nwOf x.m) x.now = 0
    · rw [if_pos hw]
      have hfl : (getCs R x.m.cl x.m.at_).isSome = true ∧ vhash x.m.s1 = x.m.h.va ∧ quorumB x.m.s1 (keysOf x.m.t1) = true ∧ x.m.at_ < x.m.h.ht ∧ linkedB (gotS (getCs R x.m.cl x.m.at_)).nx x.m.h.va x.m.h.ht x.m.at_ x.m.s3 x.m.t1 = true ∧ x.m.h.rt.length = 32 ∧ x.m.h.nx.length = 32 := by
        unfold wrongE at hw
        show (getCs R x.m.cl (nwOf x.m).ua).isSome = true ∧ _
        cases ht : getCs R x.m.cl (nwOf x.m).ua with
        | none => rw [ht] at hw; cases hw
        | some t =>
          rw [ht] at hw
          obtain ⟨-, -, q3, -, q5, q6, q7, q8⟩ := wrongB_zero _ _ _ _ _ _ _ _ hw
          have ht' : getCs R x.m.cl x.m.at_ = some t := ht
          rw [ht']
          simp only [Bool.and_eq_true, decide_eq_true_eq, sameB] at q5 q6
          have q3' := of_decide_eq_false q3
          refine ⟨rfl, q6.2, q8, ?_, q7, q5.1, q5.2.2⟩
          have e1 : (nwOf x.m).h.ht = x.m.h.ht := rfl
          have e2 : (nwOf x.m).ua = x.m.at_ := rfl
          omega
      obtain ⟨f1, f2, f3, f4, f5, f6, f7⟩ := hfl
      have e1 : (nwOf x.m).h.ht = x.m.h.ht := rfl
      rw [e1]
      cases hg : getCs R x.m.cl x.m.h.ht with
      | some t =>
        dsimp only
        have e : getCs (if ((t.tm != (nwOf x.m).h.tm) || (!sameB t.rt (nwOf x.m).h.rt || !sameB t.nx (nwOf x.m).h.nx)) = true then setL (kCli x.m.cl) (clB ⟨(aliveV R x.m.cl).ch, (aliveV R x.m.cl).la, (aliveV R x.m.cl).pe, true⟩) R else R) x.m.cl x.m.h.ht = some t := by
          split
          · rw [getCs_cli]; exact hg
          · exact hg
        rw [e]
        exact ⟨fun _ => rfl, fun _ => rfl, fun _ => ⟨f1, rfl, f2, f3, f4, f5⟩⟩
      | none =>
        dsimp only
        rw [getCs_cli, getCs_made hid htm (by show x.m.h.rt.length ≤ 32; omega) (by show x.m.h.nx.length ≤ 32; omega)]
        exact ⟨fun h => (by cases h), fun h => absurd rfl h, fun _ => ⟨f1, rfl, f2, f3, f4, f5⟩⟩
    · rw [if_neg hw]
      exact ⟨fun _ => rfl, fun _ => rfl, fun h => absurd h hw⟩
  · rw [if_neg ha]
    exact ⟨fun _ => rfl, fun _ => rfl, fun h => absurd h ha⟩
theorem linked_next {nx va : List UInt8} {ht ua : Nat} {t : List VD} {o : List ByteArray} (h : linkedB nx va ht ua t o = true) (e : ht = (ua + 1) % 18446744073709551616) : va = nx := by
  unfold linkedB at h
  rw [if_pos e] at h
  simpa [sameB] using h
theorem linked_far {nx va : List UInt8} {ht ua : Nat} {t : List VD} {o : List ByteArray} (h : linkedB nx va ht ua t o = true) (e : ¬ ht = (ua + 1) % 18446744073709551616) : vhash t = nx ∧ thirdB t (keysOf o) = true := by
  unfold linkedB at h
  rw [if_neg e] at h
  simp only [Bool.and_eq_true, sameB, decide_eq_true_eq] at h
  exact h.2
end Go.Proofs.YtmphegeiclgjbaaGreatDoor
namespace Go.Proofs.YtmphegeiclgjbaaGreatDoor
set_option maxRecDepth 100000
open Go Go.RowKit
set_option linter.unusedVariables false

theorem Sts.aside {w Z Z' : World} {b m b' m' N k : Nat} {R R' R2 : List Pr} {z : Lyr} {l : List Lyr} (h : Sts w b m b' m' R R' N Z) (A : At Z z l R2 k Z') (h1 : z.m ≠ m) (h2 : z.m ≠ m') (h3 : w.heap.size ≤ z.m) : Sts w b m b' m' R R' N Z' := by
  obtain ⟨n', f', a1, a2, a3, a4⟩ := A.b
  obtain ⟨n, f, k1, k2, k3⟩ := h.a
  obtain ⟨n2, f2, j1, j2, j3⟩ := h.c
  refine ⟨⟨n, f, k1, ?_, k3⟩, ⟨n2, f2, j1, ?_, j3⟩, h.ne, h.lo, h.lo', h.bel.trans (A.below (B := w.heap.size) h3 h.bel.size)⟩
  · exact k2.chg a4 A.p.1.maps fun q hq e => by
      rw [List.mem_singleton.1 hq] at e
      exact h1 e.symm
  · exact j2.chg a4 A.p.1.maps fun q hq e => by
      rw [List.mem_singleton.1 hq] at e
      exact h2 e.symm
theorem Sts.brn_any {w Z : World} {b m b' m' N : Nat} {R R' : List Pr} (h : Sts w b m b' m' R R' N Z) :
    Calls Tryz.prog 26 #[.pointer (some ⟨b, 0, none⟩)] Z fun e w' => ∃ (z : Lyr) (l : List Lyr), e = .returned (.pointer (some ⟨z.b, 0, none⟩)) ∧ z.n = 0 ∧ At w' z l R 0 w' ∧ z.m ≠ m ∧ z.m ≠ m' ∧ w.heap.size ≤ z.m ∧ Below Z.heap.size Z w' := by
  obtain ⟨n, f, k1, k2, k3⟩ := h.a
  obtain ⟨n2, f2, j1, j2, j3⟩ := h.c
  have hm1 := (k2.lt _ (List.mem_singleton.2 rfl)).2
  have hm2 := (j2.lt _ (List.mem_singleton.2 rfl)).2
  dsimp only at hm1 hm2
  refine (branch_any k2).mono ?_
  rintro e w' ⟨nb, nm, rfl, hb, hm, hp, hq⟩
  refine ⟨⟨nb, nm, 0, fun _ => none⟩, _, rfl, rfl, ⟨BankS.refl hp ⟨k3.rise, k3.small, fun s hs => ?_⟩, hp⟩, ?_, ?_, ?_, hq⟩
  · rw [k3.get s hs]
    rfl
  · show nm ≠ m; omega
  · show nm ≠ m'; omega
  · show w.heap.size ≤ nm
    have := h.bel.size
    omega
theorem over_when {t p : Nat} : overB t p (t + p) = true := by
  unfold overB
  rw [decide_eq_true (Nat.le_add_right t p), decide_eq_true (show p ≤ t + p - t by omega)]
  rfl
/-- a client whose latest time is over shows nothing, and takes no news by what it trusts there -/
theorem expires {R : List Pr} {id : ByteArray} (h1 : (getCl R id).isSome = true) (h2 : (gotC (getCl R id)).fr = false) (h3 : (getCs R id (gotC (getCl R id)).la).isSome = true) :
    (∀ (ht : Nat) (key : ByteArray) (val : List UInt8) (p : Pf), verifyE R id ht ((gotS (getCs R id (gotC (getCl R id)).la)).tm + (gotC (getCl R id)).pe) key val p = 103) ∧
    ∀ u : NwW, u.ua = (gotC (getCl R id)).la → (updM R id u ((gotS (getCs R id (gotC (getCl R id)).la)).tm + (gotC (getCl R id)).pe)).1 = 103 := by
  have hc := got_some h1
  obtain ⟨t, ht⟩ : ∃ t, getCs R id (gotC (getCl R id)).la = some t := by
    cases e : getCs R id (gotC (getCl R id)).la with
    | none => rw [e] at h3; cases h3
    | some t => exact ⟨t, rfl⟩
  generalize gotC (getCl R id) = c at *
  rw [ht]
  show (∀ (ht : Nat) (key : ByteArray) (val : List UInt8) (p : Pf), verifyE R id ht (t.tm + c.pe) key val p = 103) ∧ ∀ u : NwW, u.ua = c.la → (updM R id u (t.tm + c.pe)).1 = 103
  refine ⟨fun hh key val p => ?_, fun u hu => ?_⟩
  · have hs : showM R id hh (t.tm + c.pe) = ([], 103) := by
      unfold showM
      rw [hc]
      dsimp only
      rw [if_neg (by rw [h2]; decide), ht]
      dsimp only
      rw [if_pos over_when]
    unfold verifyE
    rw [hs, if_neg (by decide)]
  · have ha : aliveE R id = 0 := by
      unfold aliveE
      rw [hc]
      dsimp only
      rw [if_neg (by rw [h2]; decide)]
    have hv : aliveV R id = c := by
      unfold aliveV
      rw [hc]
      dsimp only
      rw [if_neg (by rw [h2]; decide)]
    have hw : wrongE R id c u (t.tm + c.pe) = 103 := by
      unfold wrongE
      rw [hu, ht]
      dsimp only
      rw [over_when]
      unfold wrongB
      rw [if_pos rfl]
    unfold updM
    rw [if_pos ha, hv, hw, if_neg (by decide)]
end Go.Proofs.YtmphegeiclgjbaaGreatDoor
