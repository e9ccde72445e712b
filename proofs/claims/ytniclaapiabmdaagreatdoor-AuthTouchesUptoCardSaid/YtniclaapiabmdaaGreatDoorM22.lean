/- Texts joined: AuthQ, AuthG, BankX. -/
import Derived.Test.YtniclaapiabmdaaGreatDoorM21
import Derived.Test.YtniclaapiabmdaaGreatDoorM17
namespace Go.Proofs.YtniclaapiabmdaaGreatDoor
set_option maxRecDepth 100000
open Go Go.RowKit
set_option linter.unusedVariables false

def feesS : ByteArray := ⟨#[102, 101, 101, 115]⟩
def fuelS : ByteArray := ⟨#[102, 117, 101, 108]⟩
/-- the fee paid -/
def paidM (R : List Pr) (t : TxV) : Int × List Pr := if eqB t.fee U4.zero = true then (0, R) else sendM R t.sg feesS fuelS t.fee
def anteM (R : List Pr) (ch : ByteArray) (t : TxV) : Int × List Pr :=
  if checkM R ch t = 0 then
    if (paidM R t).1 = 0 then
      match getA R t.sg with
      | none => (0, R)
      | some (r, b, s) => (0, putA (paidM R t).2 t.sg r b ((s + 1) % 18446744073709551616))
    else ((paidM R t).1, R)
  else (checkM R ch t, R)
theorem kAcc_ne_bal (a c d : ByteArray) : kAcc a ≠ kBal c d := fun e => by
  have h : (kAcc a).data.toList = (kBal c d).data.toList := congrArg (fun z : ByteArray => z.data.toList) e
  rw [kBal_list] at h
  unfold kAcc at h
  rw [data_list] at h
  have : accP.data.toList = [97, 99, 99, 47] := rfl
  rw [this] at h
  injection h with h _
  revert h; decide
theorem getL_send {R : List Pr} {a b d key : ByteArray} {x : U4} (h1 : key ≠ kBal a d) (h2 : key ≠ kBal b d) : getL (sendM R a b d x).2 key = getL R key := by
  unfold sendM
  split
  · split
    · split
      · split
        · rfl
        · split
          · dsimp only
            rw [getL_keep, if_neg h2, getL_keep, if_neg h1]
          · rfl
      · rfl
    · rfl
  · rfl
theorem getA_paid (R : List Pr) (t : TxV) (a : ByteArray) : getA (paidM R t).2 a = getA R a := by
  unfold paidM
  split
  · rfl
  · unfold getA
    rw [getL_send (kAcc_ne_bal _ _ _) (kAcc_ne_bal _ _ _)]
theorem check_ok {R : List Pr} {ch : ByteArray} {t : TxV} (h : checkM R ch t = 0) : ∃ r b s, getA R t.sg = some (r, b, s) ∧ t.seq = s ∧ b ≤ s ∧ s - b < 8 ∧ r.length = 32 ∧ encE t.bare = 0 := by
  unfold checkM at h
  cases e : getA R t.sg with
  | none => rw [e] at h; cases h
  | some x =>
    obtain ⟨r, b, s⟩ := x
    simp only [e] at h
    by_cases h1 : t.seq = s
    · rw [if_pos h1] at h
      by_cases h2 : b ≤ s ∧ s - b < 8
      · rw [if_pos h2] at h
        by_cases h3 : encE t.bare = 0
        · rw [if_pos h3] at h
          by_cases h4 : verB r ((s - b : Nat) : Int) (shaSum (encSgn ch t)) t.sig = true
          · refine ⟨r, b, s, rfl, h1, h2.1, h2.2, ?_, h3⟩
            unfold verB at h4
            simp only [Bool.and_eq_true, decide_eq_true_eq] at h4
            exact h4.1.2.2.2
          · rw [if_neg h4] at h; cases h
        · rw [if_neg h3] at h; exact absurd h h3
      · rw [if_neg h2] at h; cases h
    · rw [if_neg h1] at h; cases h
set_option maxHeartbeats 8000000 in
theorem aante_any {W W' : World} {y : Lyr} {R : List Pr} {k : Nat} (h : Acc W y R k W') (hn : y.n + k + 3 ≤ maxLen) (ch : ByteArray) (hch : ch.size ≤ maxLen) (t : TxV) (ht : t.rd W') (hs : t.sg.size ≤ 100000000) (fr : TypeId × Nat × Nat) (hk : W'.heap[0]? = some (.cells kVals fr.1 fr.2)) :
    Calls Tryz.prog 10 #[.pointer (some ⟨y.b, 0, none⟩), .string ch, .agg t.cells] W' fun e w' => e = .returned (.int .i64 (anteM R ch t).1) ∧ Acc W y (anteM R ch t).2 (k + 3) w' ∧ Kept W' w' := by
  obtain ⟨Am, cm, hvm⟩ : ∃ A c, t.vms = .slice A t.ms.length c := by obtain ⟨A, c, e, _⟩ := ht.ms; exact ⟨A, c, e⟩
  obtain ⟨As, cs, hvs⟩ := ht.sig.form
  have hcl : t.cells = #[.string t.sg, .int .u64 (t.seq : Int), .int .u64 (t.gas : Int), .int .u64 (t.fee.a : Int), .int .u64 (t.fee.b : Int), .int .u64 (t.fee.c : Int), .int .u64 (t.fee.d : Int), .slice Am t.ms.length cm, .slice As t.sig.length cs] := by rw [TxV.cells, hvm, hvs]
  have HCK := Lib.hid (fun (Z : World) (hb : Below W'.heap.size W' Z) => acheck_any (h.up hb) ch hch t (ht.up hb) hs fr ((hb.block _ (blk_lt hk)).trans hk))
  rw [hcl] at HCK
  have hfee := ht.fee
  have HZ := Lib.hid (fun Z => zero_any t.fee Z)
  have HSD := Lib.hid (fun (Z : World) (hb : Below W'.heap.size W' Z) => (h.up hb).send (by omega) t.sg feesS fuelS t.fee hfee hs (by decide +kernel) (by decide +kernel))
  have HFI := Lib.hid (fun v (e : getL R (kAcc t.sg) = some v) => (h.fits e).1)
  have HA0 := Lib.hid h
  have hgp := getA_paid R t t.sg
  have HSS := Lib.hid hs
  rw [hcl]
  have m1 : checkM R ch t ≠ 0 → anteM R ch t = (checkM R ch t, R) := fun e => by unfold anteM; rw [if_neg e]
  have m2 : checkM R ch t = 0 → (paidM R t).1 ≠ 0 → anteM R ch t = ((paidM R t).1, R) := fun e e2 => by unfold anteM; rw [if_pos e, if_neg e2]
  have m3 : checkM R ch t = 0 → (paidM R t).1 = 0 → ∀ r b s, getA R t.sg = some (r, b, s) → anteM R ch t = (0, putA (paidM R t).2 t.sg r b ((s + 1) % 18446744073709551616)) := fun e e2 r b s e3 => by unfold anteM; rw [if_pos e, if_pos e2]; simp only [e3]
  have hck := fun e => check_ok (R := R) (ch := ch) (t := t) e
  have p1 : eqB t.fee U4.zero = true → paidM R t = (0, R) := fun e => by unfold paidM; rw [if_pos e]
  have p2 : eqB t.fee U4.zero = false → paidM R t = sendM R t.sg feesS fuelS t.fee := fun e => by unfold paidM; rw [if_neg (by rw [e]; decide)]
  have hsn : (sendM R t.sg feesS fuelS t.fee).1 ≠ 0 → (sendM R t.sg feesS fuelS t.fee).2 = R := fun e => send_no e
  have HM := Lib.hid (And.intro m1 (And.intro m2 m3))
  have HCO := Lib.hid hck
  have HP := Lib.hid (And.intro p1 p2)
  have HGP := Lib.hid hgp
  have HSN := Lib.hid hsn
  have HNN := Lib.hid hn
  clear m1 m2 m3 hck p1 p2 hgp hsn hcl hvm hvs ht h hk hfee hn
  obtain ⟨Q, hQ⟩ : ∃ Q, Q = checkM R ch t := ⟨_, rfl⟩
  rw [← hQ] at HCK HM HCO
  obtain ⟨QA, hQA⟩ : ∃ QA, QA = anteM R ch t := ⟨_, rfl⟩
  rw [← hQA] at HM ⊢
  obtain ⟨PD, hPD⟩ : ∃ PD, PD = paidM R t := ⟨_, rfl⟩
  rw [← hPD] at HM HP HGP
  clear hQ hQA hPD
  generalize encE t.bare = E at *
  generalize t.ms.length = nm at *
  generalize t.sig.length = sl at *
  obtain ⟨x, hx⟩ : ∃ x, x = t.fee := ⟨_, rfl⟩
  rw [← hx] at HCK HZ HSD HP HSN ⊢
  generalize t.gas = gas at *
  generalize t.seq = q at *
  generalize t.sg = sg at *
  clear hx
  obtain ⟨fa, fb, fc, fd⟩ := x
  dsimp only at HCK ⊢
  obtain ⟨ez, hez⟩ : ∃ ez, ez = eqB ⟨fa, fb, fc, fd⟩ U4.zero := ⟨_, rfl⟩
  rw [← hez] at HZ HP
  obtain ⟨SD, hSD⟩ : ∃ SD, SD = sendM R sg feesS fuelS ⟨fa, fb, fc, fd⟩ := ⟨_, rfl⟩
  rw [← hSD] at HSD HP HSN
  clear hez hSD
  unfold U4.val U4.cells at HZ HSD
  unfold feesS fuelS at HSD
  have hbox := heap_alloc_new W' (.cells #[.string sg, .int .u64 (q : Int), .int .u64 (gas : Int), .int .u64 (fa : Int), .int .u64 (fb : Int), .int .u64 (fc : Int), .int .u64 (fd : Int), .slice Am nm cm, .slice As sl cs] 29)
  have ha0 : Below W'.heap.size W' (W'.alloc (.cells #[.string sg, .int .u64 (q : Int), .int .u64 (gas : Int), .int .u64 (fa : Int), .int .u64 (fb : Int), .int .u64 (fc : Int), .int .u64 (fd : Int), .slice Am nm cm, .slice As sl cs] 29)) := (Below.refl _ _).alloc (Nat.le_refl _) _
  go_enter Tryz.func10, Tryz.ntmps10
  go_wp2_with fail
  generalize W'.alloc (.cells #[.string sg, .int .u64 (q : Int), .int .u64 (gas : Int), .int .u64 (fa : Int), .int .u64 (fb : Int), .int .u64 (fc : Int), .int .u64 (fd : Int), .slice Am nm cm, .slice As sl cs] 29) = W0 at *
  have HC : Hid (∀ Z, Below W0.heap.size W0 Z → Z.cell? ⟨W'.heap.size, 0, none⟩ = some (.string sg) ∧ Z.cell? ⟨W'.heap.size, 3, none⟩ = some (.int .u64 (fa : Int)) ∧ Z.cell? ⟨W'.heap.size, 4, none⟩ = some (.int .u64 (fb : Int)) ∧ Z.cell? ⟨W'.heap.size, 5, none⟩ = some (.int .u64 (fc : Int)) ∧ Z.cell? ⟨W'.heap.size, 6, none⟩ = some (.int .u64 (fd : Int))) := Lib.hid fun Z hb => by
    have hz := (hb.block _ (blk_lt hbox)).trans hbox
    exact ⟨blk_cell hz 0, blk_cell hz 3, blk_cell hz 4, blk_cell hz 5, blk_cell hz 6⟩
  refine (HCK.out _ ha0).mono ?_
  rintro e w1 ⟨rfl, hb1⟩
  have hq1 := below_chain ha0 ha0.size hb1
  by_cases hQ0 : Q = 0
  rotate_left
  · have f1 : (Q != 0) = true := by simpa using hQ0
    have HR := Lib.hid (HM.out.1 hQ0)
    have A1 := (HA0.out.up hq1).more (k' := k + 3) (by omega)
    clear HCK HSD HZ HM HC
    go_wp2_with fail
    go_ret
    obtain rfl := HR.out
    exact ⟨rfl, A1, Kept.of_below hq1⟩
  obtain ⟨r, b, s, hga, -, -, -, hrl, -⟩ := HCO.out hQ0
  obtain ⟨l, g1, g2, g3, g4⟩ := getA_ok hga
  have HKF : Hid (keyB (kAcc sg) = true) := Lib.hid (HFI.out _ g1)
  have HRL : Hid (r.length ≤ 60000) := Lib.hid (by omega)
  have HBL : Hid (b < 18446744073709551616) := Lib.hid g3
  have HM2 : Hid (PD.1 ≠ 0 → QA = (PD.1, R)) := Lib.hid fun e => HM.out.2.1 hQ0 e
  have HM3 : Hid (PD.1 = 0 → QA = (0, putA PD.2 sg r b ((s + 1) % 18446744073709551616))) := Lib.hid fun e => HM.out.2.2 hQ0 e r b s hga
  have HGA := Lib.hid hga
  subst hQ0
  obtain ⟨c0, c3, c4, c5, c6⟩ := HC.out _ hb1
  clear HM HCO hga hrl g1 g2 HFI HCK hbox
  go_wp2_with fail
  refine (HZ.out _).mono ?_
  rintro e w2 ⟨rfl, hb2⟩
  have hb02 := below_chain hb1 hb1.size hb2
  have hq2 := below_chain hq1 hq1.size hb2
  obtain ⟨c0, c3, c4, c5, c6⟩ := HC.out _ hb02
  have HKC := Lib.hid c0
  cases ez with
  | true =>
    have hpd := HP.out.1 rfl
    subst hpd
    have hQA := HM3.out rfl
    obtain ⟨QE, QR⟩ := QA
    have HQ0 : Hid (QE = 0) := Lib.hid (by injection hQA)
    have hQR : QR = putA R sg r b ((s + 1) % 18446744073709551616) := by injection hQA
    have HA3 := Lib.hid (HA0.out.up hq2)
    have HG3 := Lib.hid (aget_any HA3.out sg HSS.out)
    have HGR := HGA
    have HNK : Hid (y.n + k < maxLen) := Lib.hid (by have := HNN.out; omega)
    have HAX : Hid (∀ w', Acc W y (putA R sg r b ((s + 1) % 18446744073709551616)) (k + 1) w' → Acc W y QR (k + 3) w') := Lib.hid fun w' a => by rw [hQR]; exact a.more (by omega)
    have HK3 : Hid (Kept W' w2) := Lib.hid (Kept.of_below hq2)
    clear hQA hQR HSD HZ HM2 HM3 HC HA0 HP HGP HSN HNN hq2 hb02 hq1 hb1 hb2 ha0 c3 c4 c5 c6
    go_wp2_with fail
    refine HG3.out.mono ?_
    rintro e w5 ⟨⟨v5, r5, b5, s5, hga, rfl, ho5⟩ | ⟨hga, -⟩, hb5⟩
    rotate_left
    · rw [HGR.out] at hga; cases hga
    rw [HGR.out] at hga
    injection hga with e1
    injection e1 with e1 e2
    injection e2 with e2 e3
    subst e1
    subst e2
    subst e3
    have HO5 := Lib.hid ho5
    obtain ⟨A5, c5, hv5⟩ := ho5.form
    subst hv5
    obtain ⟨n5, hn5⟩ : ∃ n, n = r.length := ⟨_, rfl⟩
    rw [← hn5] at HO5 ⊢
    clear hn5
    have hk6 := heap_alloc_new w5 (.cells #[.slice A5 n5 c5, .int .u64 (b : Int), .int .u64 (s : Int)] 38)
    have hal : Below w5.heap.size w5 (w5.alloc (.cells #[.slice A5 n5 c5, .int .u64 (b : Int), .int .u64 (s : Int)] 38)) := (Below.refl _ _).alloc (Nat.le_refl _) _
    have z0 := blk_cell hk6 0
    have z1 := blk_cell hk6 1
    have z2 := blk_cell hk6 2
    have f2 := blk_free hk6 2
    simp at z0 z1 z2
    obtain ⟨x, hx⟩ : ∃ x, x = (s + 1) % 18446744073709551616 := ⟨_, rfl⟩
    have hw : IntKind.u64.wrap ((s : Int) + 1) = (x : Int) := by rw [hx, IntKind.wrap_u64]; omega
    have hc5 : w5.cell? ⟨W'.heap.size, 0, none⟩ = some (.string sg) := (Kept.of_below hb5).cell HKC.out
    have hlt5 : W'.heap.size < w5.heap.size := World.block_lt_of_cell? w5 _ hc5
    have hne5 : W'.heap.size ≠ w5.heap.size := Nat.ne_of_lt hlt5
    have hne6 : w5.heap.size ≠ W'.heap.size := fun h => hne5 h.symm
    have HPT : Hid (Calls Tryz.prog 37 #[.pointer (some ⟨y.b, 0, none⟩), .string sg, .agg #[.slice A5 n5 c5, .int .u64 (b : Int), .int .u64 (x : Int)]] (w5.alloc (.cells #[.slice A5 n5 c5, .int .u64 (b : Int), .int .u64 (x : Int)] 38)) fun e w' => e = .returned (.tuple #[]) ∧ Acc W y QR (k + 3) w' ∧ Kept W' w') := Lib.hid (by
      have hbb : Below w5.heap.size w5 (w5.alloc (.cells #[.slice A5 n5 c5, .int .u64 (b : Int), .int .u64 (x : Int)] 38)) := (Below.refl _ _).alloc (Nat.le_refl _) _
      have hb6 := below_chain hb5 hb5.size hbb
      have q := aput_any (HA3.out.up hb6) HNK.out sg HKF.out (.slice A5 n5 c5) r (HO5.out.rd.up (Nat.le_refl _) hbb) HRL.out b x HBL.out (by omega)
      refine q.mono ?_
      rintro e w' ⟨q1, q2, q3⟩
      exact ⟨q1, HAX.out _ (by rw [← hx]; exact q2), HK3.out.trans ((Kept.of_below hb6).trans q3)⟩)
    clear HG3 HGR HO5 ho5 hk6 hal hb5 HA3 HNK HKF HRL HBL HK3 HAX HKC hx
    go_wp2_with fail
    refine HPT.out.mono ?_
    rintro e w7 ⟨rfl, A7, K7⟩
    go_wp2_with fail
    go_ret
    obtain rfl := HQ0.out
    exact ⟨rfl, A7, K7⟩
  | false =>
    have hpd := HP.out.2 rfl
    subst hpd
    have HSD2 := Lib.hid (HSD.out _ hq2)
    clear HSD HZ HP
    go_wp2_with fail
    refine HSD2.out.mono ?_
    rintro e w4 ⟨rfl, A4, K4⟩
    obtain ⟨se, SR⟩ := PD
    by_cases hs0 : se = 0
    · subst hs0
      have hQA := HM3.out rfl
      obtain ⟨QE, QR⟩ := QA
      have HQ0 : Hid (QE = 0) := Lib.hid (by injection hQA)
      have hQR : QR = putA SR sg r b ((s + 1) % 18446744073709551616) := by injection hQA
      have HA3 := Lib.hid A4
      have HG3 := Lib.hid (aget_any HA3.out sg HSS.out)
      have HGR : Hid (getA SR sg = some (r, b, s)) := Lib.hid (HGP.out.trans HGA.out)
      have HNK : Hid (y.n + (k + 2) < maxLen) := Lib.hid (by have := HNN.out; omega)
      have HAX : Hid (∀ w', Acc W y (putA SR sg r b ((s + 1) % 18446744073709551616)) (k + 2 + 1) w' → Acc W y QR (k + 3) w') := Lib.hid fun w' a => by rw [hQR]; exact a
      have HK3 : Hid (Kept W' w4) := Lib.hid ((Kept.of_below hq2).trans K4)
      have hkc4 := K4.cell c0
      have HKC := Lib.hid hkc4
      clear hQA hQR HSD2 HM2 HM3 HC HA0 HGP HSN HNN hq2 hb02 hq1 hb1 hb2 ha0 c0 c3 c4 c5 c6 K4 A4
      go_wp2_with fail
      refine HG3.out.mono ?_
      rintro e w5 ⟨⟨v5, r5, b5, s5, hga, rfl, ho5⟩ | ⟨hga, -⟩, hb5⟩
      rotate_left
      · rw [HGR.out] at hga; cases hga
      rw [HGR.out] at hga
      injection hga with e1
      injection e1 with e1 e2
      injection e2 with e2 e3
      subst e1
      subst e2
      subst e3
      have HO5 := Lib.hid ho5
      obtain ⟨A5, c5, hv5⟩ := ho5.form
      subst hv5
      obtain ⟨n5, hn5⟩ : ∃ n, n = r.length := ⟨_, rfl⟩
      rw [← hn5] at HO5 ⊢
      clear hn5
      have hk6 := heap_alloc_new w5 (.cells #[.slice A5 n5 c5, .int .u64 (b : Int), .int .u64 (s : Int)] 38)
      have hal : Below w5.heap.size w5 (w5.alloc (.cells #[.slice A5 n5 c5, .int .u64 (b : Int), .int .u64 (s : Int)] 38)) := (Below.refl _ _).alloc (Nat.le_refl _) _
      have z0 := blk_cell hk6 0
      have z1 := blk_cell hk6 1
      have z2 := blk_cell hk6 2
      have f2 := blk_free hk6 2
      simp at z0 z1 z2
      obtain ⟨x, hx⟩ : ∃ x, x = (s + 1) % 18446744073709551616 := ⟨_, rfl⟩
      have hw : IntKind.u64.wrap ((s : Int) + 1) = (x : Int) := by rw [hx, IntKind.wrap_u64]; omega
      have hc5 : w5.cell? ⟨W'.heap.size, 0, none⟩ = some (.string sg) := (Kept.of_below hb5).cell HKC.out
      have hlt5 : W'.heap.size < w5.heap.size := World.block_lt_of_cell? w5 _ hc5
      have hne5 : W'.heap.size ≠ w5.heap.size := Nat.ne_of_lt hlt5
      have hne6 : w5.heap.size ≠ W'.heap.size := fun h => hne5 h.symm
      have HPT : Hid (Calls Tryz.prog 37 #[.pointer (some ⟨y.b, 0, none⟩), .string sg, .agg #[.slice A5 n5 c5, .int .u64 (b : Int), .int .u64 (x : Int)]] (w5.alloc (.cells #[.slice A5 n5 c5, .int .u64 (b : Int), .int .u64 (x : Int)] 38)) fun e w' => e = .returned (.tuple #[]) ∧ Acc W y QR (k + 3) w' ∧ Kept W' w') := Lib.hid (by
        have hbb : Below w5.heap.size w5 (w5.alloc (.cells #[.slice A5 n5 c5, .int .u64 (b : Int), .int .u64 (x : Int)] 38)) := (Below.refl _ _).alloc (Nat.le_refl _) _
        have hb6 := below_chain hb5 hb5.size hbb
        have q := aput_any (HA3.out.up hb6) HNK.out sg HKF.out (.slice A5 n5 c5) r (HO5.out.rd.up (Nat.le_refl _) hbb) HRL.out b x HBL.out (by omega)
        refine q.mono ?_
        rintro e w' ⟨q1, q2, q3⟩
        exact ⟨q1, HAX.out _ (by rw [← hx]; exact q2), HK3.out.trans ((Kept.of_below hb6).trans q3)⟩)
      clear HG3 HGR HO5 ho5 hk6 hal hb5 HA3 HNK HKF HRL HBL HK3 HAX HKC hx
      go_wp2_with fail
      refine HPT.out.mono ?_
      rintro e w7 ⟨rfl, A7, K7⟩
      go_wp2_with fail
      go_ret
      obtain rfl := HQ0.out
      exact ⟨rfl, A7, K7⟩
    · have f1 : (se != 0) = true := by simpa using hs0
      have HR := Lib.hid (HM2.out hs0)
      have hSR : SR = R := HSN.out hs0
      subst hSR
      have HKK := Lib.hid ((Kept.of_below hq2).trans K4)
      have A5 := A4.more (k' := k + 3) (by omega)
      clear HSD2 HM2 HM3 HC HA0 HGP HSN HNN hq2 hb02 hq1 hb1 hb2 ha0 c0 c3 c4 c5 c6 K4 A4
      go_wp2_with fail
      go_ret
      obtain rfl := HR.out
      exact ⟨rfl, A5, HKK.out⟩
end Go.Proofs.YtniclaapiabmdaaGreatDoor
namespace Go.Proofs.YtniclaapiabmdaaGreatDoor
set_option maxRecDepth 100000
open Go Go.RowKit
set_option linter.unusedVariables false

theorem make32 (W : World) : (Instr.makeSlice 27 (.int .i64 32) (.int .i64 32)).run Tryz.prog W = .ok (.slice (some ⟨W.heap.size, 0, none⟩) 32 32) (W.alloc (.cells (bcells (List.replicate 32 0)).toArray 5)) := by
  obtain ⟨i0, hi, hz, hsz, hby⟩ := info_parts Tryz.infoByte
  have h := run_make W 27 5 i0 (.int .u8 0) Tryz.underlying27 hi hz .i64 .i64 32 32 (by omega) (by omega) (by rw [hby]; omega) (by omega)
  rw [hsz] at h
  have e : madeCells (Value.int .u8 0).cells (Int.toNat 32 * 1) = (bcells (List.replicate 32 0)).toArray := by
    rw [show Int.toNat 32 * 1 = 32 from rfl]
    apply Array.ext'
    rw [show (Value.int IntKind.u8 0).cells = #[Value.int .u8 0] from rfl, toList_madeCells_one]
    rfl
  rw [e] at h
  exact h
def zR : List UInt8 := List.replicate 32 0
theorem zR_len : zR.length = 32 := by simp [zR]
def fxR : List Pr := putA [] kAnn zR 0 0
theorem fxA1 : createM [] kAnn zR = (0, fxR) := by
  have h1 : identB kAnn = true := by decide +kernel
  unfold createM
  rw [if_pos h1, if_pos zR_len, if_neg (by simp [getL])]
  rfl
theorem fxA2 : createM fxR kAnn zR = (111, fxR) := by
  have h := create_twice (R := []) (a := kAnn) (r := zR) (by rw [fxA1])
  rw [fxA1] at h
  exact h
theorem fxA3 : getA fxR kAnn = some (zR, 0, 0) := getA_put (by rw [zR_len]; omega) (by omega) (by omega)
theorem fxA4 : getA fxR kBob = none := by
  unfold getA fxR putA
  rw [getL_putL, if_neg (by decide +kernel)]
  rfl
def kC1 : ByteArray := ⟨#[99]⟩
set_option maxHeartbeats 8000000 in
theorem afixed_any (w : World) : Calls Tryz.prog 7 #[] w fun e w' => e = .returned (.bool true) ∧ Below w.heap.size w w' := by
  have HN := Lib.hid (new_any w (.slice none 0 0) [] ⟨none, 0, rfl, Nat.le_refl _, Nat.zero_le _, fun h => absurd h (by simp)⟩ (by simp))
  have hmk := make32
  go_enter Tryz.func7, Tryz.ntmps7
  go_wp2_with fail
  refine HN.out.mono ?_
  rintro e w1 ⟨h1 | ⟨-, y, rfl, hyb, hym, hyn, hly, hri, hp1⟩, hb1⟩
  · exact absurd h1.1 (by decide)
  have A1 := Acc.made hp1 hly hri (by simp)
  obtain ⟨yb, ym, yn, yf⟩ := y
  dsimp only at hyb hym hyn ⊢
  have hyn' : yn = 0 := hyn
  clear hyn
  subst hyn'
  have hW1 := hb1.size
  have HB1 := Lib.hid hb1
  have ho1 := Own.made (B := w1.heap.size) w1 (List.replicate 32 0) (Nat.le_refl _) (by simp [maxLen])
  have A1' := A1.up ((Below.refl _ _).alloc (Nat.le_refl _) (.cells (bcells (List.replicate 32 0)).toArray 5))
  have HM : Hid (Calls Tryz.prog 19 #[.pointer (some ⟨yb, 0, none⟩), .string kAnn, .slice (some ⟨w1.heap.size, 0, none⟩) 32 32] (w1.alloc (.cells (bcells (List.replicate 32 0)).toArray 5)) fun e w' => e = .returned (.int .i64 (createM [] kAnn zR).1) ∧ Acc w1 ⟨yb, ym, 0, yf⟩ (createM [] kAnn zR).2 1 w' ∧ Kept (w1.alloc (.cells (bcells (List.replicate 32 0)).toArray 5)) w') :=
    Lib.hid (acreate_any A1' (show 0 + 0 < maxLen by unfold maxLen; omega) kAnn (by decide +kernel) _ zR ho1.rd)
  rw [fxA1] at HM
  clear HN hb1 hp1 hly hri A1 A1' ho1
  go_wp2_with fail
  refine HM.out.mono ?_
  rintro e w2 ⟨rfl, A2, -⟩
  have ho2 := Own.made (B := w2.heap.size) w2 (List.replicate 32 0) (Nat.le_refl _) (by simp [maxLen])
  have A2' := A2.up ((Below.refl _ _).alloc (Nat.le_refl _) (.cells (bcells (List.replicate 32 0)).toArray 5))
  have HM2 : Hid (Calls Tryz.prog 19 #[.pointer (some ⟨yb, 0, none⟩), .string kAnn, .slice (some ⟨w2.heap.size, 0, none⟩) 32 32] (w2.alloc (.cells (bcells (List.replicate 32 0)).toArray 5)) fun e w' => e = .returned (.int .i64 (createM fxR kAnn zR).1) ∧ Acc w1 ⟨yb, ym, 0, yf⟩ (createM fxR kAnn zR).2 2 w' ∧ Kept (w2.alloc (.cells (bcells (List.replicate 32 0)).toArray 5)) w') :=
    Lib.hid (acreate_any A2' (show 0 + 1 < maxLen by unfold maxLen; omega) kAnn (by decide +kernel) _ zR ho2.rd)
  rw [fxA2] at HM2
  clear HM A2 A2' ho2
  go_wp2_with fail
  refine HM2.out.mono ?_
  rintro e w3 ⟨rfl, A3, -⟩
  replace A3 : Acc w1 ⟨yb, ym, 0, yf⟩ fxR 2 w3 := A3
  have HG := Lib.hid (aget_any A3 kAnn (by decide +kernel))
  have HA3 := Lib.hid A3
  clear HM2 A3 hmk
  go_wp2_with fail
  refine HG.out.mono ?_
  rintro e w4 ⟨⟨v, r, b, s, hga, rfl, ho4⟩ | ⟨hga, -⟩, hb4⟩
  rotate_left
  · rw [fxA3] at hga; cases hga
  have HGA := Lib.hid hga
  rw [fxA3] at hga
  have hrl : r.length = 32 := by
    injection hga with e1
    injection e1 with e1 _
    rw [← e1, zR_len]
  have hs0 : s = 0 := by
    injection hga with e1
    injection e1 with _ e1
    injection e1 with _ e1
    exact e1.symm
  have hs1 : ((s : Int) == 0) = true := by simp [hs0]
  obtain ⟨A, c, rfl⟩ := ho4.form' hrl
  have hk5 := heap_alloc_new w4 (.cells #[.slice A 32 c, .int .u64 (b : Int), .int .u64 (s : Int)] 38)
  have hb5 := hb4.alloc hb4.size (.cells #[.slice A 32 c, .int .u64 (b : Int), .int .u64 (s : Int)] 38)
  have z0 := blk_cell hk5 0
  have z1 := blk_cell hk5 1
  have z2 := blk_cell hk5 2
  simp at z0 z1 z2
  have A5 := HA3.out.up hb5
  have HAn : Hid (Calls Tryz.prog 10 #[.pointer (some ⟨yb, 0, none⟩), .string kC1, .agg #[.string kBob, .int .u64 0, .int .u64 0, .int .u64 0, .int .u64 0, .int .u64 0, .int .u64 0, .slice none 0 0, .slice none 0 0]] (w4.alloc (.cells #[.slice A 32 c, .int .u64 (b : Int), .int .u64 (s : Int)] 38)) fun e w' => e = .returned (.int .i64 80) ∧ Below (w4.alloc (.cells #[.slice A 32 c, .int .u64 (b : Int), .int .u64 (s : Int)] 38)).heap.size (w4.alloc (.cells #[.slice A 32 c, .int .u64 (b : Int), .int .u64 (s : Int)] 38)) w') :=
    Lib.hid (aante_early A5 kC1 kBob (by decide +kernel) 0 80 (Or.inl ⟨fxA4, rfl⟩))
  have HCk : Hid (∀ Z, Below (w4.alloc (.cells #[.slice A 32 c, .int .u64 (b : Int), .int .u64 (s : Int)] 38)).heap.size (w4.alloc (.cells #[.slice A 32 c, .int .u64 (b : Int), .int .u64 (s : Int)] 38)) Z → Calls Tryz.prog 9 #[.pointer (some ⟨yb, 0, none⟩), .string kC1, .agg #[.string kAnn, .int .u64 1, .int .u64 0, .int .u64 0, .int .u64 0, .int .u64 0, .int .u64 0, .slice none 0 0, .slice none 0 0]] Z fun e w' => e = .returned (.int .i64 81) ∧ Below Z.heap.size Z w') :=
    Lib.hid fun Z hz => acheck_early (A5.up hz) kC1 kAnn (by decide +kernel) 1 81 (Or.inr ⟨⟨r, b, s, HGA.out, by omega⟩, rfl⟩)
  have HF : Hid (∀ Z, Below (w4.alloc (.cells #[.slice A 32 c, .int .u64 (b : Int), .int .u64 (s : Int)] 38)).heap.size (w4.alloc (.cells #[.slice A 32 c, .int .u64 (b : Int), .int .u64 (s : Int)] 38)) Z → Below w.heap.size w Z) := Lib.hid fun Z hz => HB1.out.trans ((A5.up hz).below hym hW1)
  clear HG HA3 HGA hga hrl hs0 ho4 hk5 hb4 hb5 A5 HB1 hyb hym
  go_wp2_with fail
  generalize w4.alloc (.cells #[.slice A 32 c, .int .u64 (b : Int), .int .u64 (s : Int)] 38) = w5 at *
  refine HAn.out.mono ?_
  rintro e w6 ⟨rfl, hb6⟩
  have HC2 := Lib.hid (HCk.out _ hb6)
  clear HAn HCk
  go_wp2_with fail
  refine HC2.out.mono ?_
  rintro e w7 ⟨rfl, hb7⟩
  have hq := HF.out _ (below_chain hb6 hb6.size hb7)
  go_wp2_with fail
  go_ret
  exact ⟨rfl, hq⟩
end Go.Proofs.YtniclaapiabmdaaGreatDoor
namespace Go.Proofs.YtniclaapiabmdaaGreatDoor
set_option maxRecDepth 100000
open Go Go.RowKit
set_option linter.unusedVariables false

theorem wpAnyH_until {P : Program} {ops : Array Oper} {Q : Exit → Act → World → Prop} {S : World → Prop} {md : Region.Mode} {fuel : Nat} (I : Nat → Array Bool → Act → World → Prop)
    (h0 : ∀ L a w, I 0 L a w → wpAnyH P md ops Q S fuel L a w)
    (hstep : ∀ k, (∀ L a w, I k L a w → wpAnyH P md ops Q S (fuel + k) L a w) → ∀ L a w, I (k + 1) L a w → wpAnyH P md ops Q S (fuel + k + 1) L a w) :
    ∀ k L a w, I k L a w → wpAnyH P md ops Q S (fuel + k) L a w
  | 0 => h0
  | k + 1 => hstep k (wpAnyH_until I h0 hstep k)

/-- four blocks of numbers that may have been made since wd -/
structure Fl (wd : World) (b1 b2 b3 b4 : Bool) (g1 g2 g3 g4 : Nat) (W : World) : Prop where
  s : BelS wd W
  u1 : b1 = true → LBlk W g1 U4.zero.cells ∧ wd.heap.size ≤ g1
  u2 : b2 = true → LBlk W g2 U4.zero.cells ∧ wd.heap.size ≤ g2
  u3 : b3 = true → LBlk W g3 U4.zero.cells ∧ wd.heap.size ≤ g3
  u4 : b4 = true → LBlk W g4 U4.zero.cells ∧ wd.heap.size ≤ g4
  d12 : b1 = true → b2 = true → g1 ≠ g2
  d13 : b1 = true → b3 = true → g1 ≠ g3
  d14 : b1 = true → b4 = true → g1 ≠ g4
  d23 : b2 = true → b3 = true → g2 ≠ g3
  d24 : b2 = true → b4 = true → g2 ≠ g4
  d34 : b3 = true → b4 = true → g3 ≠ g4
abbrev zU : Obj := .cells #[.int .u64 0, .int .u64 0, .int .u64 0, .int .u64 0] 25
section
variable {wd W W' : World} {b1 b2 b3 b4 : Bool} {g1 g2 g3 g4 : Nat}
theorem Fl.up (h : Fl wd b1 b2 b3 b4 g1 g2 g3 g4 W) (hb : Below W.heap.size W W') : Fl wd b1 b2 b3 b4 g1 g2 g3 g4 W' where
  s := below_chain h.s (Below.size h.s) hb
  u1 := fun e => ⟨LBlk.below (h.u1 e).1 hb (h.u1 e).1.lt, (h.u1 e).2⟩
  u2 := fun e => ⟨LBlk.below (h.u2 e).1 hb (h.u2 e).1.lt, (h.u2 e).2⟩
  u3 := fun e => ⟨LBlk.below (h.u3 e).1 hb (h.u3 e).1.lt, (h.u3 e).2⟩
  u4 := fun e => ⟨LBlk.below (h.u4 e).1 hb (h.u4 e).1.lt, (h.u4 e).2⟩
  d12 := h.d12
  d13 := h.d13
  d14 := h.d14
  d23 := h.d23
  d24 := h.d24
  d34 := h.d34
theorem Fl.alloc (h : Fl wd b1 b2 b3 b4 g1 g2 g3 g4 W) : Fl wd b1 b2 b3 b4 g1 g2 g3 g4 (W.alloc zU) := h.up ((Below.refl _ _).alloc (Nat.le_refl _) _)
theorem Fl.new1 (h : Fl wd false b2 b3 b4 g1 g2 g3 g4 W) : Fl wd true b2 b3 b4 W.heap.size g2 g3 g4 (W.alloc zU) :=
  { h.alloc with u1 := fun _ => ⟨LBlk.new W U4.zero.cells, Below.size h.s⟩, d12 := fun _ e => Nat.ne_of_gt (h.u2 e).1.lt, d13 := fun _ e => Nat.ne_of_gt (h.u3 e).1.lt, d14 := fun _ e => Nat.ne_of_gt (h.u4 e).1.lt }
theorem Fl.new2 (h : Fl wd b1 false b3 b4 g1 g2 g3 g4 W) : Fl wd b1 true b3 b4 g1 W.heap.size g3 g4 (W.alloc zU) :=
  { h.alloc with u2 := fun _ => ⟨LBlk.new W U4.zero.cells, Below.size h.s⟩, d12 := fun e _ => Nat.ne_of_lt (h.u1 e).1.lt, d23 := fun _ e => Nat.ne_of_gt (h.u3 e).1.lt, d24 := fun _ e => Nat.ne_of_gt (h.u4 e).1.lt }
theorem Fl.none (wd : World) : Fl wd false false false false 0 0 0 0 wd := by
  refine ⟨BelS.refl _, ?_, ?_, ?_, ?_, ?_, ?_, ?_, ?_, ?_, ?_⟩
  all_goals (intro e; cases e)
end
theorem LBlk.far4U {w : World} {g g' : Nat} {cs : Array Value} (h : LBlk w g cs) (hne : g ≠ g') (x0 x1 x2 x3 : Value) : LBlk ((((w.setCell ⟨g', 0, none⟩ x0).setCell ⟨g', 1, none⟩ x1).setCell ⟨g', 2, none⟩ x2).setCell ⟨g', 3, none⟩ x3) g cs :=
  (((h.far hne 0 x0).far hne 1 x1).far hne 2 x2).far hne 3 x3
def setB (b : Bool) (i : Nat) (v : Value) (T : Array Value) : Array Value := if b = true then T.setIfInBounds i v else T
def pU (g : Nat) : Value := .pointer (some ⟨g, 0, none⟩)
def nB (b : Bool) : Nat := if b = true then 0 else 1

end Go.Proofs.YtniclaapiabmdaaGreatDoor
