
/- The law: a client that is frozen stays so, takes no news and shows nothing. -/
import Derived.Test.YtmphegeiclgjbaaGreatDoorClnG1
import Derived.Test.YtmphegeiclgjbaaGreatDoorMsgV
namespace Go.Proofs.YtmphegeiclgjbaaGreatDoor
set_option maxRecDepth 100000
open Go Go.RowKit
set_option linter.unusedVariables false
set_option maxHeartbeats 64000000 in
theorem clfrozen_law (w : World) (v1 v2 v3 : Value) (ps1 ps2 : List Pr) (xs : List StepV) (h1 : RdP w w.heap.size v1 ps1) (h2 : RdP w w.heap.size v2 ps2) (n1 : ∀ p ∈ ps1, p.1.size ≤ maxLen) (n2 : ∀ p ∈ ps2, p.1.size ≤ maxLen) (l1 : ps1.length ≤ 2000000) (l2 : ps2.length ≤ 2000000)
    (hx : RdSt w v3 xs) (hf : ∀ x ∈ xs, x.fine) (lx : xs.length ≤ 2000000) (hT : Pows w) (fr : TypeId × Nat × Nat) (hk : w.heap[0]? = some (.cells kVals fr.1 fr.2)) :
    Calls Tryz.prog 3 #[v1, v2, v3] w fun e w' => e = .returned (.bool true) ∧ Below w.heap.size w w' := by
  have HS := Lib.hid (clstores_any w v1 v2 ps1 ps2 h1 h2 n1 n2 l1 l2)
  have HFX : Hid (∀ Z, Below w.heap.size w Z → Calls Tryz.prog 12 #[] Z fun e w' => e = .returned (.bool true) ∧ Below Z.heap.size Z w') := Lib.hid fun Z hz => clfixed_any Z fr ((hz.block _ (blk_lt hk)).trans hk)
  have HX := Lib.hid (fun (Z : World) (hz : Kept w Z) => hx.keptM hz)
  have HFI := Lib.hid hf
  have HTB : Hid (∀ Z, Kept w Z → Pows Z ∧ Z.heap[0]? = some (.cells kVals fr.1 fr.2)) := Lib.hid fun Z hz => ⟨hT.kept hz, hz.blockP hk⟩
  obtain ⟨A1, c1, rfl⟩ : ∃ A c, v1 = .slice A ps1.length c := by obtain ⟨A, c, h, _⟩ := h1; exact ⟨A, c, h⟩
  obtain ⟨A2, c2, rfl⟩ : ∃ A c, v2 = .slice A ps2.length c := by obtain ⟨A, c, h, _⟩ := h2; exact ⟨A, c, h⟩
  obtain ⟨A3, c3, rfl⟩ : ∃ A c, v3 = .slice A xs.length c := by obtain ⟨A, c, h, _⟩ := hx; exact ⟨A, c, h⟩
  obtain ⟨n, hn⟩ : ∃ n, n = xs.length := ⟨_, rfl⟩
  rw [← hn] at HX ⊢
  have HN : Hid (n = xs.length ∧ n ≤ 2000000) := Lib.hid ⟨hn, by rw [hn]; exact lx⟩
  clear h1 h2 n1 n2 l1 l2 hx hf lx hT hk hn
  go_enter Tryz.func3, Tryz.ntmps3
  go_wp2_with fail
  refine HS.out.mono ?_
  rintro e w1 ⟨p1, p2, ok, rfl, hb1, hok⟩
  have HBL : Hid (∀ Z, Z = w1.alloc (.cells #[.pointer p1, .pointer p2] 25) → Below w.heap.size w Z) := Lib.hid fun Z e => by rw [e]; exact hb1.trans (((Below.refl _ _).alloc (Nat.le_refl _) _).mono hb1.size)
  have HUP : Hid (∀ (Z : World) (b m b' m' : Nat) (R R' : List Pr) (N : Nat), Z = w1.alloc (.cells #[.pointer p1, .pointer p2] 25) → Sts w b m b' m' R R' N w1 → Sts w b m b' m' R R' N Z) := Lib.hid fun Z b m b' m' R R' N e h => by rw [e]; exact h.up ((Below.refl _ _).alloc (Nat.le_refl _) _)
  have HRG := Lib.hid (heap_alloc_new w1 (.cells #[.pointer p1, .pointer p2] 25))
  have HOK := Lib.hid hok
  clear HS hb1 hok
  go_wp2_with fail
  generalize w1.alloc (.cells #[.pointer p1, .pointer p2] 25) = wB at *
  generalize w1.heap.size = g7 at *
  have hqB := HBL.out _ rfl
  refine (HFX.out _ hqB).mono ?_
  rintro e w4 ⟨rfl, hb4⟩
  have hq4 : Below w.heap.size w w4 := hqB.trans (hb4.mono hqB.size)
  cases ok with
  | false =>
    clear HBL HUP HRG HOK hqB hb4
    go_wp2_with fail
    refine (HFX.out _ hq4).mono ?_
    rintro e w5 ⟨rfl, hb5⟩
    have hq5 : Below w.heap.size w w5 := hq4.trans (hb5.mono hq4.size)
    clear hq4 hb5
    go_wp2_with fail
    go_ret
    exact ⟨rfl, hq5⟩
  | true =>
    obtain ⟨b1, m1, b2, m2, rfl, rfl, hst, hn1, hn2⟩ := HOK.out rfl
    have HL : Hid (LS w b1 m1 b2 m2 g7 2000000 w4) := Lib.hid (by
      have hs := (HUP.out _ _ _ _ _ _ _ _ rfl hst).up hb4
      have hk4 := Kept.of_belowX hb4
      exact ⟨⟨_, _, hs⟩, hk4.cell (blk_cell HRG.out 0), hk4.cell (blk_cell HRG.out 1)⟩)
    clear HBL HUP HRG HOK hqB hb4 hst hn1 hn2 hq4 HFX
    go_wp2_with fail
    go_loopw [32] (fun i Z => ∃ j : Nat, j ≤ n ∧ i = .int .i64 (j : Int) ∧ LS w b1 m1 b2 m2 g7 (2000000 + 3 * j) Z)
      (fun i _ => n - (intOf i).toNat)
    case atStart => exact ⟨0, by omega, rfl, HL.out⟩
    case round => as_aux_lemma =>
      clear HL
      obtain ⟨j, hj, rfl, HX0⟩ := hrel
      by_cases hlt : j < n
      · have hkr := Kept.of_belowX HX0.bel
        have HTR := Lib.hid (fun (Z : World) (hz : Kept wr Z) => HTB.out _ (hkr.transX hz))
        obtain ⟨A', c', e', hrd, hcell⟩ := HX.out _ hkr
        have hjl : j < xs.length := by have := HN.out.1; omega
        obtain ⟨g, o, hA', -, hcl⟩ := hcell (by omega)
        injection e' with e1 e2 e3
        subst e1 e3
        subst hA'
        have hck := hcl j hjl
        have hmem : xs[j] ∈ xs := List.getElem_mem hjl
        have hm0 := hrd _ hmem
        have hfn := HFI.out _ hmem
        generalize xs[j] = x at *
        have HM := Lib.hid (fun (Z : World) (hz : Kept wr Z) => hm0.keptM hz)
        have HFQ := Lib.hid hfn
        have HJ : Hid (2000000 + 3 * j + 3 ≤ 100000000 ∧ 2000000 + 3 * j + 3 = 2000000 + 3 * (j + 1)) := Lib.hid (by have := HN.out.2; omega)
        obtain ⟨SL, hSL⟩ : ∃ L : List Value, L = x.cells := ⟨_, rfl⟩
        rw [← hSL] at hck
        have hl66 : SL.length = 66 := by rw [hSL]; rfl
        have hrng : wr.rangeAt g (o + j * 66) SL := fun i u hu => hck i u (by have := (List.getElem?_eq_some_iff.1 hu).1; omega) hu
        have HRNG := Lib.hid hrng
        have HINF : Hid ((Tryz.prog.info? 48).map (·.size) = some SL.length) := Lib.hid (by rw [hl66]; kernel_rfl)
        have HONE : Hid (SL.toArray.all (·.oneCell') = true) := Lib.hid (by rw [hSL]; exact x.one hm0)
        have HSL := Lib.hid hSL
        have hz66 : Array.size Tryz.zeroCells48 = 66 := by kernel_rfl
        have HTH : Hid ((wr.alloc (.cells Tryz.zeroCells48 48)).there wr.heap.size 0 SL.toArray.size) := Lib.hid (there_new _ _ _ _ (by rw [hz66]; simp [hl66]))
        have hrg0 := range_new wr (Tryz.zeroCells48) 48 SL (by rw [hz66, hl66]; exact Nat.le_refl _)
        have hb0 := below_new wr (Tryz.zeroCells48) 48 SL
        obtain ⟨i, b, m, b', m', R, R', hi, hi2, hs, hcb, hre⟩ := HX0.pick _ (and1i x.on)
        have hs0 := hs.up hb0
        have hk0 := Kept.of_belowX hb0
        have k0 := range_cellT hrg0 0 (.int .i64 x.on) (by rw [hSL]; rfl)
        have k11 := range_cellT hrg0 11 (.string x.m.cl) (by rw [hSL]; rfl)
        have kb := hk0.cell hcb
        have hj9 : n ≤ 2000000 := HN.out.2
        have j1 : (0 : Int) ≤ (j : Int) := by omega
        have j2 : (j : Int) < (n : Int) := by omega
        have i1 : (0 : Int) ≤ (i : Int) := by omega
        have i2 : (i : Int) < 2 := by omega
        have HR0 := Lib.hid (And.intro hs0 (And.intro hk0 (And.intro hrg0 hb0)))
        have HRE := Lib.hid hre
        clear hz66 hck hcl hcell hrd hmem hm0 hfn hl66 hrng hSL hrg0 hb0 hs0 hk0 hs hcb hre HX0 hkr e2
        go_wp2_with (first
          | (with_reducible refine at_load 48 ?_; refine wpList_load_mid rfl 48 (.tmp 34) rfl g (o + j * 66) rfl SL _ HRNG.out Tryz.underlying48 rfl HINF.out ?_)
          | (with_reducible refine at_store 48 ?_; refine wpList_store_mid rfl 48 (.tmp 10) (.tmp 35) rfl wr.heap.size 0 SL.toArray rfl rfl HTH.out (by have := HINF.out; simpa using this) HONE.out ?_))
        try simp only [List.toList_toArray]
        clear k0 k11 kb
        obtain ⟨hs0, hk0, hrg0, hb0⟩ := HR0.out
        generalize (wr.alloc (.cells Tryz.zeroCells48 48)).setCells wr.heap.size 0 SL = w0 at *
        obtain ⟨nn, ff, hnn, AT0⟩ := hs0.at
        have hcl : x.m.cl.size ≤ 1048576 := HFQ.out.m.t _ (by simp [MsgV.texts])
        have hG0 := clget_any AT0 x.m.cl (by omega)
        rw [clV_got] at hG0
        have hft := AT0.fitR
        have hok0 : (gotC (getCl R x.m.cl)).ok := gotC_ok
        obtain ⟨C0, hC0⟩ : ∃ C, C = gotC (getCl R x.m.cl) := ⟨_, rfl⟩
        obtain ⟨B0, hB0⟩ : ∃ B, B = (getCl R x.m.cl).isSome := ⟨_, rfl⟩
        rw [← hC0, ← hB0] at hG0
        obtain ⟨ch0, la0, pe0, fr0⟩ := C0
        unfold ClV.val at hG0
        dsimp only at hG0
        have HG0 := Lib.hid hG0
        have HT0 := Lib.hid (And.intro hs0 (And.intro hnn AT0))
        have HK0 := Lib.hid (And.intro hk0 hrg0)
        have HCL := Lib.hid hcl
        have HC0 := Lib.hid (And.intro (And.intro hC0 hB0) hft)
        obtain ⟨⟨E, R2⟩, hU⟩ : ∃ p, p = stepM14 R x := ⟨_, rfl⟩
        have HU := Lib.hid hU
        clear hG0 hs0 hnn AT0 hk0 hrg0 hcl hC0 hB0 hft hok0 hU hb0 HR0 HTH HRNG HONE
        generalize wr.heap.size = g10 at *
        refine HG0.out.mono ?_
        rintro e wA ⟨rfl, hbA⟩
        have hkA := HK0.out.1.transX (Kept.of_belowX hbA)
        have HRA := Lib.hid (fun (Z : World) (hz : Kept wA Z) => range_kept HK0.out.2 ((Kept.of_belowX hbA).transX hz))
        have hST := fun (Z : World) (hz : Below wA.heap.size wA Z) => clstep_any ((HT0.out.2.2.up hbA).up hz) (show nn + 0 + 3 ≤ maxLen by have := HT0.out.2.1; have := HJ.out.1; unfold maxLen; omega) x (HM.out _ (hkA.transX (Kept.of_belowX hz))) HFQ.out (HTR.out _ (hkA.transX (Kept.of_belowX hz))).1 fr (HTR.out _ (hkA.transX (Kept.of_belowX hz))).2
        rw [← HSL.out] at hST
        rw [← HU.out] at hST
        dsimp only at hST
        have HST := Lib.hid hST
        have HKA := Lib.hid hkA
        have hmA := heap_alloc_new wA (.cells #[.string ch0, .int .u64 (la0 : Int), .int .u64 (pe0 : Int), .bool fr0] 50)
        have hbz : Below wA.heap.size wA (wA.alloc (.cells #[.string ch0, .int .u64 (la0 : Int), .int .u64 (pe0 : Int), .bool fr0] 50)) := (Below.refl _ _).alloc (Nat.le_refl _) _
        have HMA := Lib.hid hmA
        have HBZ := Lib.hid hbz
        have HKZ := Lib.hid (Kept.of_belowX hbz)
        clear hST hbA hkA HG0 hmA hbz
        go_wp2_with (with_reducible refine at_load 48 ?_; refine wpList_load_mid rfl 48 (.tmp 10) rfl g10 0 rfl SL _ (HRA.out _ (Kept.of_belowX ((Below.refl _ _).alloc (Nat.le_refl _) _))) Tryz.underlying48 rfl HINF.out ?_)
        generalize wA.alloc (.cells #[.string ch0, .int .u64 (la0 : Int), .int .u64 (pe0 : Int), .bool fr0] 50) = wA2 at *
        generalize wA.heap.size = gA at *
        have hmA := HMA.out
        have hbz := HBZ.out
        refine (HST.out _ hbz).mono ?_
        rintro e w2 ⟨rfl, A2, hk2⟩
        have hkA2 := HKZ.out
        have hr2 := range_kept (HRA.out _ hkA2) hk2
        have hm2 := hk2.blockP hmA
        have hkw2 := HKA.out.transX (hkA2.transX hk2)
        have hG1 := clget_any A2 x.m.cl (by have := HCL.out; omega)
        rw [clV_got] at hG1
        have hfc := fun hk => frozen_cases (R := R) (x := x) HC0.out.2 (HM.out _ (Kept.refl _)).r_h.ht hk
        have hvf := fun (h1 : (getCl R2 x.m.cl).isSome = true) (h2 : (gotC (getCl R2 x.m.cl)).fr = true) => And.intro (verify_frozen (got_some h1) h2) (absent_frozen (got_some h1) h2)
        have hok1 : (gotC (getCl R2 x.m.cl)).ok := gotC_ok
        rw [← HU.out, ← HC0.out.1.1, ← HC0.out.1.2] at hfc
        dsimp only at hfc
        obtain ⟨C1, hC1⟩ : ∃ C, C = gotC (getCl R2 x.m.cl) := ⟨_, rfl⟩
        obtain ⟨B1, hB1⟩ : ∃ B, B = (getCl R2 x.m.cl).isSome := ⟨_, rfl⟩
        rw [← hC1, ← hB1] at hG1 hfc hvf
        rw [← hC1] at hok1
        obtain ⟨ch1, la1, pe1, fr1⟩ := C1
        unfold ClV.val at hG1
        dsimp only at hG1 hfc hvf
        have HG1 := Lib.hid hG1
        have HFC := Lib.hid hfc
        have HVA := Lib.hid hvf
        have HLA : Hid (la1 < 18446744073709551616) := Lib.hid hok1.2.1
        obtain ⟨Ap, cp, hpv⟩ := (HM.out _ (Kept.refl _)).r_pf.form
        have HPV := Lib.hid hpv
        have HCF : Hid (∀ Z, Kept w2 Z → Z.cell? ⟨g10, 2, none⟩ = some (.int .u64 (x.now : Int)) ∧ Z.cell? ⟨g10, 4, none⟩ = some (.int .i64 x.m.kd) ∧ Z.cell? ⟨g10, 11, none⟩ = some (.string x.m.cl) ∧ Z.cell? ⟨g10, 49, none⟩ = some (.int .i64 x.m.pf.n) ∧ Z.cell? ⟨g10, 50, none⟩ = some (.slice Ap x.m.pf.ls.length cp) ∧
            Z.cell? ⟨gA, 0, none⟩ = some (.string ch0) ∧ Z.cell? ⟨gA, 1, none⟩ = some (.int .u64 (la0 : Int)) ∧ Z.cell? ⟨gA, 2, none⟩ = some (.int .u64 (pe0 : Int)) ∧ Z.cell? ⟨gA, 3, none⟩ = some (.bool fr0)) := Lib.hid fun Z hz =>
          ⟨hz.cell (range_cellT hr2 2 _ (by rw [HSL.out]; rfl)), hz.cell (range_cellT hr2 4 _ (by rw [HSL.out]; rfl)), hz.cell (range_cellT hr2 11 _ (by rw [HSL.out]; rfl)), hz.cell (range_cellT hr2 49 _ (by rw [HSL.out]; rfl)), by rw [← hpv]; exact hz.cell (range_cellT hr2 50 _ (by rw [HSL.out]; rfl)),
            blk_cell (hz.blockP hm2) 0, blk_cell (hz.blockP hm2) 1, blk_cell (hz.blockP hm2) 2, blk_cell (hz.blockP hm2) 3⟩
        have HA2 := Lib.hid A2
        have HK2 := Lib.hid hkw2
        have k11 := range_cellT hr2 11 (.string x.m.cl) (by rw [HSL.out]; rfl)
        clear A2 hk2 hkA2 hr2 hm2 hkw2 hG1 hfc hvf hC1 hB1 hok1 hpv hmA hbz HST HMA HBZ HKZ HRA HC0 HKA
        go_wp2_with fail
        clear k11
        refine HG1.out.mono ?_
        rintro e w3 ⟨rfl, hb3⟩
        clear HG1
        have hk3 := Kept.of_belowX hb3
        have HLS : Hid (∀ Z, Below w3.heap.size w3 Z → LS w b1 m1 b2 m2 g7 (2000000 + 3 * (j + 1)) Z) := Lib.hid (fun Z hz => HRE.out R2 Z _ (by
          have h := ((HT0.out.1.step HT0.out.2.1 HA2.out).up hb3).up hz
          have e : 2000000 + 3 * j + (0 + 3) = 2000000 + 3 * (j + 1) := by omega
          rw [← e]; exact h) (HK2.out.transX (hk3.transX (Kept.of_belowX hz))))
        have HVE : Hid (∀ Z, Below w3.heap.size w3 Z → B1 = true → fr1 = true → Calls Tryz.prog 15 #[.pointer (some ⟨b, 0, none⟩), .string x.m.cl, .int .u64 (la1 : Int), .string ⟨#[107]⟩, .slice none 0 0, .agg #[.int .i64 x.m.pf.n, .slice Ap x.m.pf.ls.length cp], .int .u64 (x.now : Int)] Z fun e w' => e = .returned (.int .i64 102) ∧ Below Z.heap.size Z w') := Lib.hid (fun Z hz h1 h2 => by
          have hkz := HK2.out.transX (hk3.transX (Kept.of_belowX hz))
          have h := clverify_any ((HA2.out.up hb3).up hz) x.m.cl la1 x.now (by have := HCL.out; omega) HLA.out HFQ.out.now ⟨#[107]⟩ (.slice none 0 0) [] x.m.pf.n Ap x.m.pf.ls.length cp x.m.pf (fun Y hy => ⟨_, rfl, by rw [← HPV.out]; exact (HM.out _ (hkz.transX (Kept.of_belowX hy))).r_pf, (HM.out _ (Kept.refl _)).in_pf⟩) (Rd.nil _ _) fr (HTR.out _ hkz).2
          rw [(HVA.out h1 h2).1] at h
          exact h)
        have HAE : Hid (∀ Z, Below w3.heap.size w3 Z → B1 = true → fr1 = true → Calls Tryz.prog 16 #[.pointer (some ⟨b, 0, none⟩), .string x.m.cl, .int .u64 (la1 : Int), .string ⟨#[107]⟩, .agg #[.int .i64 x.m.pf.n, .slice Ap x.m.pf.ls.length cp], .int .u64 (x.now : Int)] Z fun e w' => e = .returned (.int .i64 102) ∧ Below Z.heap.size Z w') := Lib.hid (fun Z hz h1 h2 => by
          have hkz := HK2.out.transX (hk3.transX (Kept.of_belowX hz))
          have h := clabsent_any ((HA2.out.up hb3).up hz) x.m.cl la1 x.now (by have := HCL.out; omega) HLA.out HFQ.out.now ⟨#[107]⟩ (by decide) x.m.pf.n Ap x.m.pf.ls.length cp x.m.pf (fun Y hy => ⟨_, rfl, by rw [← HPV.out]; exact (HM.out _ (hkz.transX (Kept.of_belowX hy))).r_pf, (HM.out _ (Kept.refl _)).in_pf⟩) fr (HTR.out _ hkz).2
          rw [(HVA.out h1 h2).2] at h
          exact h)
        have hmB := heap_alloc_new w3 (.cells #[.string ch1, .int .u64 (la1 : Int), .int .u64 (pe1 : Int), .bool fr1] 50)
        have hbz : Below w3.heap.size w3 (w3.alloc (.cells #[.string ch1, .int .u64 (la1 : Int), .int .u64 (pe1 : Int), .bool fr1] 50)) := (Below.refl _ _).alloc (Nat.le_refl _) _
        have HBZ := Lib.hid hbz
        have HCB : Hid (∀ Z, Kept (w3.alloc (.cells #[.string ch1, .int .u64 (la1 : Int), .int .u64 (pe1 : Int), .bool fr1] 50)) Z → Z.cell? ⟨w3.heap.size, 0, none⟩ = some (.string ch1) ∧ Z.cell? ⟨w3.heap.size, 1, none⟩ = some (.int .u64 (la1 : Int)) ∧ Z.cell? ⟨w3.heap.size, 2, none⟩ = some (.int .u64 (pe1 : Int)) ∧ Z.cell? ⟨w3.heap.size, 3, none⟩ = some (.bool fr1)) := Lib.hid fun Z hz =>
          ⟨blk_cell (hz.blockP hmB) 0, blk_cell (hz.blockP hmB) 1, blk_cell (hz.blockP hmB) 2, blk_cell (hz.blockP hmB) 3⟩
        have HK3 := Lib.hid hk3
        obtain ⟨f0, f1, f2, f3, f4, f5, f6, f7, f8⟩ := HCF.out _ (hk3.transX (Kept.of_belowX hbz))
        obtain ⟨f9, f10, f11, f12⟩ := HCB.out _ (Kept.refl _)
        clear hmB hbz hk3 hb3 HA2 HK2 HT0 HRE HVA HPV HM HFQ HTR HLA HCL HJ HU HSL HINF
        generalize x.m.kd = kd at *
        by_cases k3 : kd = 3
        · subst k3
          rcases HFC.out (Or.inl rfl) with ⟨rfl, rfl, hE⟩ | ⟨rfl, rfl, rfl, hC, rfl⟩ | ⟨rfl, rfl, rfl, hE⟩
          · clear hE
            have hfin := HLS.out _ HBZ.out
            clear HVE HAE HLS HCF HCB HBZ HK3 HFC
            go_wp2_with fail
            exact ⟨⟨j + 1, by omega, by simp, hfin⟩, by simp [intOf]; omega⟩
          · injection hC with hc1 hc2 hc3 hc4
            subst hc1 hc2 hc3 hc4
            clear HFC
            have hq1 := fun W => eql_self (by kernel_rfl) (by kernel_rfl) (cl_self ⟨ch1, la1, pe1, true⟩) W
            have hq2 := fun W => eqIn_selfL (by kernel_rfl) (by kernel_rfl) (cl_self ⟨ch1, la1, pe1, true⟩) W
            unfold ClV.cs at hq1 hq2
            dsimp only at hq1 hq2
            go_wp2_with fail
            refine (HVE.out _ HBZ.out (by first | rfl | trivial) (by first | rfl | trivial)).mono ?_
            rintro e w5 ⟨rfl, hb5⟩
            have hk5 := Kept.of_belowX hb5
            clear f0 f1 f2 f3 f4 f5 f6 f7 f8 f9 f10 f11 f12
            obtain ⟨f0, f1, f2, f3, f4, f5, f6, f7, f8⟩ := HCF.out _ (HK3.out.transX ((Kept.of_belowX HBZ.out).transX hk5))
            obtain ⟨f9, f10, f11, f12⟩ := HCB.out _ hk5
            have hb35 := HBZ.out.trans (hb5.mono HBZ.out.size)
            clear hb5 hk5
            go_wp2_with fail
            refine (HAE.out _ hb35 (by first | rfl | trivial) (by first | rfl | trivial)).mono ?_
            rintro e w6 ⟨rfl, hb6⟩
            have hfin := HLS.out _ (hb35.trans (hb6.mono hb35.size))
            clear f0 f1 f2 f3 f4 f5 f6 f7 f8 f9 f10 f11 f12 hb35 hb6 HVE HAE HLS HCF HCB HBZ HK3
            go_wp2_with fail
            exact ⟨⟨j + 1, by omega, by simp, hfin⟩, by simp [intOf]; omega⟩
          · clear HFC hE
            cases fr1 with
            | false =>
              have hfin := HLS.out _ HBZ.out
              clear HVE HAE HLS HCF HCB HBZ HK3
              go_wp2_with fail
              exact ⟨⟨j + 1, by omega, by simp, hfin⟩, by simp [intOf]; omega⟩
            | true =>
              go_wp2_with fail
              refine (HVE.out _ HBZ.out (by first | rfl | trivial) (by first | rfl | trivial)).mono ?_
              rintro e w5 ⟨rfl, hb5⟩
              have hk5 := Kept.of_belowX hb5
              clear f0 f1 f2 f3 f4 f5 f6 f7 f8 f9 f10 f11 f12
              obtain ⟨f0, f1, f2, f3, f4, f5, f6, f7, f8⟩ := HCF.out _ (HK3.out.transX ((Kept.of_belowX HBZ.out).transX hk5))
              obtain ⟨f9, f10, f11, f12⟩ := HCB.out _ hk5
              have hb35 := HBZ.out.trans (hb5.mono HBZ.out.size)
              clear hb5 hk5
              go_wp2_with fail
              refine (HAE.out _ hb35 (by first | rfl | trivial) (by first | rfl | trivial)).mono ?_
              rintro e w6 ⟨rfl, hb6⟩
              have hfin := HLS.out _ (hb35.trans (hb6.mono hb35.size))
              clear f0 f1 f2 f3 f4 f5 f6 f7 f8 f9 f10 f11 f12 hb35 hb6 HVE HAE HLS HCF HCB HBZ HK3
              go_wp2_with fail
              exact ⟨⟨j + 1, by omega, by simp, hfin⟩, by simp [intOf]; omega⟩
        by_cases k4 : kd = 4
        · subst k4
          rcases HFC.out (Or.inr rfl) with ⟨rfl, rfl, hE⟩ | ⟨rfl, rfl, rfl, hC, rfl⟩ | ⟨rfl, rfl, rfl, hE⟩
          · have z : (E == 0) = false := by simpa using hE rfl
            clear hE
            have hfin := HLS.out _ HBZ.out
            clear HVE HAE HLS HCF HCB HBZ HK3 HFC
            go_wp2_with fail
            exact ⟨⟨j + 1, by omega, by simp, hfin⟩, by simp [intOf]; omega⟩
          · injection hC with hc1 hc2 hc3 hc4
            subst hc1 hc2 hc3 hc4
            clear HFC
            have hq1 := fun W => eql_self (by kernel_rfl) (by kernel_rfl) (cl_self ⟨ch1, la1, pe1, true⟩) W
            have hq2 := fun W => eqIn_selfL (by kernel_rfl) (by kernel_rfl) (cl_self ⟨ch1, la1, pe1, true⟩) W
            unfold ClV.cs at hq1 hq2
            dsimp only at hq1 hq2
            go_wp2_with fail
            refine (HVE.out _ HBZ.out (by first | rfl | trivial) (by first | rfl | trivial)).mono ?_
            rintro e w5 ⟨rfl, hb5⟩
            have hk5 := Kept.of_belowX hb5
            clear f0 f1 f2 f3 f4 f5 f6 f7 f8 f9 f10 f11 f12
            obtain ⟨f0, f1, f2, f3, f4, f5, f6, f7, f8⟩ := HCF.out _ (HK3.out.transX ((Kept.of_belowX HBZ.out).transX hk5))
            obtain ⟨f9, f10, f11, f12⟩ := HCB.out _ hk5
            have hb35 := HBZ.out.trans (hb5.mono HBZ.out.size)
            clear hb5 hk5
            go_wp2_with fail
            refine (HAE.out _ hb35 (by first | rfl | trivial) (by first | rfl | trivial)).mono ?_
            rintro e w6 ⟨rfl, hb6⟩
            have hfin := HLS.out _ (hb35.trans (hb6.mono hb35.size))
            clear f0 f1 f2 f3 f4 f5 f6 f7 f8 f9 f10 f11 f12 hb35 hb6 HVE HAE HLS HCF HCB HBZ HK3
            go_wp2_with fail
            exact ⟨⟨j + 1, by omega, by simp, hfin⟩, by simp [intOf]; omega⟩
          · clear HFC
            by_cases hz : E = 0
            · subst hz
              obtain rfl := hE rfl rfl
              clear hE
              go_wp2_with fail
              refine (HVE.out _ HBZ.out (by first | rfl | trivial) (by first | rfl | trivial)).mono ?_
              rintro e w5 ⟨rfl, hb5⟩
              have hk5 := Kept.of_belowX hb5
              clear f0 f1 f2 f3 f4 f5 f6 f7 f8 f9 f10 f11 f12
              obtain ⟨f0, f1, f2, f3, f4, f5, f6, f7, f8⟩ := HCF.out _ (HK3.out.transX ((Kept.of_belowX HBZ.out).transX hk5))
              obtain ⟨f9, f10, f11, f12⟩ := HCB.out _ hk5
              have hb35 := HBZ.out.trans (hb5.mono HBZ.out.size)
              clear hb5 hk5
              go_wp2_with fail
              refine (HAE.out _ hb35 (by first | rfl | trivial) (by first | rfl | trivial)).mono ?_
              rintro e w6 ⟨rfl, hb6⟩
              have hfin := HLS.out _ (hb35.trans (hb6.mono hb35.size))
              clear f0 f1 f2 f3 f4 f5 f6 f7 f8 f9 f10 f11 f12 hb35 hb6 HVE HAE HLS HCF HCB HBZ HK3
              go_wp2_with fail
              exact ⟨⟨j + 1, by omega, by simp, hfin⟩, by simp [intOf]; omega⟩
            · have z : (E == 0) = false := by simpa using hz
              clear hE hz
              cases fr1 with
              | false =>
                have hfin := HLS.out _ HBZ.out
                clear HVE HAE HLS HCF HCB HBZ HK3
                go_wp2_with fail
                exact ⟨⟨j + 1, by omega, by simp, hfin⟩, by simp [intOf]; omega⟩
              | true =>
                go_wp2_with fail
                refine (HVE.out _ HBZ.out (by first | rfl | trivial) (by first | rfl | trivial)).mono ?_
                rintro e w5 ⟨rfl, hb5⟩
                have hk5 := Kept.of_belowX hb5
                clear f0 f1 f2 f3 f4 f5 f6 f7 f8 f9 f10 f11 f12
                obtain ⟨f0, f1, f2, f3, f4, f5, f6, f7, f8⟩ := HCF.out _ (HK3.out.transX ((Kept.of_belowX HBZ.out).transX hk5))
                obtain ⟨f9, f10, f11, f12⟩ := HCB.out _ hk5
                have hb35 := HBZ.out.trans (hb5.mono HBZ.out.size)
                clear hb5 hk5
                go_wp2_with fail
                refine (HAE.out _ hb35 (by first | rfl | trivial) (by first | rfl | trivial)).mono ?_
                rintro e w6 ⟨rfl, hb6⟩
                have hfin := HLS.out _ (hb35.trans (hb6.mono hb35.size))
                clear f0 f1 f2 f3 f4 f5 f6 f7 f8 f9 f10 f11 f12 hb35 hb6 HVE HAE HLS HCF HCB HBZ HK3
                go_wp2_with fail
                exact ⟨⟨j + 1, by omega, by simp, hfin⟩, by simp [intOf]; omega⟩
        have q3 : (kd != 3) = true := by simpa using k3
        have q4 : (kd != 4) = true := by simpa using k4
        clear k3 k4
        have hfin := HLS.out _ HBZ.out
        clear HVE HAE HLS HCF HCB HBZ HK3 HFC
        go_wp2_with fail
        exact ⟨⟨j + 1, by omega, by simp, hfin⟩, by simp [intOf]; omega⟩
      · have hjn : j = n := by omega
        have i2 : ¬ (j : Int) < (n : Int) := by omega
        subst hjn
        have hqf := HX0.bel
        clear HX0
        go_wp2_with fail
        go_ret
        exact ⟨rfl, hqf⟩
end Go.Proofs.YtmphegeiclgjbaaGreatDoor
