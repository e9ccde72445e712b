/- The law: the connection, the other end and the version of a channel never change, nor the other channel once it is known; its state goes to Open and then to Closed. -/
import Derived.Test.YtmphegeiclgjbaaGreatDoorChE
import Derived.Test.YtmphegeiclgjbaaGreatDoorM24
import Derived.Test.YtmphegeiclgjbaaGreatDoorM16
namespace Go.Proofs.YtmphegeiclgjbaaGreatDoor
set_option maxRecDepth 100000
open Go Go.RowKit
set_option linter.unusedVariables false
set_option maxHeartbeats 64000000 in
theorem chonward_law (w : World) (v1 v2 v3 : Value) (ps1 ps2 : List Pr) (xs : List StepV) (h1 : RdP w w.heap.size v1 ps1) (h2 : RdP w w.heap.size v2 ps2) (n1 : ∀ p ∈ ps1, p.1.size ≤ maxLen) (n2 : ∀ p ∈ ps2, p.1.size ≤ maxLen) (l1 : ps1.length ≤ 2000000) (l2 : ps2.length ≤ 2000000)
    (hx : RdSt w v3 xs) (hf : ∀ x ∈ xs, x.fine) (lx : xs.length ≤ 2000000) (hT : Pows w) (fr : TypeId × Nat × Nat) (hk : w.heap[0]? = some (.cells kVals fr.1 fr.2)) :
    Calls Tryz.prog 9 #[v1, v2, v3] w fun e w' => e = .returned (.bool true) ∧ Below w.heap.size w w' := by
  have HS := Lib.hid (chstores_any w v1 v2 ps1 ps2 h1 h2 n1 n2 l1 l2)
  have HFX : Hid (∀ Z, Below w.heap.size w Z → Calls Tryz.prog 38 #[] Z fun e w' => e = .returned (.bool true) ∧ Below Z.heap.size Z w') := Lib.hid fun Z hz => chfixed_any Z
  have HX := Lib.hid (fun (Z : World) (hz : Kept w Z) => hx.keptM hz)
  have HFI := Lib.hid hf
  have HTB : Hid (∀ Z, Kept w Z → Pows Z ∧ Z.heap[0]? = some (.cells kVals fr.1 fr.2)) := Lib.hid fun Z hz => ⟨hT.kept hz, hz.blockP hk⟩
  obtain ⟨A1, c1, rfl⟩ : ∃ A c, v1 = .slice A ps1.length c := by obtain ⟨A, c, h, _⟩ := h1; exact ⟨A, c, h⟩
  obtain ⟨A2, c2, rfl⟩ : ∃ A c, v2 = .slice A ps2.length c := by obtain ⟨A, c, h, _⟩ := h2; exact ⟨A, c, h⟩
  obtain ⟨A3, c3, rfl⟩ : ∃ A c, v3 = .slice A xs.length c := by obtain ⟨A, c, h, _⟩ := hx; exact ⟨A, c, h⟩
  obtain ⟨n, hn⟩ : ∃ n, n = xs.length := ⟨_, rfl⟩
  rw [← hn] at HX ⊢
  have HN : Hid (n = xs.length ∧ n ≤ 2000000) := Lib.hid ⟨hn, by rw [hn]; exact lx⟩
  have HLL := Lib.hid (And.intro l1 l2)
  clear h1 h2 n1 n2 l1 l2 hx hf lx hT hk hn
  go_enter Tryz.func9, Tryz.ntmps9
  go_wp2_with fail
  refine HS.out.mono ?_
  rintro e w1 ⟨p1, p2, ok, rfl, hb1, hok⟩
  have HBL : Hid (∀ Z, Z = w1.alloc (.cells #[.pointer p1, .pointer p2] 25) → Below w.heap.size w Z) := Lib.hid fun Z e => by rw [e]; exact hb1.trans (((Below.refl _ _).alloc (Nat.le_refl _) _).mono hb1.size)
  have HUP : Hid (∀ (Z : World) (b m b' m' : Nat) (R R' : List Pr) (N : Nat), Z = w1.alloc (.cells #[.pointer p1, .pointer p2] 25) → Sts w b m b' m' R R' N w1 → Sts w b m b' m' R R' N Z) := Lib.hid fun Z b m b' m' R R' N e h => by rw [e]; exact h.up ((Below.refl _ _).alloc (Nat.le_refl _) _)
  have HRG := Lib.hid (heap_alloc_new w1 (.cells #[.pointer p1, .pointer p2] 25))
  have HOK := Lib.hid hok
  clear HS hb1 hok
  go_wp2_with fail
  generalize w1.alloc (.cells #[.pointer p1, .pointer p2] 25) = wB at *
  generalize w1.heap.size = g7 at *
  have hqB := HBL.out _ rfl
  refine (HFX.out _ hqB).mono ?_
  rintro e w4 ⟨rfl, hb4⟩
  have hq4 : Below w.heap.size w w4 := hqB.trans (hb4.mono hqB.size)
  cases ok with
  | false =>
    clear HBL HUP HRG HOK hqB hb4
    go_wp2_with fail
    refine (HFX.out _ hq4).mono ?_
    rintro e w5 ⟨rfl, hb5⟩
    have hq5 : Below w.heap.size w w5 := hq4.trans (hb5.mono hq4.size)
    clear hq4 hb5
    go_wp2_with fail
    go_ret
    exact ⟨rfl, hq5⟩
  | true =>
    obtain ⟨b1, m1, b2, m2, rfl, rfl, hst, hn1, hn2⟩ := HOK.out rfl
    have HL : Hid (LSP w b1 m1 b2 m2 g7 2000000 (fun R => ChN R 0 ∧ R.length ≤ 2000000 + 3 * 0) w4) := Lib.hid (by
      have hs := (HUP.out _ _ _ _ _ _ _ _ rfl hst).up hb4
      have hk4 := Kept.of_belowX hb4
      exact ⟨⟨_, _, ⟨ChN.start hs.rise hn1, HLL.out.1⟩, ⟨ChN.start hs.swap.rise hn2, HLL.out.2⟩, hs⟩, hk4.cell (blk_cell HRG.out 0), hk4.cell (blk_cell HRG.out 1)⟩)
    clear HLL HBL HUP HRG HOK hqB hb4 hst hn1 hn2 hq4 HFX
    go_wp2_with fail
    go_loopw [41] (fun i Z => ∃ j : Nat, j ≤ n ∧ i = .int .i64 (j : Int) ∧ LSP w b1 m1 b2 m2 g7 (2000000 + 6 * j) (fun R => ChN R j ∧ R.length ≤ 2000000 + 6 * j) Z)
      (fun i _ => n - (intOf i).toNat)
    case atStart => exact ⟨0, by omega, rfl, HL.out⟩
    case round => as_aux_lemma =>
      clear HL
      obtain ⟨j, hj, rfl, HX0⟩ := hrel
      by_cases hlt : j < n
      · have hkr := Kept.of_belowX HX0.bel
        have HTR := Lib.hid (fun (Z : World) (hz : Kept wr Z) => HTB.out _ (hkr.transX hz))
        obtain ⟨A', c', e', hrd, hcell⟩ := HX.out _ hkr
        have hjl : j < xs.length := by have := HN.out.1; omega
        obtain ⟨g, o, hA', -, hcl⟩ := hcell (by omega)
        injection e' with e1 e2 e3
        subst e1 e3
        subst hA'
        have hck := hcl j hjl
        have hmem : xs[j] ∈ xs := List.getElem_mem hjl
        have hm0 := hrd _ hmem
        have hfn := HFI.out _ hmem
        generalize xs[j] = x at *
        have HM := Lib.hid (fun (Z : World) (hz : Kept wr Z) => hm0.keptM hz)
        have HFQ := Lib.hid hfn
        have HJ : Hid (2000000 + 6 * j + 6 ≤ 100000000 ∧ 2000000 + 6 * j + 6 = 2000000 + 6 * (j + 1)) := Lib.hid (by have := HN.out.2; omega)
        obtain ⟨SL, hSL⟩ : ∃ L : List Value, L = x.cells := ⟨_, rfl⟩
        rw [← hSL] at hck
        have hl66 : SL.length = 66 := by rw [hSL]; rfl
        have hrng : wr.rangeAt g (o + j * 66) SL := fun i u hu => hck i u (by have := (List.getElem?_eq_some_iff.1 hu).1; omega) hu
        have HRNG := Lib.hid hrng
        have HINF : Hid ((Tryz.prog.info? 48).map (·.size) = some SL.length) := Lib.hid (by rw [hl66]; kernel_rfl)
        have HONE : Hid (SL.toArray.all (·.oneCell') = true) := Lib.hid (by rw [hSL]; exact x.one hm0)
        have HSL := Lib.hid hSL
        have hz66 : Array.size Tryz.zeroCells48 = 66 := by kernel_rfl
        have HTH : Hid ((wr.alloc (.cells Tryz.zeroCells48 48)).there wr.heap.size 0 SL.toArray.size) := Lib.hid (there_new _ _ _ _ (by rw [hz66]; simp [hl66]))
        have hrg0 := range_new wr (Tryz.zeroCells48) 48 SL (by rw [hz66, hl66]; exact Nat.le_refl _)
        have hb0 := below_new wr (Tryz.zeroCells48) 48 SL
        obtain ⟨i, b, m, b', m', R, R', hi, hi2, hpr, hs, hcb, hre⟩ := HX0.pick _ (and1i x.on)
        have HPR := Lib.hid hpr
        clear hpr
        have hs0 := hs.up hb0
        have hk0 := Kept.of_belowX hb0
        have k0 := range_cellT hrg0 0 (.int .i64 x.on) (by rw [hSL]; rfl)
        have k11 := range_cellT hrg0 11 (.string x.m.cl) (by rw [hSL]; rfl)
        have kb := hk0.cell hcb
        have hj9 : n ≤ 2000000 := HN.out.2
        have j1 : (0 : Int) ≤ (j : Int) := by omega
        have j2 : (j : Int) < (n : Int) := by omega
        have i1 : (0 : Int) ≤ (i : Int) := by omega
        have i2 : (i : Int) < 2 := by omega
        have HR0 := Lib.hid (And.intro hs0 (And.intro hk0 (And.intro hrg0 hb0)))
        have HRE := Lib.hid hre
        have HKB := Lib.hid (fun (Z : World) (hz : Kept wr Z) => hz.cell hcb)
        clear hz66 hck hcl hcell hrd hmem hm0 hfn hl66 hrng hSL hrg0 hb0 hs0 hk0 hs hcb hre HX0 hkr e2
        go_wp2_with (first
          | (with_reducible refine at_load 48 ?_; refine wpList_load_mid rfl 48 (.tmp 43) rfl g (o + j * 66) rfl SL _ HRNG.out Tryz.underlying48 rfl HINF.out ?_)
          | (with_reducible refine at_store 48 ?_; refine wpList_store_mid rfl 48 (.tmp 10) (.tmp 44) rfl wr.heap.size 0 SL.toArray rfl rfl HTH.out (by have := HINF.out; simpa using this) HONE.out ?_))
        try simp only [List.toList_toArray]
        clear k0 k11 kb
        obtain ⟨hs0, hk0, hrg0, hb0⟩ := HR0.out
        generalize (wr.alloc (.cells Tryz.zeroCells48 48)).setCells wr.heap.size 0 SL = w0 at *
        obtain ⟨nn, ff, hnn, AT0⟩ := hs0.at
        have HFT := Lib.hid (fun (key : ByteArray) (v : List UInt8) (e : getL R key = some v) => show pairB (key, v) = true from by
          have := AT0.fits e
          unfold pairB
          simp only [Bool.and_eq_true, decide_eq_true_eq]
          exact this)
        have HP1 := Lib.hid (AT0.pairs (show nn + 0 + 0 ≤ 1000000000 by have := HJ.out.1; omega) chanP (by decide +kernel))
        obtain ⟨L1, hL1⟩ : ∃ L, L = R.filter (fun p => begB chanP p.1) := ⟨_, rfl⟩
        rw [← hL1] at HP1
        have HL1 := Lib.hid hL1
        have HK0 := Lib.hid (And.intro hk0 hrg0)
        have HS0 := Lib.hid hs0
        have HRS := Lib.hid hs0.rise
        have hrun := fun (Z : World) (hz : Below w0.heap.size w0 Z) => chrun_any (AT0.up hz) (show nn + 0 + 6 ≤ maxLen by have := HJ.out.1; unfold maxLen; omega) x (HM.out _ (hk0.transX (Kept.of_belowX hz))) HFQ.out (HTR.out _ (hk0.transX (Kept.of_belowX hz))).1 fr (HTR.out _ (hk0.transX (Kept.of_belowX hz))).2
        have hsl := step16_len R x
        have hfl : (R.filter (fun p => begB chanP p.1)).length ≤ R.length := List.length_filter_le _ _
        have hgo := ch_step (x := x) hs0.rise HPR.out.1 (by have := HN.out.2; omega)
        obtain ⟨⟨E, R2⟩, hU⟩ : ∃ p, p = stepM16 R x := ⟨_, rfl⟩
        rw [← HSL.out, ← hU] at hrun
        rw [← hU] at hgo hsl
        rw [← HL1.out] at hfl
        dsimp only at hrun hgo
        have HRUN := Lib.hid hrun
        have HGO := Lib.hid hgo
        have HNN := Lib.hid hnn
        have HLR := Lib.hid (And.intro (show L1.length ≤ 20000000 by have := HPR.out.2; have := HN.out.2; omega) (show R2.length ≤ 2000000 + 6 * (j + 1) by have := HPR.out.2; dsimp only at hsl; omega))
        unfold chanP at HP1
        clear hk0 hrg0 hs0 hb0 hnn AT0 hL1 hrun hgo hU hsl hfl HR0 HTH HRNG HONE HKB
        generalize wr.heap.size = g10 at *
        refine HP1.out.mono ?_
        rintro e w1 ⟨v1, rfl, ho1, hb1⟩
        have HRP1 := Lib.hid (fun (Z : World) (hz : Kept w1 Z) => ho1.rdP.keptP hz)
        obtain ⟨Aw, cw, rfl⟩ := ho1.form
        have HRUN1 := Lib.hid (HRUN.out _ hb1)
        have HR1 := Lib.hid (range_kept HK0.out.2 (Kept.of_belowX hb1))
        have HB1 := Lib.hid hb1
        clear ho1 hb1 HP1 HRUN
        go_wp2_with (with_reducible refine at_load 48 ?_; refine wpList_load_mid rfl 48 (.tmp 10) rfl g10 0 rfl SL _ HR1.out Tryz.underlying48 rfl HINF.out ?_)
        refine HRUN1.out.mono ?_
        rintro e w2 ⟨rfl, A2, hk2⟩
        have hs2 := HS0.out.step HNN.out A2
        obtain ⟨n2, f2, hn2, AT2⟩ := hs2.at
        have HP2 := Lib.hid (AT2.pairs (show n2 + 0 + 0 ≤ 1000000000 by have := HJ.out.1; omega) chanP (by decide +kernel))
        obtain ⟨L2, hL2⟩ : ∃ L, L = R2.filter (fun p => begB chanP p.1) := ⟨_, rfl⟩
        rw [← hL2] at HP2
        have HL2 := Lib.hid hL2
        have HS2 := Lib.hid (And.intro hs2 hk2)
        unfold chanP at HP2
        clear A2 hk2 hs2 hn2 AT2 hL2 HRUN1 HR1 HS0
        go_wp2_with fail
        refine HP2.out.mono ?_
        rintro e w4 ⟨v2, rfl, ho2, hb4⟩
        obtain ⟨Ax, cx, rfl⟩ := ho2.form
        have hk14 : Kept w1 w4 := HS2.out.2.transX (Kept.of_belowX hb4)
        have hk04 : Kept w0 w4 := (Kept.of_belowX HB1.out).transX hk14
        have HS4 := Lib.hid (HS2.out.1.up hb4)
        have HK4 := Lib.hid (HK0.out.1.transX hk04)
        have hlen := HLR.out.1
        have HRP4 := Lib.hid (HRP1.out w4 hk14)
        have HCN : Hid (w4.cell? ⟨g10, 15, none⟩ = some (.string x.m.ch)) := Lib.hid (hk04.cell (range_cellT HK0.out.2 15 _ (by rw [HSL.out]; rfl)))
        obtain ⟨hN, hlo, hhi, hno, hall⟩ := HGO.out
        rw [← HL1.out, ← HL2.out] at hlo hhi hno
        have HAL := Lib.hid hall
        have HCNN := Lib.hid hN
        have HNO := Lib.hid hno
        have bb1 : decide (L2.length < L1.length) = false := decide_eq_false (by omega)
        have bb2 : decide ((L1.length : Int) + 1 < (L2.length : Int)) = false := decide_eq_false (by omega)
        have l3 : (L1.length : Int) + 1 ≤ 9223372036854775807 := by omega
        have l4 : L1.length ≤ 9223372036854775806 := by omega
        have HLN := Lib.hid hlen
        have HFN : Hid (∀ Z, Below w4.heap.size w4 Z → LSP w b1 m1 b2 m2 g7 (2000000 + 6 * (j + 1)) (fun R => ChN R (j + 1) ∧ R.length ≤ 2000000 + 6 * (j + 1)) Z) := Lib.hid fun Z hz => HRE.out _ (fun S hS => ⟨hS.1.more (Nat.le_succ _), by have := hS.2; omega⟩) _ _ _ ⟨HCNN.out, HLR.out.2⟩ ((HS4.out.up hz).more (by omega)) (HK4.out.transX (Kept.of_belowX hz))
        generalize L2.length = k2 at *
        clear ho2 hb4 hk14 hk04 hlo hhi hno hall hN hlen HP2 HS2 HRP1 HK0 HB1 HNN HJ HGO HL2 HSL HM HFQ HTR HPR HRE HINF
        by_cases hE : E = 0
        · subst hE
          go_wp2_with fail
          clear bb1 bb2 l3 l4
          go_loopw [83] (fun i Z => ∃ q : Nat, q ≤ L1.length ∧ i = .int .i64 (q : Int) ∧ Below w4.heap.size w4 Z)
            (fun i _ => L1.length - (intOf i).toNat)
          case atStart => exact ⟨0, by omega, rfl, Below.refl _ _⟩
          case round => as_aux_lemma =>
            obtain ⟨q, hq, rfl, hbz⟩ := hrel
            have HBZ := Lib.hid hbz
            have hL8 : L1.length ≤ 20000000 := HLN.out
            have i0 : (0 : Int) ≤ (q : Int) := by omega
            by_cases hql : q < L1.length
            · have i1 : (q : Int) < (L1.length : Int) := by omega
              obtain ⟨Aw2, cw2, ew, hc1, hc2, hrow⟩ := HRP4.out.keptP (Kept.of_belowX HBZ.out)
              injection ew with ew1 ew2 ew3
              subst ew1 ew3
              obtain ⟨g, ob, rfl, hgl, hcell⟩ := hrow (by omega)
              obtain ⟨q1, xv, q2, q3⟩ := hcell q hql
              have hrw := ch_row (R := R) HRS.out (q := q) (by rw [← HL1.out]; exact hql)
              simp only [← HL1.out] at hrw
              obtain ⟨id, hkey, hget⟩ := hrw
              obtain ⟨v2, hv2, hcase⟩ := HAL.out id _ hget
              have hpb := HFT.out _ _ hget
              rw [hkey] at q1
              obtain ⟨PV, hPV⟩ : ∃ l, l = L1[q].2 := ⟨_, rfl⟩
              rw [← hPV] at q3 hget hcase hpb
              obtain ⟨Ap, cp, rfl⟩ := q3.form
              have hks := kChn_size id
              have hsz : (kChn id).size ≤ 200 := by
                unfold pairB keyB at hpb
                simp only [Bool.and_eq_true, decide_eq_true_eq] at hpb
                omega
              have HID := Lib.hid (And.intro hpb (And.intro hks hsz))
              have hbp : Below wr.heap.size wr (wr.alloc (.cells #[.string (kChn id), .slice Ap PV.length cp] 74)) := (Below.refl _ _).alloc (Nat.le_refl _) _
              have mp := heap_alloc_new wr (.cells #[.string (kChn id), .slice Ap PV.length cp] 74)
              have hq4 := HBZ.out.trans (hbp.mono HBZ.out.size)
              obtain ⟨n4, f4, hn4, AT4⟩ := (HS4.out.up hq4).at
              have hgt := AT4.get (kChn id) (by unfold maxLen; omega)
              rw [hv2] at hgt
              have HGT := Lib.hid (show Calls Tryz.prog 31 #[.pointer (some ⟨b, 0, none⟩), .string (kChn id)] (wr.alloc (.cells #[.string (kChn id), .slice Ap PV.length cp] 74)) fun e w' => ∃ v, e = .returned (.tuple #[v, .bool true]) ∧ Own w' (wr.alloc (.cells #[.string (kChn id), .slice Ap PV.length cp] 74)).heap.size v v2 ∧ Below (wr.alloc (.cells #[.string (kChn id), .slice Ap PV.length cp] 74)).heap.size (wr.alloc (.cells #[.string (kChn id), .slice Ap PV.length cp] 74)) w' from hgt)
              have HQ3 := Lib.hid (fun (Z : World) (hz : Kept wr Z) => hz.rd q3)
              have HMP := Lib.hid (And.intro mp (And.intro hq4 (Kept.of_belowX hbp)))
              have HCS := Lib.hid hcase
              have d0 := blk_cell mp 0
              have hsl := chan_cut id
              have i5 : (9 : Int) ≤ ((kChn id).size : Int) := by omega
              clear hc1 hc2 hrow hcell hget hv2 hcase hpb hkey hPV hks hsz hq4 hbp mp AT4 hgt hn4 q3 hbz ew2
              go_wp2_with fail
              generalize wr.alloc (.cells #[.string (kChn id), .slice Ap PV.length cp] 74) = wp at *
              generalize wr.heap.size = gp at *
              clear q1 q2 d0 hsl i5
              refine HGT.out.mono ?_
              rintro e w5 ⟨vv, rfl, hov, hb5⟩
              obtain ⟨Av, cv, rfl⟩ := hov.form
              have hq5 := HMP.out.2.1.trans (hb5.mono HMP.out.2.1.size)
              have hk5 := HMP.out.2.2.transX (Kept.of_belowX hb5)
              have hr5 := HQ3.out _ hk5
              have cv1 := run_str Tryz.underlying32 Tryz.underlying5 Tryz.isString hov.rd
              have cv2 := run_str Tryz.underlying32 Tryz.underlying5 Tryz.isString hr5
              have m5 := (hb5.block _ (blk_lt HMP.out.1)).trans HMP.out.1
              have HM5 := Lib.hid (And.intro m5 (And.intro hq5 hr5))
              have d1 := blk_cell m5 1
              by_cases hvv : v2 = PV
              · subst hvv
                clear hov hb5 hq5 hk5 hr5 m5 HGT HMP HCS HQ3
                go_wp2_with fail
                exact ⟨⟨q + 1, by omega, by simp, HM5.out.2.1⟩, by simp [intOf]; omega⟩
              · obtain ⟨he0, hid, hib, c, c2, hrc, hgc, h1, h2, h3, h4, h5, h7⟩ := HCS.out.resolve_left hvv
                subst hid
                obtain ⟨cst, cod, cpo, ccp, ccn, ccc, cve⟩ := c
                obtain ⟨dst, dod, dpo, dcp, dcn, dcc, dve⟩ := c2
                dsimp only at h1 h2 h3 h4 h5 h7
                subst h1 h2 h3 h4 h5
                clear he0
                rcases h7 with ⟨rfl, rfl⟩ | ⟨rfl, rfl, rfl⟩ | ⟨rfl, rfl, rfl⟩
                · have HST := Lib.hid (chstored_any x.m.ch Ap PV cp w5 HM5.out.2.2 (by have := HID.out.2.1; have := HID.out.2.2; omega) HID.out.1)
                  rw [getCh_one hib hrc] at HST
                  unfold gotH ChV.val at HST
                  dsimp only [Option.getD, Option.isSome] at HST
                  have HGC := Lib.hid hgc
                  clear hov hb5 hq5 hk5 hr5 m5 HGT HMP HCS HQ3 hrc hgc hib
                  have hne2 : (((⟨v2.toArray⟩ : ByteArray)).toList == (⟨PV.toArray⟩ : ByteArray).toList) = false := by
                    rw [ByteArray.toList_eq, ByteArray.toList_eq]
                    simpa using hvv
                  generalize (⟨v2.toArray⟩ : ByteArray) = S2 at *
                  generalize (⟨PV.toArray⟩ : ByteArray) = S1 at *
                  clear hvv
                  have d0 := blk_cell HM5.out.1 0
                  have hsl := chan_cut x.m.ch
                  have i5 : (9 : Int) ≤ ((kChn x.m.ch).size : Int) := by have := HID.out.2.1; omega
                  go_wp2_with fail
                  clear cv1 cv2 hne2 d0 d1 hsl i5
                  refine HST.out.mono ?_
                  rintro e w6 ⟨rfl, hb6⟩
                  have hq6 := HM5.out.2.1.trans (hb6.mono HM5.out.2.1.size)
                  have hbO : Below w6.heap.size w6 (w6.alloc (.cells #[.int .u64 1, .bool dod, .string dpo, .string dcp, .string dcn, .string ccc, .string dve] 85)) := (Below.refl _ _).alloc (Nat.le_refl _) _
                  have mO := heap_alloc_new w6 (.cells #[.int .u64 1, .bool dod, .string dpo, .string dcp, .string dcn, .string ccc, .string dve] 85)
                  have hq7 := hq6.trans (hbO.mono hq6.size)
                  obtain ⟨n6, f6, hn6, AT6⟩ := (HS4.out.up hq7).at
                  have hgn := chget_any AT6 x.m.ch (by have := HID.out.2.1; have := HID.out.2.2; omega)
                  rw [HGC.out] at hgn
                  unfold chV ChV.val at hgn
                  dsimp only at hgn
                  have HGN := Lib.hid hgn
                  have HMO := Lib.hid (And.intro mO hq7)
                  clear hb6 hq6 hbO mO hq7 AT6 hn6 hgn HST HGC
                  go_wp2_with fail
                  generalize w6.alloc (.cells #[.int .u64 1, .bool dod, .string dpo, .string dcp, .string dcn, .string ccc, .string dve] 85) = w7 at *
                  generalize w6.heap.size = gO at *
                  refine HGN.out.mono ?_
                  rintro e w8 ⟨rfl, hb8⟩
                  have hq8 := HMO.out.2.trans (hb8.mono HMO.out.2.size)
                  have hbN : Below w8.heap.size w8 (w8.alloc (.cells #[.int .u64 3, .bool dod, .string dpo, .string dcp, .string dcn, .string dcc, .string dve] 85)) := (Below.refl _ _).alloc (Nat.le_refl _) _
                  have mN := heap_alloc_new w8 (.cells #[.int .u64 3, .bool dod, .string dpo, .string dcp, .string dcn, .string dcc, .string dve] 85)
                  have hq9 := hq8.trans (hbN.mono hq8.size)
                  have mO9 := (hbN.block _ (blk_lt ((hb8.block _ (blk_lt HMO.out.1)).trans HMO.out.1))).trans ((hb8.block _ (blk_lt HMO.out.1)).trans HMO.out.1)
                  have HQ9 := Lib.hid hq9
                  have a0 := blk_cell mO9 0
                  have a1 := blk_cell mO9 1
                  have a2 := blk_cell mO9 2
                  have a3 := blk_cell mO9 3
                  have a4 := blk_cell mO9 4
                  have a5 := blk_cell mO9 5
                  have a6 := blk_cell mO9 6
                  have b0' := blk_cell mN 0
                  have b1' := blk_cell mN 1
                  have b2' := blk_cell mN 2
                  have b3' := blk_cell mN 3
                  have b4' := blk_cell mN 4
                  have b5' := blk_cell mN 5
                  have b6' := blk_cell mN 6
                  have cn := (Kept.of_belowX hq9).cell HCN.out
                  clear hb8 hq8 hbN mN hq9 mO9 HGN HMO
                  go_wp2_with fail
                  exact ⟨⟨q + 1, by omega, by simp, HQ9.out⟩, by simp [intOf]; omega⟩
                · have HST := Lib.hid (chstored_any x.m.ch Ap PV cp w5 HM5.out.2.2 (by have := HID.out.2.1; have := HID.out.2.2; omega) HID.out.1)
                  rw [getCh_one hib hrc] at HST
                  unfold gotH ChV.val at HST
                  dsimp only [Option.getD, Option.isSome] at HST
                  have HGC := Lib.hid hgc
                  clear hov hb5 hq5 hk5 hr5 m5 HGT HMP HCS HQ3 hrc hgc hib
                  have hne2 : (((⟨v2.toArray⟩ : ByteArray)).toList == (⟨PV.toArray⟩ : ByteArray).toList) = false := by
                    rw [ByteArray.toList_eq, ByteArray.toList_eq]
                    simpa using hvv
                  generalize (⟨v2.toArray⟩ : ByteArray) = S2 at *
                  generalize (⟨PV.toArray⟩ : ByteArray) = S1 at *
                  clear hvv
                  have d0 := blk_cell HM5.out.1 0
                  have hsl := chan_cut x.m.ch
                  have i5 : (9 : Int) ≤ ((kChn x.m.ch).size : Int) := by have := HID.out.2.1; omega
                  go_wp2_with fail
                  clear cv1 cv2 hne2 d0 d1 hsl i5
                  refine HST.out.mono ?_
                  rintro e w6 ⟨rfl, hb6⟩
                  have hq6 := HM5.out.2.1.trans (hb6.mono HM5.out.2.1.size)
                  have hbO : Below w6.heap.size w6 (w6.alloc (.cells #[.int .u64 2, .bool dod, .string dpo, .string dcp, .string dcn, .string dcc, .string dve] 85)) := (Below.refl _ _).alloc (Nat.le_refl _) _
                  have mO := heap_alloc_new w6 (.cells #[.int .u64 2, .bool dod, .string dpo, .string dcp, .string dcn, .string dcc, .string dve] 85)
                  have hq7 := hq6.trans (hbO.mono hq6.size)
                  obtain ⟨n6, f6, hn6, AT6⟩ := (HS4.out.up hq7).at
                  have hgn := chget_any AT6 x.m.ch (by have := HID.out.2.1; have := HID.out.2.2; omega)
                  rw [HGC.out] at hgn
                  unfold chV ChV.val at hgn
                  dsimp only at hgn
                  have HGN := Lib.hid hgn
                  have HMO := Lib.hid (And.intro mO hq7)
                  clear hb6 hq6 hbO mO hq7 AT6 hn6 hgn HST HGC
                  go_wp2_with fail
                  generalize w6.alloc (.cells #[.int .u64 2, .bool dod, .string dpo, .string dcp, .string dcn, .string dcc, .string dve] 85) = w7 at *
                  generalize w6.heap.size = gO at *
                  refine HGN.out.mono ?_
                  rintro e w8 ⟨rfl, hb8⟩
                  have hq8 := HMO.out.2.trans (hb8.mono HMO.out.2.size)
                  have hbN : Below w8.heap.size w8 (w8.alloc (.cells #[.int .u64 3, .bool dod, .string dpo, .string dcp, .string dcn, .string dcc, .string dve] 85)) := (Below.refl _ _).alloc (Nat.le_refl _) _
                  have mN := heap_alloc_new w8 (.cells #[.int .u64 3, .bool dod, .string dpo, .string dcp, .string dcn, .string dcc, .string dve] 85)
                  have hq9 := hq8.trans (hbN.mono hq8.size)
                  have mO9 := (hbN.block _ (blk_lt ((hb8.block _ (blk_lt HMO.out.1)).trans HMO.out.1))).trans ((hb8.block _ (blk_lt HMO.out.1)).trans HMO.out.1)
                  have HQ9 := Lib.hid hq9
                  have a0 := blk_cell mO9 0
                  have a1 := blk_cell mO9 1
                  have a2 := blk_cell mO9 2
                  have a3 := blk_cell mO9 3
                  have a4 := blk_cell mO9 4
                  have a5 := blk_cell mO9 5
                  have a6 := blk_cell mO9 6
                  have b0' := blk_cell mN 0
                  have b1' := blk_cell mN 1
                  have b2' := blk_cell mN 2
                  have b3' := blk_cell mN 3
                  have b4' := blk_cell mN 4
                  have b5' := blk_cell mN 5
                  have b6' := blk_cell mN 6
                  have cn := (Kept.of_belowX hq9).cell HCN.out
                  clear hb8 hq8 hbN mN hq9 mO9 HGN HMO
                  go_wp2_with fail
                  exact ⟨⟨q + 1, by omega, by simp, HQ9.out⟩, by simp [intOf]; omega⟩
                · have HST := Lib.hid (chstored_any x.m.ch Ap PV cp w5 HM5.out.2.2 (by have := HID.out.2.1; have := HID.out.2.2; omega) HID.out.1)
                  rw [getCh_one hib hrc] at HST
                  unfold gotH ChV.val at HST
                  dsimp only [Option.getD, Option.isSome] at HST
                  have HGC := Lib.hid hgc
                  clear hov hb5 hq5 hk5 hr5 m5 HGT HMP HCS HQ3 hrc hgc hib
                  have hne2 : (((⟨v2.toArray⟩ : ByteArray)).toList == (⟨PV.toArray⟩ : ByteArray).toList) = false := by
                    rw [ByteArray.toList_eq, ByteArray.toList_eq]
                    simpa using hvv
                  generalize (⟨v2.toArray⟩ : ByteArray) = S2 at *
                  generalize (⟨PV.toArray⟩ : ByteArray) = S1 at *
                  clear hvv
                  have d0 := blk_cell HM5.out.1 0
                  have hsl := chan_cut x.m.ch
                  have i5 : (9 : Int) ≤ ((kChn x.m.ch).size : Int) := by have := HID.out.2.1; omega
                  go_wp2_with fail
                  clear cv1 cv2 hne2 d0 d1 hsl i5
                  refine HST.out.mono ?_
                  rintro e w6 ⟨rfl, hb6⟩
                  have hq6 := HM5.out.2.1.trans (hb6.mono HM5.out.2.1.size)
                  have hbO : Below w6.heap.size w6 (w6.alloc (.cells #[.int .u64 3, .bool dod, .string dpo, .string dcp, .string dcn, .string dcc, .string dve] 85)) := (Below.refl _ _).alloc (Nat.le_refl _) _
                  have mO := heap_alloc_new w6 (.cells #[.int .u64 3, .bool dod, .string dpo, .string dcp, .string dcn, .string dcc, .string dve] 85)
                  have hq7 := hq6.trans (hbO.mono hq6.size)
                  obtain ⟨n6, f6, hn6, AT6⟩ := (HS4.out.up hq7).at
                  have hgn := chget_any AT6 x.m.ch (by have := HID.out.2.1; have := HID.out.2.2; omega)
                  rw [HGC.out] at hgn
                  unfold chV ChV.val at hgn
                  dsimp only at hgn
                  have HGN := Lib.hid hgn
                  have HMO := Lib.hid (And.intro mO hq7)
                  clear hb6 hq6 hbO mO hq7 AT6 hn6 hgn HST HGC
                  go_wp2_with fail
                  generalize w6.alloc (.cells #[.int .u64 3, .bool dod, .string dpo, .string dcp, .string dcn, .string dcc, .string dve] 85) = w7 at *
                  generalize w6.heap.size = gO at *
                  refine HGN.out.mono ?_
                  rintro e w8 ⟨rfl, hb8⟩
                  have hq8 := HMO.out.2.trans (hb8.mono HMO.out.2.size)
                  have hbN : Below w8.heap.size w8 (w8.alloc (.cells #[.int .u64 4, .bool dod, .string dpo, .string dcp, .string dcn, .string dcc, .string dve] 85)) := (Below.refl _ _).alloc (Nat.le_refl _) _
                  have mN := heap_alloc_new w8 (.cells #[.int .u64 4, .bool dod, .string dpo, .string dcp, .string dcn, .string dcc, .string dve] 85)
                  have hq9 := hq8.trans (hbN.mono hq8.size)
                  have mO9 := (hbN.block _ (blk_lt ((hb8.block _ (blk_lt HMO.out.1)).trans HMO.out.1))).trans ((hb8.block _ (blk_lt HMO.out.1)).trans HMO.out.1)
                  have HQ9 := Lib.hid hq9
                  have a0 := blk_cell mO9 0
                  have a1 := blk_cell mO9 1
                  have a2 := blk_cell mO9 2
                  have a3 := blk_cell mO9 3
                  have a4 := blk_cell mO9 4
                  have a5 := blk_cell mO9 5
                  have a6 := blk_cell mO9 6
                  have b0' := blk_cell mN 0
                  have b1' := blk_cell mN 1
                  have b2' := blk_cell mN 2
                  have b3' := blk_cell mN 3
                  have b4' := blk_cell mN 4
                  have b5' := blk_cell mN 5
                  have b6' := blk_cell mN 6
                  have cn := (Kept.of_belowX hq9).cell HCN.out
                  clear hb8 hq8 hbN mN hq9 mO9 HGN HMO
                  go_wp2_with fail
                  exact ⟨⟨q + 1, by omega, by simp, HQ9.out⟩, by simp [intOf]; omega⟩
            · have i1 : ¬ (q : Int) < (L1.length : Int) := by omega
              have hf := HFN.out _ HBZ.out
              clear HBZ hbz
              go_wp2_with fail
              exact ⟨⟨j + 1, by omega, by simp, hf⟩, by simp [intOf]; omega⟩
        · have zE : (E != 0) = true := by simpa using hE
          have hk21 : k2 = L1.length := HNO.out hE
          have HEN := Lib.hid hE
          subst hk21
          clear bb1 bb2 hE
          have bb1 : decide (L1.length < L1.length) = false := decide_eq_false (by omega)
          have bb2 : decide ((L1.length : Int) + 1 < (L1.length : Int)) = false := decide_eq_false (by omega)
          go_wp2_with fail
          clear bb1 bb2 l3 l4 zE
          go_loopw [83] (fun i Z => ∃ q : Nat, q ≤ L1.length ∧ i = .int .i64 (q : Int) ∧ Below w4.heap.size w4 Z)
            (fun i _ => L1.length - (intOf i).toNat)
          case atStart => exact ⟨0, by omega, rfl, Below.refl _ _⟩
          case round => as_aux_lemma =>
            obtain ⟨q, hq, rfl, hbz⟩ := hrel
            have HBZ := Lib.hid hbz
            have hL8 : L1.length ≤ 20000000 := HLN.out
            have i0 : (0 : Int) ≤ (q : Int) := by omega
            by_cases hql : q < L1.length
            · have i1 : (q : Int) < (L1.length : Int) := by omega
              obtain ⟨Aw2, cw2, ew, hc1, hc2, hrow⟩ := HRP4.out.keptP (Kept.of_belowX HBZ.out)
              injection ew with ew1 ew2 ew3
              subst ew1 ew3
              obtain ⟨g, ob, rfl, hgl, hcell⟩ := hrow (by omega)
              obtain ⟨q1, xv, q2, q3⟩ := hcell q hql
              have hrw := ch_row (R := R) HRS.out (q := q) (by rw [← HL1.out]; exact hql)
              simp only [← HL1.out] at hrw
              obtain ⟨id, hkey, hget⟩ := hrw
              obtain ⟨v2, hv2, hcase⟩ := HAL.out id _ hget
              have hpb := HFT.out _ _ hget
              rw [hkey] at q1
              obtain ⟨PV, hPV⟩ : ∃ l, l = L1[q].2 := ⟨_, rfl⟩
              rw [← hPV] at q3 hget hcase hpb
              obtain ⟨Ap, cp, rfl⟩ := q3.form
              have hks := kChn_size id
              have hsz : (kChn id).size ≤ 200 := by
                unfold pairB keyB at hpb
                simp only [Bool.and_eq_true, decide_eq_true_eq] at hpb
                omega
              have HID := Lib.hid (And.intro hpb (And.intro hks hsz))
              have hbp : Below wr.heap.size wr (wr.alloc (.cells #[.string (kChn id), .slice Ap PV.length cp] 74)) := (Below.refl _ _).alloc (Nat.le_refl _) _
              have mp := heap_alloc_new wr (.cells #[.string (kChn id), .slice Ap PV.length cp] 74)
              have hq4 := HBZ.out.trans (hbp.mono HBZ.out.size)
              obtain ⟨n4, f4, hn4, AT4⟩ := (HS4.out.up hq4).at
              have hgt := AT4.get (kChn id) (by unfold maxLen; omega)
              rw [hv2] at hgt
              have HGT := Lib.hid (show Calls Tryz.prog 31 #[.pointer (some ⟨b, 0, none⟩), .string (kChn id)] (wr.alloc (.cells #[.string (kChn id), .slice Ap PV.length cp] 74)) fun e w' => ∃ v, e = .returned (.tuple #[v, .bool true]) ∧ Own w' (wr.alloc (.cells #[.string (kChn id), .slice Ap PV.length cp] 74)).heap.size v v2 ∧ Below (wr.alloc (.cells #[.string (kChn id), .slice Ap PV.length cp] 74)).heap.size (wr.alloc (.cells #[.string (kChn id), .slice Ap PV.length cp] 74)) w' from hgt)
              have HQ3 := Lib.hid (fun (Z : World) (hz : Kept wr Z) => hz.rd q3)
              have HMP := Lib.hid (And.intro mp (And.intro hq4 (Kept.of_belowX hbp)))
              have HCS := Lib.hid hcase
              have d0 := blk_cell mp 0
              have hsl := chan_cut id
              have i5 : (9 : Int) ≤ ((kChn id).size : Int) := by omega
              clear hc1 hc2 hrow hcell hget hv2 hcase hpb hkey hPV hks hsz hq4 hbp mp AT4 hgt hn4 q3 hbz ew2
              go_wp2_with fail
              generalize wr.alloc (.cells #[.string (kChn id), .slice Ap PV.length cp] 74) = wp at *
              generalize wr.heap.size = gp at *
              clear q1 q2 d0 hsl i5
              refine HGT.out.mono ?_
              rintro e w5 ⟨vv, rfl, hov, hb5⟩
              obtain ⟨Av, cv, rfl⟩ := hov.form
              have hq5 := HMP.out.2.1.trans (hb5.mono HMP.out.2.1.size)
              have hk5 := HMP.out.2.2.transX (Kept.of_belowX hb5)
              have hr5 := HQ3.out _ hk5
              have cv1 := run_str Tryz.underlying32 Tryz.underlying5 Tryz.isString hov.rd
              have cv2 := run_str Tryz.underlying32 Tryz.underlying5 Tryz.isString hr5
              have m5 := (hb5.block _ (blk_lt HMP.out.1)).trans HMP.out.1
              have HM5 := Lib.hid (And.intro m5 (And.intro hq5 hr5))
              have d1 := blk_cell m5 1
              by_cases hvv : v2 = PV
              · subst hvv
                clear hov hb5 hq5 hk5 hr5 m5 HGT HMP HCS HQ3
                go_wp2_with fail
                exact ⟨⟨q + 1, by omega, by simp, HM5.out.2.1⟩, by simp [intOf]; omega⟩
              · obtain ⟨he0, hid, hib, c, c2, hrc, hgc, h1, h2, h3, h4, h5, h7⟩ := HCS.out.resolve_left hvv
                exact absurd he0 HEN.out
            · have i1 : ¬ (q : Int) < (L1.length : Int) := by omega
              have hf := HFN.out _ HBZ.out
              clear HBZ hbz
              go_wp2_with fail
              exact ⟨⟨j + 1, by omega, by simp, hf⟩, by simp [intOf]; omega⟩
      · have hjn : j = n := by omega
        have i2 : ¬ (j : Int) < (n : Int) := by omega
        subst hjn
        have hqf := HX0.bel
        clear HX0
        go_wp2_with fail
        go_ret
        exact ⟨rfl, hqf⟩
end Go.Proofs.YtmphegeiclgjbaaGreatDoor
