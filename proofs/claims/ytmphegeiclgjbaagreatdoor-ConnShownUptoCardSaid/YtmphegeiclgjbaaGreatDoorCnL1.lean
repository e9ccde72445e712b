/- The law: each step of a handshake was shown. -/
import Derived.Test.YtmphegeiclgjbaaGreatDoorM20
import Derived.Test.YtmphegeiclgjbaaGreatDoorM21
import Derived.Test.YtmphegeiclgjbaaGreatDoorM14
namespace Go.Proofs.YtmphegeiclgjbaaGreatDoor
set_option maxRecDepth 100000
open Go Go.RowKit
set_option linter.unusedVariables false
theorem StB.run15 {w Z : World} {b m b' m' N j : Nat} {R R' R2 : List Pr} {z : Lyr} (h : StB w b m b' m' R R' N z R2 j Z) (hn : j + 3 ≤ maxLen) (x : StepV) (hm : x.m.rd Z) (hf : x.fine) (hT : Pows Z)
    (fr : TypeId × Nat × Nat) (hk : Z.heap[0]? = some (.cells kVals fr.1 fr.2)) :
    Calls Tryz.prog 30 #[.pointer (some ⟨z.b, 0, none⟩), .agg x.cells.toArray] Z fun e w' => e = .returned (.int .i64 (stepM15 R2 x).1) ∧ StB w b m b' m' R R' N z (stepM15 R2 x).2 (j + 3) w' ∧ Kept Z w' := by
  obtain ⟨W1, l, hA, h0, hr⟩ := h.op
  exact (cnrun_any hA (by omega) x hm hf hT fr hk).mono fun e w' ⟨h1, h2, h3⟩ => ⟨h1, hr _ _ _ h2, h3⟩
set_option maxHeartbeats 64000000 in
theorem cnshown_law (w : World) (v1 v2 v3 : Value) (ps1 ps2 : List Pr) (xs : List StepV) (h1 : RdP w w.heap.size v1 ps1) (h2 : RdP w w.heap.size v2 ps2) (n1 : ∀ p ∈ ps1, p.1.size ≤ maxLen) (n2 : ∀ p ∈ ps2, p.1.size ≤ maxLen) (l1 : ps1.length ≤ 2000000) (l2 : ps2.length ≤ 2000000)
    (hx : RdSt w v3 xs) (hf : ∀ x ∈ xs, x.fine) (lx : xs.length ≤ 2000000) (hT : Pows w) (fr : TypeId × Nat × Nat) (hk : w.heap[0]? = some (.cells kVals fr.1 fr.2)) :
    Calls Tryz.prog 8 #[v1, v2, v3] w fun e w' => e = .returned (.bool true) ∧ Below w.heap.size w w' := by
  have HS := Lib.hid (cnstores_any w v1 v2 ps1 ps2 h1 h2 n1 n2 l1 l2)
  have HFX : Hid (∀ Z, Below w.heap.size w Z → Calls Tryz.prog 28 #[] Z fun e w' => e = .returned (.bool true) ∧ Below Z.heap.size Z w') := Lib.hid fun Z hz => cnfixed_any Z fr ((hz.block _ (blk_lt hk)).trans hk)
  have HX := Lib.hid (fun (Z : World) (hz : Kept w Z) => hx.keptM hz)
  have HFI := Lib.hid hf
  have HTB : Hid (∀ Z, Kept w Z → Pows Z ∧ Z.heap[0]? = some (.cells kVals fr.1 fr.2)) := Lib.hid fun Z hz => ⟨hT.kept hz, hz.blockP hk⟩
  obtain ⟨A1, c1, rfl⟩ : ∃ A c, v1 = .slice A ps1.length c := by obtain ⟨A, c, h, _⟩ := h1; exact ⟨A, c, h⟩
  obtain ⟨A2, c2, rfl⟩ : ∃ A c, v2 = .slice A ps2.length c := by obtain ⟨A, c, h, _⟩ := h2; exact ⟨A, c, h⟩
  obtain ⟨A3, c3, rfl⟩ : ∃ A c, v3 = .slice A xs.length c := by obtain ⟨A, c, h, _⟩ := hx; exact ⟨A, c, h⟩
  obtain ⟨n, hn⟩ : ∃ n, n = xs.length := ⟨_, rfl⟩
  rw [← hn] at HX ⊢
  have HN : Hid (n = xs.length ∧ n ≤ 2000000) := Lib.hid ⟨hn, by rw [hn]; exact lx⟩
  clear h1 h2 n1 n2 l1 l2 hx hf lx hT hk hn
  go_enter Tryz.func8, Tryz.ntmps8
  go_wp2_with fail
  refine HS.out.mono ?_
  rintro e w1 ⟨p1, p2, ok, rfl, hb1, hok⟩
  have HBL : Hid (∀ Z, Z = w1.alloc (.cells #[.pointer p1, .pointer p2] 25) → Below w.heap.size w Z) := Lib.hid fun Z e => by rw [e]; exact hb1.trans (((Below.refl _ _).alloc (Nat.le_refl _) _).mono hb1.size)
  have HUP : Hid (∀ (Z : World) (b m b' m' : Nat) (R R' : List Pr) (N : Nat), Z = w1.alloc (.cells #[.pointer p1, .pointer p2] 25) → Sts w b m b' m' R R' N w1 → Sts w b m b' m' R R' N Z) := Lib.hid fun Z b m b' m' R R' N e h => by rw [e]; exact h.up ((Below.refl _ _).alloc (Nat.le_refl _) _)
  have HRG := Lib.hid (heap_alloc_new w1 (.cells #[.pointer p1, .pointer p2] 25))
  have HOK := Lib.hid hok
  clear HS hb1 hok
  go_wp2_with fail
  generalize w1.alloc (.cells #[.pointer p1, .pointer p2] 25) = wB at *
  generalize w1.heap.size = g7 at *
  have hqB := HBL.out _ rfl
  refine (HFX.out _ hqB).mono ?_
  rintro e w4 ⟨rfl, hb4⟩
  have hq4 : Below w.heap.size w w4 := hqB.trans (hb4.mono hqB.size)
  cases ok with
  | false =>
    clear HBL HUP HRG HOK hqB hb4
    go_wp2_with fail
    refine (HFX.out _ hq4).mono ?_
    rintro e w5 ⟨rfl, hb5⟩
    have hq5 : Below w.heap.size w w5 := hq4.trans (hb5.mono hq4.size)
    clear hq4 hb5
    go_wp2_with fail
    go_ret
    exact ⟨rfl, hq5⟩
  | true =>
    obtain ⟨b1, m1, b2, m2, rfl, rfl, hst, hn1, hn2⟩ := HOK.out rfl
    have HL : Hid (LSP w b1 m1 b2 m2 g7 2000000 (fun _ => True) w4) := Lib.hid (by
      have hs := (HUP.out _ _ _ _ _ _ _ _ rfl hst).up hb4
      have hk4 := Kept.of_belowX hb4
      exact ⟨⟨_, _, trivial, trivial, hs⟩, hk4.cell (blk_cell HRG.out 0), hk4.cell (blk_cell HRG.out 1)⟩)
    clear HBL HUP HRG HOK hqB hb4 hst hn1 hn2 hq4 HFX
    go_wp2_with fail
    go_loopw [33] (fun i Z => ∃ j : Nat, j ≤ n ∧ i = .int .i64 (j : Int) ∧ LSP w b1 m1 b2 m2 g7 (2000000 + 3 * j) (fun _ => True) Z)
      (fun i _ => n - (intOf i).toNat)
    case atStart => exact ⟨0, by omega, rfl, HL.out⟩
    case round => as_aux_lemma =>
      clear HL
      obtain ⟨j, hj, rfl, HX0⟩ := hrel
      by_cases hlt : j < n
      · have hkr := Kept.of_belowX HX0.bel
        have HTR := Lib.hid (fun (Z : World) (hz : Kept wr Z) => HTB.out _ (hkr.transX hz))
        obtain ⟨A', c', e', hrd, hcell⟩ := HX.out _ hkr
        have hjl : j < xs.length := by have := HN.out.1; omega
        obtain ⟨g, o, hA', -, hcl⟩ := hcell (by omega)
        injection e' with e1 e2 e3
        subst e1 e3
        subst hA'
        have hck := hcl j hjl
        have hmem : xs[j] ∈ xs := List.getElem_mem hjl
        have hm0 := hrd _ hmem
        have hfn := HFI.out _ hmem
        generalize xs[j] = x at *
        have HM := Lib.hid (fun (Z : World) (hz : Kept wr Z) => hm0.keptM hz)
        have HFQ := Lib.hid hfn
        have HJ : Hid (2000000 + 3 * j + 3 ≤ 100000000 ∧ 2000000 + 3 * j + 3 = 2000000 + 3 * (j + 1)) := Lib.hid (by have := HN.out.2; omega)
        obtain ⟨SL, hSL⟩ : ∃ L : List Value, L = x.cells := ⟨_, rfl⟩
        rw [← hSL] at hck
        have hl66 : SL.length = 66 := by rw [hSL]; rfl
        have hrng : wr.rangeAt g (o + j * 66) SL := fun i u hu => hck i u (by have := (List.getElem?_eq_some_iff.1 hu).1; omega) hu
        have HRNG := Lib.hid hrng
        have HINF : Hid ((Tryz.prog.info? 48).map (·.size) = some SL.length) := Lib.hid (by rw [hl66]; kernel_rfl)
        have HONE : Hid (SL.toArray.all (·.oneCell') = true) := Lib.hid (by rw [hSL]; exact x.one hm0)
        have HSL := Lib.hid hSL
        have hz66 : Array.size Tryz.zeroCells48 = 66 := by kernel_rfl
        have HTH : Hid ((wr.alloc (.cells Tryz.zeroCells48 48)).there wr.heap.size 0 SL.toArray.size) := Lib.hid (there_new _ _ _ _ (by rw [hz66]; simp [hl66]))
        have hrg0 := range_new wr (Tryz.zeroCells48) 48 SL (by rw [hz66, hl66]; exact Nat.le_refl _)
        have hb0 := below_new wr (Tryz.zeroCells48) 48 SL
        obtain ⟨i, b, m, b', m', R, R', hi, hi2, hpr, hs, hcb, hre⟩ := HX0.pick _ (and1i x.on)
        have HPR := Lib.hid hpr
        clear hpr
        have hs0 := hs.up hb0
        have hk0 := Kept.of_belowX hb0
        have k0 := range_cellT hrg0 0 (.int .i64 x.on) (by rw [hSL]; rfl)
        have k11 := range_cellT hrg0 11 (.string x.m.cl) (by rw [hSL]; rfl)
        have kb := hk0.cell hcb
        have hj9 : n ≤ 2000000 := HN.out.2
        have j1 : (0 : Int) ≤ (j : Int) := by omega
        have j2 : (j : Int) < (n : Int) := by omega
        have i1 : (0 : Int) ≤ (i : Int) := by omega
        have i2 : (i : Int) < 2 := by omega
        have HR0 := Lib.hid (And.intro hs0 (And.intro hk0 (And.intro hrg0 hb0)))
        have HRE := Lib.hid hre
        have HKB := Lib.hid (fun (Z : World) (hz : Kept wr Z) => hz.cell hcb)
        clear hz66 hck hcl hcell hrd hmem hm0 hfn hl66 hrng hSL hrg0 hb0 hs0 hk0 hs hcb hre HX0 hkr e2
        go_wp2_with (first
          | (with_reducible refine at_load 48 ?_; refine wpList_load_mid rfl 48 (.tmp 35) rfl g (o + j * 66) rfl SL _ HRNG.out Tryz.underlying48 rfl HINF.out ?_)
          | (with_reducible refine at_store 48 ?_; refine wpList_store_mid rfl 48 (.tmp 10) (.tmp 36) rfl wr.heap.size 0 SL.toArray rfl rfl HTH.out (by have := HINF.out; simpa using this) HONE.out ?_))
        try simp only [List.toList_toArray]
        clear k0 k11 kb
        obtain ⟨hs0, hk0, hrg0, hb0⟩ := HR0.out
        generalize (wr.alloc (.cells Tryz.zeroCells48 48)).setCells wr.heap.size 0 SL = w0 at *
        obtain ⟨ML, hML⟩ : ∃ L : List Value, L = x.m.cells := ⟨_, rfl⟩
        have HML := Lib.hid hML
        have hSM : SL = .int .i64 x.on :: .int .u64 (x.self : Int) :: .int .u64 (x.now : Int) :: .string x.sg :: ML := by rw [HSL.out, hML]; rfl
        have hone2 := HONE.out
        rw [hSM] at hone2
        have HON2 : Hid (ML.toArray.all (·.oneCell') = true) := Lib.hid (by simpa [Value.oneCell'] using hone2)
        have HINM : Hid ((Tryz.prog.info? 46).map (·.size) = some ML.length) := Lib.hid (by rw [hML]; kernel_rfl)
        have hl62 : ML.length = 62 := by rw [hML]; rfl
        have hrM : w0.rangeAt wr.heap.size 4 ML := fun q v hv => by
          have h := hrg0 (q + 4) v (by rw [hSM]; exact hv)
          rwa [Nat.zero_add, Nat.add_comm] at h
        have HRM := Lib.hid (fun (Z : World) (hz : Kept w0 Z) => (show Z.rangeAt wr.heap.size 4 ML from fun q v hv => hz.cell (hrM q v hv)))
        have HC7 := Lib.hid (fun (Z : World) (hz : Kept w0 Z) => And.intro (hz.cell (range_cellT hrg0 0 (.int .i64 x.on) (by rw [HSL.out]; rfl))) (hz.cell (HKB.out w0 hk0)))
        have HK0 := Lib.hid (And.intro hk0 hrg0)
        have HS0 := Lib.hid hs0
        have hbd : Below w0.heap.size w0 w0.drew := (Below.refl _ _).drew
        have hkd := Kept.of_belowX hbd
        have HTM : Hid ((w0.drew.alloc (.cells #[.int .i64 0, .string ⟨#[]⟩, .string ⟨#[]⟩, .int .u64 0, .int .u64 0, .int .u64 0, .int .u64 0, .string ⟨#[]⟩, .string ⟨#[]⟩, .string ⟨#[]⟩, .string ⟨#[]⟩, .string ⟨#[]⟩, .string ⟨#[]⟩, .string ⟨#[]⟩, .string ⟨#[]⟩, .string ⟨#[]⟩, .bool false, .string ⟨#[]⟩, .int .u64 0, .int .u64 0, .slice none 0 0, .slice none 0 0, .slice none 0 0, .string ⟨#[]⟩, .int .u64 0, .int .u64 0, .slice none 0 0, .slice none 0 0, .slice none 0 0, .slice none 0 0, .slice none 0 0, .slice none 0 0, .slice none 0 0, .slice none 0 0, .int .u64 0, .int .u64 0, .int .u64 0, .int .u64 0, .string ⟨#[]⟩, .string ⟨#[]⟩, .int .u64 0, .slice none 0 0, .int .u64 0, .int .u64 0, .slice none 0 0, .int .i64 0, .slice none 0 0, .int .u64 0, .string ⟨#[]⟩, .int .u64 0, .int .u64 0, .int .u64 0, .int .u64 0, .int .u64 0, .int .u64 0, .int .u64 0, .int .u64 0, .int .u64 0, .int .u64 0, .int .u64 0, .int .u64 0, .slice none 0 0] 46)).there w0.drew.heap.size 0 ML.toArray.size) := Lib.hid (there_new _ _ _ _ (by simp [hl62]))
        clear hML hSM hone2 hl62 hrM hk0 hrg0 hs0 hb0 HR0 HTH HRNG HONE
        generalize wr.heap.size = g10 at *
        refine wp_region_held_drew (S := KepS w0.drew) (by kernel_rfl) (KepS.refl _) (fun hS0 => ?_)
        generalize w0.drew = wd at *
        refine wpAnyH_take (i := 0) (oi := _) (v := ?_) rfl (by kernel_rfl) (by kernel_rfl) (by kernel_rfl) (fun _ _ _ h => h) (Or.inl ⟨by rfl, ?_⟩) hS0 ?_
        rotate_left
        · intro W hSW
          try go_simp
          all_goals with_reducible rfl
        simp only [Act.put, List.setIfInBounds_toArray, List.set_cons_zero, List.set_cons_succ, List.getElem_toArray, List.getElem_cons_zero, List.getElem_cons_succ]
        refine wpAnyH_take (i := 1) (oi := _) (v := ?_) rfl (by kernel_rfl) (by kernel_rfl) (by kernel_rfl) (fun _ _ _ h => h) (Or.inl ⟨by rfl, ?_⟩) hS0 ?_
        rotate_left
        · intro W hSW
          obtain ⟨k0, kb⟩ := HC7.out W (hkd.transX hSW)
          try go_simp
          all_goals with_reducible rfl
        simp only [Act.put, List.setIfInBounds_toArray, List.set_cons_zero, List.set_cons_succ, List.getElem_toArray, List.getElem_cons_zero, List.getElem_cons_succ]
        refine wpAnyH_take (i := 2) (oi := _) (v := ?_) rfl (by kernel_rfl) (by kernel_rfl) (by kernel_rfl) (fun _ _ _ h => h) (Or.inl ⟨by rfl, ?_⟩) hS0 ?_
        rotate_left
        · intro W hSW
          obtain ⟨k0, kb⟩ := HC7.out W (hkd.transX hSW)
          try go_simp
          all_goals with_reducible rfl
        simp only [Act.put, List.setIfInBounds_toArray, List.set_cons_zero, List.set_cons_succ, List.getElem_toArray, List.getElem_cons_zero, List.getElem_cons_succ]
        refine wpAnyH_take (i := 3) (oi := _) (v := ?_) rfl (by kernel_rfl) (by kernel_rfl) (by kernel_rfl) (fun _ _ _ h => h) (Or.inl ⟨by rfl, ?_⟩) hS0 ?_
        rotate_left
        · intro W hSW
          obtain ⟨k0, kb⟩ := HC7.out W (hkd.transX hSW)
          try go_simp
          all_goals with_reducible rfl
        simp only [Act.put, List.setIfInBounds_toArray, List.set_cons_zero, List.set_cons_succ, List.getElem_toArray, List.getElem_cons_zero, List.getElem_cons_succ]
        refine wpAnyH_take (i := 4) (oi := _) (v := ?_) rfl (by kernel_rfl) (by kernel_rfl) (by kernel_rfl) (fun _ _ _ h => h) (Or.inl ⟨by rfl, ?_⟩) hS0 ?_
        rotate_left
        · intro W hSW
          obtain ⟨k0, kb⟩ := HC7.out W (hkd.transX hSW)
          try go_simp
          all_goals with_reducible rfl
        simp only [Act.put, List.setIfInBounds_toArray, List.set_cons_zero, List.set_cons_succ, List.getElem_toArray, List.getElem_cons_zero, List.getElem_cons_succ]
        refine wpAnyH_take (i := 5) (oi := _) (v := ?_) rfl (by kernel_rfl) (by kernel_rfl) (by kernel_rfl) (fun _ _ _ h => h) (Or.inl ⟨by rfl, ?_⟩) hS0 ?_
        rotate_left
        · intro W hSW
          try go_simp
          all_goals with_reducible rfl
        simp only [Act.put, List.setIfInBounds_toArray, List.set_cons_zero, List.set_cons_succ, List.getElem_toArray, List.getElem_cons_zero, List.getElem_cons_succ]
        refine wpAnyH_take (i := 6) (oi := _) (v := .agg ML.toArray) rfl (by kernel_rfl) (by kernel_rfl) (by kernel_rfl) (fun _ _ _ h => h) (yieldsIf_load_mid (by rfl) 46 (.tmp 42) rfl g10 4 rfl ML _ (fun W h => HRM.out W (hkd.transX h)) Tryz.underlying46 rfl HINM.out) hS0 ?_
        simp only [Act.put, List.setIfInBounds_toArray, List.set_cons_zero, List.set_cons_succ, List.getElem_toArray, List.getElem_cons_zero, List.getElem_cons_succ]
        refine wpAnyH_ready (rs := [7]) (by kernel_rfl) (by simp) (AllReadyH.cons rfl (fun K hK => ?_) AllReadyH.nil)
        go_simp
        have hS1 : KepS wd (wd.alloc (.cells #[.int .i64 0, .string ⟨#[]⟩, .string ⟨#[]⟩, .int .u64 0, .int .u64 0, .int .u64 0, .int .u64 0, .string ⟨#[]⟩, .string ⟨#[]⟩, .string ⟨#[]⟩, .string ⟨#[]⟩, .string ⟨#[]⟩, .string ⟨#[]⟩, .string ⟨#[]⟩, .string ⟨#[]⟩, .string ⟨#[]⟩, .bool false, .string ⟨#[]⟩, .int .u64 0, .int .u64 0, .slice none 0 0, .slice none 0 0, .slice none 0 0, .string ⟨#[]⟩, .int .u64 0, .int .u64 0, .slice none 0 0, .slice none 0 0, .slice none 0 0, .slice none 0 0, .slice none 0 0, .slice none 0 0, .slice none 0 0, .slice none 0 0, .int .u64 0, .int .u64 0, .int .u64 0, .int .u64 0, .string ⟨#[]⟩, .string ⟨#[]⟩, .int .u64 0, .slice none 0 0, .int .u64 0, .int .u64 0, .slice none 0 0, .int .i64 0, .slice none 0 0, .int .u64 0, .string ⟨#[]⟩, .int .u64 0, .int .u64 0, .int .u64 0, .int .u64 0, .int .u64 0, .int .u64 0, .int .u64 0, .int .u64 0, .int .u64 0, .int .u64 0, .int .u64 0, .int .u64 0, .slice none 0 0] 46)) := Kept.of_belowX ((Below.refl _ _).alloc (Nat.le_refl _) _)
        refine hK.out _ _ hS1 (fun _ => ?_)
        clear hK K
        refine wpAnyH_take (i := 8) (oi := _) (v := ?_) rfl (by kernel_rfl) (by kernel_rfl) (by kernel_rfl) (fun _ _ _ h => h) (Or.inl ⟨by rfl, ?_⟩) hS1 ?_
        rotate_left
        · intro W hSW
          try go_simp
          all_goals with_reducible rfl
        simp only [Act.put, List.setIfInBounds_toArray, List.set_cons_zero, List.set_cons_succ, List.getElem_toArray, List.getElem_cons_zero, List.getElem_cons_succ]
        refine wpAnyH_ready (rs := [9]) (by kernel_rfl) (by simp) (AllReadyH.cons rfl (fun K hK => ?_) AllReadyH.nil)
        rw [if_pos (by rfl)]
        refine wp_store_mid 46 (.tmp 12) (.tmp 43) rfl wd.heap.size 0 ML.toArray rfl rfl HTM.out (by have := HINM.out; simpa using this) HON2.out ?_
        try simp only [List.toList_toArray]
        have hbS0 := below_new wd #[.int .i64 0, .string ⟨#[]⟩, .string ⟨#[]⟩, .int .u64 0, .int .u64 0, .int .u64 0, .int .u64 0, .string ⟨#[]⟩, .string ⟨#[]⟩, .string ⟨#[]⟩, .string ⟨#[]⟩, .string ⟨#[]⟩, .string ⟨#[]⟩, .string ⟨#[]⟩, .string ⟨#[]⟩, .string ⟨#[]⟩, .bool false, .string ⟨#[]⟩, .int .u64 0, .int .u64 0, .slice none 0 0, .slice none 0 0, .slice none 0 0, .string ⟨#[]⟩, .int .u64 0, .int .u64 0, .slice none 0 0, .slice none 0 0, .slice none 0 0, .slice none 0 0, .slice none 0 0, .slice none 0 0, .slice none 0 0, .slice none 0 0, .int .u64 0, .int .u64 0, .int .u64 0, .int .u64 0, .string ⟨#[]⟩, .string ⟨#[]⟩, .int .u64 0, .slice none 0 0, .int .u64 0, .int .u64 0, .slice none 0 0, .int .i64 0, .slice none 0 0, .int .u64 0, .string ⟨#[]⟩, .int .u64 0, .int .u64 0, .int .u64 0, .int .u64 0, .int .u64 0, .int .u64 0, .int .u64 0, .int .u64 0, .int .u64 0, .int .u64 0, .int .u64 0, .int .u64 0, .slice none 0 0] 46 ML
        refine hK.out _ _ (show KepS wd _ from Kept.of_belowX hbS0) (fun _ => ?_)
        clear hK K hS0 hS1
        refine wpAnyH_done (by kernel_rfl) ?_ _
        have hrS0 := range_new wd #[.int .i64 0, .string ⟨#[]⟩, .string ⟨#[]⟩, .int .u64 0, .int .u64 0, .int .u64 0, .int .u64 0, .string ⟨#[]⟩, .string ⟨#[]⟩, .string ⟨#[]⟩, .string ⟨#[]⟩, .string ⟨#[]⟩, .string ⟨#[]⟩, .string ⟨#[]⟩, .string ⟨#[]⟩, .string ⟨#[]⟩, .bool false, .string ⟨#[]⟩, .int .u64 0, .int .u64 0, .slice none 0 0, .slice none 0 0, .slice none 0 0, .string ⟨#[]⟩, .int .u64 0, .int .u64 0, .slice none 0 0, .slice none 0 0, .slice none 0 0, .slice none 0 0, .slice none 0 0, .slice none 0 0, .slice none 0 0, .slice none 0 0, .int .u64 0, .int .u64 0, .int .u64 0, .int .u64 0, .string ⟨#[]⟩, .string ⟨#[]⟩, .int .u64 0, .slice none 0 0, .int .u64 0, .int .u64 0, .slice none 0 0, .int .i64 0, .slice none 0 0, .int .u64 0, .string ⟨#[]⟩, .int .u64 0, .int .u64 0, .int .u64 0, .int .u64 0, .int .u64 0, .int .u64 0, .int .u64 0, .int .u64 0, .int .u64 0, .int .u64 0, .int .u64 0, .int .u64 0, .slice none 0 0] 46 ML (by rw [HML.out]; exact Nat.le_refl _)
        have hbS := hbd.trans (hbS0.mono hbd.size)
        have HBS0 := Lib.hid hbS
        have HRS0 := Lib.hid hrS0
        clear hbS0 hrS0 hbS hbd hkd HTM HON2 HINM HRM HC7 HKB
        generalize (wd.alloc (.cells #[.int .i64 0, .string ⟨#[]⟩, .string ⟨#[]⟩, .int .u64 0, .int .u64 0, .int .u64 0, .int .u64 0, .string ⟨#[]⟩, .string ⟨#[]⟩, .string ⟨#[]⟩, .string ⟨#[]⟩, .string ⟨#[]⟩, .string ⟨#[]⟩, .string ⟨#[]⟩, .string ⟨#[]⟩, .string ⟨#[]⟩, .bool false, .string ⟨#[]⟩, .int .u64 0, .int .u64 0, .slice none 0 0, .slice none 0 0, .slice none 0 0, .string ⟨#[]⟩, .int .u64 0, .int .u64 0, .slice none 0 0, .slice none 0 0, .slice none 0 0, .slice none 0 0, .slice none 0 0, .slice none 0 0, .slice none 0 0, .slice none 0 0, .int .u64 0, .int .u64 0, .int .u64 0, .int .u64 0, .string ⟨#[]⟩, .string ⟨#[]⟩, .int .u64 0, .slice none 0 0, .int .u64 0, .int .u64 0, .slice none 0 0, .int .i64 0, .slice none 0 0, .int .u64 0, .string ⟨#[]⟩, .int .u64 0, .int .u64 0, .int .u64 0, .int .u64 0, .int .u64 0, .int .u64 0, .int .u64 0, .int .u64 0, .int .u64 0, .int .u64 0, .int .u64 0, .int .u64 0, .slice none 0 0] 46)).setCells wd.heap.size 0 ML = wS at *
        generalize wd.heap.size = g12 at *
        obtain ⟨nn, ff, hnn, AT0⟩ := HS0.out.at
        have AS := AT0.up HBS0.out
        have hkS := Kept.of_belowX HBS0.out
        have HKS := Lib.hid (HK0.out.1.transX hkS)
        have HSS := Lib.hid (HS0.out.up HBS0.out)
        have hrs := range_kept HK0.out.2 hkS
        have HRA := Lib.hid (fun (Z : World) (hz : Kept wS Z) => range_kept hrs hz)
        have hrm := HRS0.out
        have HSZ : Hid (∀ s ∈ x.m.texts, s.size ≤ 1048576) := Lib.hid HFQ.out.m.t
        have hG := cnget_any AS x.m.cn (by have := HSZ.out x.m.cn (by simp [MsgV.texts]); omega)
        rw [cnV_got] at hG
        have hok : (gotN (getCn R x.m.cn)).ok := gotN_ok
        have hsh := cn_shown (R := R) (x := x)
        obtain ⟨V, hV⟩ : ∃ v, v = gotN (getCn R x.m.cn) := ⟨_, rfl⟩
        rw [← hV] at hG hok hsh
        generalize (getCn R x.m.cn).isSome = bok at hG
        obtain ⟨vst, vcl, vcc, vct⟩ := V
        obtain ⟨o1, o2, o3, o4⟩ := hok
        unfold CnV.val at hG
        dsimp only at hG hsh o1 o2 o3 o4
        have HG := Lib.hid hG
        have HOK := Lib.hid (And.intro o2 (And.intro o3 o4))
        obtain ⟨Ap, cp, hpv⟩ := (HM.out _ (Kept.refl _)).r_pf.form
        have HPV := Lib.hid hpv
        have HCF : Hid (∀ Z, Kept wS Z → Z.cell? ⟨g12, 0, none⟩ = some (.int .i64 x.m.kd) ∧ Z.cell? ⟨g12, 7, none⟩ = some (.string x.m.cl) ∧ Z.cell? ⟨g12, 8, none⟩ = some (.string x.m.cc) ∧ Z.cell? ⟨g12, 9, none⟩ = some (.string x.m.cn) ∧ Z.cell? ⟨g12, 10, none⟩ = some (.string x.m.cd) ∧ Z.cell? ⟨g12, 34, none⟩ = some (.int .u64 (x.m.ht : Int)) ∧ Z.cell? ⟨g12, 45, none⟩ = some (.int .i64 x.m.pf.n) ∧ Z.cell? ⟨g12, 46, none⟩ = some (.slice Ap x.m.pf.ls.length cp) ∧ Z.cell? ⟨g10, 2, none⟩ = some (.int .u64 (x.now : Int))) := Lib.hid fun Z hz => ⟨hz.cell (range_cellT hrm 0 _ (by rw [HML.out]; rfl)), hz.cell (range_cellT hrm 7 _ (by rw [HML.out]; rfl)), hz.cell (range_cellT hrm 8 _ (by rw [HML.out]; rfl)), hz.cell (range_cellT hrm 9 _ (by rw [HML.out]; rfl)), hz.cell (range_cellT hrm 10 _ (by rw [HML.out]; rfl)), hz.cell (range_cellT hrm 34 _ (by rw [HML.out]; rfl)), hz.cell (range_cellT hrm 45 _ (by rw [HML.out]; rfl)), by rw [← hpv]; exact hz.cell (range_cellT hrm 46 _ (by rw [HML.out]; rfl)), hz.cell (range_cellT hrs 2 _ (by rw [HSL.out]; rfl))⟩
        obtain ⟨⟨E, R2⟩, hU⟩ : ∃ p, p = stepM15 R x := ⟨_, rfl⟩
        rw [← hU] at hsh
        dsimp only at hsh
        have HSH := Lib.hid hsh
        have HU := Lib.hid hU
        obtain ⟨f0, f1, f2, f3, f4, f5, f6, f7, f8⟩ := HCF.out _ (Kept.refl _)
        clear AT0 AS hkS hrs hrm hG hsh hV hU hpv o1 o2 o3 o4 hnn HRS0 HBS0 HS0 HML
        go_wp2_with fail
        refine HG.out.mono ?_
        rintro e w1 ⟨rfl, hb1⟩
        have mC := heap_alloc_new w1 (.cells #[.int .u64 (vst : Int), .string vcl, .string vcc, .string vct] 78)
        have bC := hb1.alloc hb1.size (.cells #[.int .u64 (vst : Int), .string vcl, .string vcc, .string vct] 78)
        have HMC := Lib.hid mC
        have HBC := Lib.hid bC
        have HBR := Lib.hid ((HSS.out.up bC).branch)
        clear f0 f1 f2 f3 f4 f5 f6 f7 f8 mC bC hb1 HG
        go_wp2_with fail
        generalize w1.alloc (.cells #[.int .u64 (vst : Int), .string vcl, .string vcc, .string vct] 78) = wC at *
        generalize w1.heap.size = gC at *
        refine HBR.out.mono ?_
        rintro e w2 ⟨z, rfl, hz2, hb2⟩
        have hq2 := HBC.out.trans (hb2.mono HBC.out.size)
        have hk2 := Kept.of_belowX hq2
        have hkw := HKS.out.transX hk2
        have hST := hz2.run15 (by decide) x (HM.out _ hkw) HFQ.out (HTR.out _ hkw).1 fr (HTR.out _ hkw).2
        rw [← HSL.out, ← HU.out] at hST
        have HST := Lib.hid hST
        have HR2 := Lib.hid (HRA.out _ hk2)
        have HK2 := Lib.hid hk2
        have HMC2 := Lib.hid ((hb2.block _ (blk_lt HMC.out)).trans HMC.out)
        clear hST hkw hk2 hq2 hb2 hz2 HBR
        go_wp2_with (with_reducible refine at_load 48 ?_; refine wpList_load_mid rfl 48 (.tmp 10) rfl g10 0 rfl SL _ HR2.out Tryz.underlying48 rfl HINF.out ?_)
        refine HST.out.mono ?_
        rintro e w3 ⟨rfl, hz3, hk3⟩
        have hkS3 := HK2.out.transX hk3
        have HZ3 := Lib.hid hz3
        have HK3 := Lib.hid hkS3
        have HMC3 := Lib.hid (hk3.blockP HMC2.out)
        clear hz3 hk3 hkS3 HST HR2 HMC2 HRA HINF HMC HBC HSS
        by_cases hE : E = 0
        rotate_left
        · have zE : (E == 0) = false := by simpa using hE
          have hfin : LSP w b1 m1 b2 m2 g7 (2000000 + 3 * (j + 1)) (fun _ => True) w3 := HRE.out _ (fun _ _ => trivial) _ _ _ trivial (by
            have h := HZ3.out.back
            exact h.more (by omega)) (HKS.out.transX HK3.out)
          clear hE HRE HPR HM HFQ HTR HJ HSL HKS HSZ HOK HPV HCF HSH HU HZ3 HK3 HMC3
          go_wp2_with fail
          exact ⟨⟨j + 1, by omega, by simp, hfin⟩, by simp [intOf]; omega⟩
        subst hE
        obtain ⟨s6, s7, s8⟩ := HSH.out rfl
        by_cases hk6 : x.m.kd = 6
        · have hv0 := s6 hk6
          have hkd : x.m.kd = 6 := hk6
          obtain ⟨WA, nA, fA, AA⟩ := HZ3.out.at
          have HCO : Hid (∀ Z, Kept w3 Z → Z.cell? ⟨g12, 0, none⟩ = some (.int .i64 6) ∧ Z.cell? ⟨g12, 7, none⟩ = some (.string x.m.cl) ∧ Z.cell? ⟨g12, 8, none⟩ = some (.string x.m.cc) ∧ Z.cell? ⟨g12, 9, none⟩ = some (.string x.m.cn) ∧ Z.cell? ⟨g12, 10, none⟩ = some (.string x.m.cd) ∧ Z.cell? ⟨g12, 34, none⟩ = some (.int .u64 (x.m.ht : Int)) ∧ Z.cell? ⟨g12, 45, none⟩ = some (.int .i64 x.m.pf.n) ∧ Z.cell? ⟨g12, 46, none⟩ = some (.slice Ap x.m.pf.ls.length cp) ∧ Z.cell? ⟨g10, 2, none⟩ = some (.int .u64 (x.now : Int)) ∧ Z.cell? ⟨gC, 0, none⟩ = some (.int .u64 (vst : Int)) ∧ Z.cell? ⟨gC, 1, none⟩ = some (.string vcl) ∧ Z.cell? ⟨gC, 2, none⟩ = some (.string vcc) ∧ Z.cell? ⟨gC, 3, none⟩ = some (.string vct)) := Lib.hid fun Z hz => by
            obtain ⟨f0, f1, f2, f3, f4, f5, f6, f7, f8⟩ := HCF.out _ (HK3.out.transX hz)
            rw [hkd] at f0
            have hb := hz.blockP HMC3.out
            exact ⟨f0, f1, f2, f3, f4, f5, f6, f7, f8, blk_cell hb 0, blk_cell hb 1, blk_cell hb 2, blk_cell hb 3⟩
          have HKY : Hid (∀ Z : World, Calls Tryz.prog 34 #[.string x.m.cd] Z fun e w' => e = .returned (.string (kConn x.m.cd)) ∧ Z = w') := Lib.hid fun Z => cnkey_any _ Z (by have := HSZ.out x.m.cd (by simp [MsgV.texts]); omega)
          have HBY : Hid (∀ Z : World, Calls Tryz.prog 35 #[.agg #[.int .u64 1, .string x.m.cc, .string x.m.cl, .string ⟨#[]⟩]] Z fun e w' => ∃ v', e = .returned v' ∧ Own w' Z.heap.size v' (cnB ⟨1, x.m.cc, x.m.cl, ⟨#[]⟩⟩) ∧ Below Z.heap.size Z w') := Lib.hid fun Z => cnbytes_any ⟨1, x.m.cc, x.m.cl, ⟨#[]⟩⟩ Z (by show 1 < _; decide) (by show ByteArray.size x.m.cc ≤ _; have := HSZ.out x.m.cc (by simp [MsgV.texts]); unfold maxLen; omega) (by show ByteArray.size x.m.cl ≤ _; have := HSZ.out x.m.cl (by simp [MsgV.texts]); unfold maxLen; omega) (by show 0 ≤ _; omega)
          have hbd : Below w3.heap.size w3 w3.drew := (Below.refl _ _).drew
          have hkD0 := Kept.of_belowX hbd
          have AD := AA.up hbd
          have hkwD := (HKS.out.transX HK3.out).transX hkD0
          have HVE : Hid (∀ (Z : World) (hz : Below w3.drew.heap.size w3.drew Z) (v : Value) (B : Nat) (ho : Own Z B v (cnB ⟨1, x.m.cc, x.m.cl, ⟨#[]⟩⟩)), Calls Tryz.prog 15 #[.pointer (some ⟨b, 0, none⟩), .string x.m.cl, .int .u64 (x.m.ht : Int), .string (kConn x.m.cd), v, .agg #[.int .i64 x.m.pf.n, .slice Ap x.m.pf.ls.length cp], .int .u64 (x.now : Int)] Z fun e w' => e = .returned (.int .i64 0) ∧ Below Z.heap.size Z w') :=
            Lib.hid fun Z hz v B ho => by
              have := clverify_any (AD.up hz) x.m.cl x.m.ht x.now (by have := HSZ.out x.m.cl (by simp [MsgV.texts]); omega) (HM.out _ (Kept.refl _)).lt_ht HFQ.out.now (kConn x.m.cd) v (cnB ⟨1, x.m.cc, x.m.cl, ⟨#[]⟩⟩) x.m.pf.n Ap x.m.pf.ls.length cp x.m.pf (fun Y hy => ⟨_, rfl, by rw [← HPV.out]; exact (HM.out _ ((hkwD.transX (Kept.of_belowX hz)).transX (Kept.of_belowX hy))).r_pf, (HM.out _ (Kept.refl _)).in_pf⟩) ho.rd fr (HTR.out _ (hkwD.transX (Kept.of_belowX hz))).2
              rw [hv0] at this
              exact this
          have hkD : Below w3.drew.heap.size w3.drew w3.drew := Below.refl _ _
          obtain ⟨f0, f1, f2, f3, f4, f5, f6, f7, f8, c0, c1, c2, c3⟩ := HCO.out _ (Kept.refl _)
          have HBD := Lib.hid hbd
          clear hv0 s6 s7 s8 AA AD hkwD hbd hkd
          go_wp2_with fail
          clear f0 f1 f2 f3 f4 f5 f6 f7 f8 c0 c1 c2 c3
          go_region_held_law (fun Z => Z.cell? ⟨g12, 0, none⟩ = some (.int .i64 6) ∧ Z.cell? ⟨g12, 7, none⟩ = some (.string x.m.cl) ∧ Z.cell? ⟨g12, 8, none⟩ = some (.string x.m.cc) ∧ Z.cell? ⟨g12, 9, none⟩ = some (.string x.m.cn) ∧ Z.cell? ⟨g12, 10, none⟩ = some (.string x.m.cd) ∧ Z.cell? ⟨g12, 34, none⟩ = some (.int .u64 (x.m.ht : Int)) ∧ Z.cell? ⟨g12, 45, none⟩ = some (.int .i64 x.m.pf.n) ∧ Z.cell? ⟨g12, 46, none⟩ = some (.slice Ap x.m.pf.ls.length cp) ∧ Z.cell? ⟨g10, 2, none⟩ = some (.int .u64 (x.now : Int)) ∧ Z.cell? ⟨gC, 0, none⟩ = some (.int .u64 (vst : Int)) ∧ Z.cell? ⟨gC, 1, none⟩ = some (.string vcl) ∧ Z.cell? ⟨gC, 2, none⟩ = some (.string vcc) ∧ Z.cell? ⟨gC, 3, none⟩ = some (.string vct))
            (with_reducible first | exact HCO.out _ (hkD0.transX (Kept.of_belowX hk2)) | exact HCO.out _ (hkD0.transX (Kept.of_belowX hk1)) | exact HCO.out _ hkD0)
            ((first
              | (go_at_call 34; refine (HKY.out _).mono ?_; rintro e w9 ⟨rfl, rfl⟩)
              | (go_at_call 35; refine (HBY.out _).mono ?_; rintro e w4 ⟨v4, rfl, ho4, hb4⟩; have hk1 := below_chain hkD hkD.size hb4)
              | (go_at_call 15; refine (HVE.out _ hk1 _ _ ho4).mono ?_; rintro e w5 ⟨rfl, hb5⟩; have hk2 := below_chain hk1 hk1.size hb5)))
          all_goals
            have hq5 := HBD.out.trans (hk2.mono HBD.out.size)
            have hk35 := Kept.of_belowX hq5
            have HWR := Lib.hid ((HZ3.out.up hq5).write (by have := HJ.out.1; unfold maxLen; omega))
            clear hk1 hk2 hb4 hb5 ho4 hkD hkD0 HCO HKY HBY HVE HBD hq5
            go_wp2_with fail
            refine HWR.out.mono ?_
            rintro e w6 ⟨rfl, hs6, hk6⟩
            have hfin : LSP w b1 m1 b2 m2 g7 (2000000 + 3 * (j + 1)) (fun _ => True) w6 := HRE.out _ (fun _ _ => trivial) _ _ _ trivial (by
              have h := hs6
              exact h.more (by omega)) ((HKS.out.transX HK3.out).transX (hk35.transX hk6))
            clear hs6 hk6 HWR HRE HPR HM HFQ HTR HJ HSL HKS HSZ HOK HPV HCF HSH HU HZ3 HK3 HMC3
            go_wp2_with fail
            exact ⟨⟨j + 1, by omega, by simp, hfin⟩, by simp [intOf]; omega⟩
        by_cases hk7 : x.m.kd = 7
        · have hv0 := s7 hk7
          have hkd : x.m.kd = 7 := hk7
          obtain ⟨WA, nA, fA, AA⟩ := HZ3.out.at
          have HCO : Hid (∀ Z, Kept w3 Z → Z.cell? ⟨g12, 0, none⟩ = some (.int .i64 7) ∧ Z.cell? ⟨g12, 7, none⟩ = some (.string x.m.cl) ∧ Z.cell? ⟨g12, 8, none⟩ = some (.string x.m.cc) ∧ Z.cell? ⟨g12, 9, none⟩ = some (.string x.m.cn) ∧ Z.cell? ⟨g12, 10, none⟩ = some (.string x.m.cd) ∧ Z.cell? ⟨g12, 34, none⟩ = some (.int .u64 (x.m.ht : Int)) ∧ Z.cell? ⟨g12, 45, none⟩ = some (.int .i64 x.m.pf.n) ∧ Z.cell? ⟨g12, 46, none⟩ = some (.slice Ap x.m.pf.ls.length cp) ∧ Z.cell? ⟨g10, 2, none⟩ = some (.int .u64 (x.now : Int)) ∧ Z.cell? ⟨gC, 0, none⟩ = some (.int .u64 (vst : Int)) ∧ Z.cell? ⟨gC, 1, none⟩ = some (.string vcl) ∧ Z.cell? ⟨gC, 2, none⟩ = some (.string vcc) ∧ Z.cell? ⟨gC, 3, none⟩ = some (.string vct)) := Lib.hid fun Z hz => by
            obtain ⟨f0, f1, f2, f3, f4, f5, f6, f7, f8⟩ := HCF.out _ (HK3.out.transX hz)
            rw [hkd] at f0
            have hb := hz.blockP HMC3.out
            exact ⟨f0, f1, f2, f3, f4, f5, f6, f7, f8, blk_cell hb 0, blk_cell hb 1, blk_cell hb 2, blk_cell hb 3⟩
          have HKY : Hid (∀ Z : World, Calls Tryz.prog 34 #[.string x.m.cd] Z fun e w' => e = .returned (.string (kConn x.m.cd)) ∧ Z = w') := Lib.hid fun Z => cnkey_any _ Z (by have := HSZ.out x.m.cd (by simp [MsgV.texts]); omega)
          have HBY : Hid (∀ Z : World, Calls Tryz.prog 35 #[.agg #[.int .u64 2, .string vcc, .string vcl, .string x.m.cn]] Z fun e w' => ∃ v', e = .returned v' ∧ Own w' Z.heap.size v' (cnB ⟨2, vcc, vcl, x.m.cn⟩) ∧ Below Z.heap.size Z w') := Lib.hid fun Z => cnbytes_any ⟨2, vcc, vcl, x.m.cn⟩ Z (by show 2 < _; decide) (by show ByteArray.size vcc ≤ _; have := HOK.out; unfold maxLen; omega) (by show ByteArray.size vcl ≤ _; have := HOK.out; unfold maxLen; omega) (by show ByteArray.size x.m.cn ≤ _; have := HSZ.out x.m.cn (by simp [MsgV.texts]); unfold maxLen; omega)
          have hbd : Below w3.heap.size w3 w3.drew := (Below.refl _ _).drew
          have hkD0 := Kept.of_belowX hbd
          have AD := AA.up hbd
          have hkwD := (HKS.out.transX HK3.out).transX hkD0
          have HVE : Hid (∀ (Z : World) (hz : Below w3.drew.heap.size w3.drew Z) (v : Value) (B : Nat) (ho : Own Z B v (cnB ⟨2, vcc, vcl, x.m.cn⟩)), Calls Tryz.prog 15 #[.pointer (some ⟨b, 0, none⟩), .string vcl, .int .u64 (x.m.ht : Int), .string (kConn x.m.cd), v, .agg #[.int .i64 x.m.pf.n, .slice Ap x.m.pf.ls.length cp], .int .u64 (x.now : Int)] Z fun e w' => e = .returned (.int .i64 0) ∧ Below Z.heap.size Z w') :=
            Lib.hid fun Z hz v B ho => by
              have := clverify_any (AD.up hz) vcl x.m.ht x.now (by have := HOK.out.1; omega) (HM.out _ (Kept.refl _)).lt_ht HFQ.out.now (kConn x.m.cd) v (cnB ⟨2, vcc, vcl, x.m.cn⟩) x.m.pf.n Ap x.m.pf.ls.length cp x.m.pf (fun Y hy => ⟨_, rfl, by rw [← HPV.out]; exact (HM.out _ ((hkwD.transX (Kept.of_belowX hz)).transX (Kept.of_belowX hy))).r_pf, (HM.out _ (Kept.refl _)).in_pf⟩) ho.rd fr (HTR.out _ (hkwD.transX (Kept.of_belowX hz))).2
              rw [hv0] at this
              exact this
          have hkD : Below w3.drew.heap.size w3.drew w3.drew := Below.refl _ _
          obtain ⟨f0, f1, f2, f3, f4, f5, f6, f7, f8, c0, c1, c2, c3⟩ := HCO.out _ (Kept.refl _)
          have HBD := Lib.hid hbd
          clear hv0 s6 s7 s8 AA AD hkwD hbd hkd
          go_wp2_with fail
          clear f0 f1 f2 f3 f4 f5 f6 f7 f8 c0 c1 c2 c3
          go_region_held_law (fun Z => Z.cell? ⟨g12, 0, none⟩ = some (.int .i64 7) ∧ Z.cell? ⟨g12, 7, none⟩ = some (.string x.m.cl) ∧ Z.cell? ⟨g12, 8, none⟩ = some (.string x.m.cc) ∧ Z.cell? ⟨g12, 9, none⟩ = some (.string x.m.cn) ∧ Z.cell? ⟨g12, 10, none⟩ = some (.string x.m.cd) ∧ Z.cell? ⟨g12, 34, none⟩ = some (.int .u64 (x.m.ht : Int)) ∧ Z.cell? ⟨g12, 45, none⟩ = some (.int .i64 x.m.pf.n) ∧ Z.cell? ⟨g12, 46, none⟩ = some (.slice Ap x.m.pf.ls.length cp) ∧ Z.cell? ⟨g10, 2, none⟩ = some (.int .u64 (x.now : Int)) ∧ Z.cell? ⟨gC, 0, none⟩ = some (.int .u64 (vst : Int)) ∧ Z.cell? ⟨gC, 1, none⟩ = some (.string vcl) ∧ Z.cell? ⟨gC, 2, none⟩ = some (.string vcc) ∧ Z.cell? ⟨gC, 3, none⟩ = some (.string vct))
            (with_reducible first | exact HCO.out _ (hkD0.transX (Kept.of_belowX hk2)) | exact HCO.out _ (hkD0.transX (Kept.of_belowX hk1)) | exact HCO.out _ hkD0)
            ((first
              | (go_at_call 34; refine (HKY.out _).mono ?_; rintro e w9 ⟨rfl, rfl⟩)
              | (go_at_call 35; refine (HBY.out _).mono ?_; rintro e w4 ⟨v4, rfl, ho4, hb4⟩; have hk1 := below_chain hkD hkD.size hb4)
              | (go_at_call 15; refine (HVE.out _ hk1 _ _ ho4).mono ?_; rintro e w5 ⟨rfl, hb5⟩; have hk2 := below_chain hk1 hk1.size hb5)))
          all_goals
            have hq5 := HBD.out.trans (hk2.mono HBD.out.size)
            have hk35 := Kept.of_belowX hq5
            have HWR := Lib.hid ((HZ3.out.up hq5).write (by have := HJ.out.1; unfold maxLen; omega))
            clear hk1 hk2 hb4 hb5 ho4 hkD hkD0 HCO HKY HBY HVE HBD hq5
            go_wp2_with fail
            refine HWR.out.mono ?_
            rintro e w6 ⟨rfl, hs6, hk6⟩
            have hfin : LSP w b1 m1 b2 m2 g7 (2000000 + 3 * (j + 1)) (fun _ => True) w6 := HRE.out _ (fun _ _ => trivial) _ _ _ trivial (by
              have h := hs6
              exact h.more (by omega)) ((HKS.out.transX HK3.out).transX (hk35.transX hk6))
            clear hs6 hk6 HWR HRE HPR HM HFQ HTR HJ HSL HKS HSZ HOK HPV HCF HSH HU HZ3 HK3 HMC3
            go_wp2_with fail
            exact ⟨⟨j + 1, by omega, by simp, hfin⟩, by simp [intOf]; omega⟩
        by_cases hk8 : x.m.kd = 8
        · have hv0 := s8 hk8
          have hkd : x.m.kd = 8 := hk8
          obtain ⟨WA, nA, fA, AA⟩ := HZ3.out.at
          have HCO : Hid (∀ Z, Kept w3 Z → Z.cell? ⟨g12, 0, none⟩ = some (.int .i64 8) ∧ Z.cell? ⟨g12, 7, none⟩ = some (.string x.m.cl) ∧ Z.cell? ⟨g12, 8, none⟩ = some (.string x.m.cc) ∧ Z.cell? ⟨g12, 9, none⟩ = some (.string x.m.cn) ∧ Z.cell? ⟨g12, 10, none⟩ = some (.string x.m.cd) ∧ Z.cell? ⟨g12, 34, none⟩ = some (.int .u64 (x.m.ht : Int)) ∧ Z.cell? ⟨g12, 45, none⟩ = some (.int .i64 x.m.pf.n) ∧ Z.cell? ⟨g12, 46, none⟩ = some (.slice Ap x.m.pf.ls.length cp) ∧ Z.cell? ⟨g10, 2, none⟩ = some (.int .u64 (x.now : Int)) ∧ Z.cell? ⟨gC, 0, none⟩ = some (.int .u64 (vst : Int)) ∧ Z.cell? ⟨gC, 1, none⟩ = some (.string vcl) ∧ Z.cell? ⟨gC, 2, none⟩ = some (.string vcc) ∧ Z.cell? ⟨gC, 3, none⟩ = some (.string vct)) := Lib.hid fun Z hz => by
            obtain ⟨f0, f1, f2, f3, f4, f5, f6, f7, f8⟩ := HCF.out _ (HK3.out.transX hz)
            rw [hkd] at f0
            have hb := hz.blockP HMC3.out
            exact ⟨f0, f1, f2, f3, f4, f5, f6, f7, f8, blk_cell hb 0, blk_cell hb 1, blk_cell hb 2, blk_cell hb 3⟩
          have HKY : Hid (∀ Z : World, Calls Tryz.prog 34 #[.string vct] Z fun e w' => e = .returned (.string (kConn vct)) ∧ Z = w') := Lib.hid fun Z => cnkey_any _ Z (by have := HOK.out.2.2; omega)
          have HBY : Hid (∀ Z : World, Calls Tryz.prog 35 #[.agg #[.int .u64 3, .string vcc, .string vcl, .string x.m.cn]] Z fun e w' => ∃ v', e = .returned v' ∧ Own w' Z.heap.size v' (cnB ⟨3, vcc, vcl, x.m.cn⟩) ∧ Below Z.heap.size Z w') := Lib.hid fun Z => cnbytes_any ⟨3, vcc, vcl, x.m.cn⟩ Z (by show 3 < _; decide) (by show ByteArray.size vcc ≤ _; have := HOK.out; unfold maxLen; omega) (by show ByteArray.size vcl ≤ _; have := HOK.out; unfold maxLen; omega) (by show ByteArray.size x.m.cn ≤ _; have := HSZ.out x.m.cn (by simp [MsgV.texts]); unfold maxLen; omega)
          have hbd : Below w3.heap.size w3 w3.drew := (Below.refl _ _).drew
          have hkD0 := Kept.of_belowX hbd
          have AD := AA.up hbd
          have hkwD := (HKS.out.transX HK3.out).transX hkD0
          have HVE : Hid (∀ (Z : World) (hz : Below w3.drew.heap.size w3.drew Z) (v : Value) (B : Nat) (ho : Own Z B v (cnB ⟨3, vcc, vcl, x.m.cn⟩)), Calls Tryz.prog 15 #[.pointer (some ⟨b, 0, none⟩), .string vcl, .int .u64 (x.m.ht : Int), .string (kConn vct), v, .agg #[.int .i64 x.m.pf.n, .slice Ap x.m.pf.ls.length cp], .int .u64 (x.now : Int)] Z fun e w' => e = .returned (.int .i64 0) ∧ Below Z.heap.size Z w') :=
            Lib.hid fun Z hz v B ho => by
              have := clverify_any (AD.up hz) vcl x.m.ht x.now (by have := HOK.out.1; omega) (HM.out _ (Kept.refl _)).lt_ht HFQ.out.now (kConn vct) v (cnB ⟨3, vcc, vcl, x.m.cn⟩) x.m.pf.n Ap x.m.pf.ls.length cp x.m.pf (fun Y hy => ⟨_, rfl, by rw [← HPV.out]; exact (HM.out _ ((hkwD.transX (Kept.of_belowX hz)).transX (Kept.of_belowX hy))).r_pf, (HM.out _ (Kept.refl _)).in_pf⟩) ho.rd fr (HTR.out _ (hkwD.transX (Kept.of_belowX hz))).2
              rw [hv0] at this
              exact this
          have hkD : Below w3.drew.heap.size w3.drew w3.drew := Below.refl _ _
          obtain ⟨f0, f1, f2, f3, f4, f5, f6, f7, f8, c0, c1, c2, c3⟩ := HCO.out _ (Kept.refl _)
          have HBD := Lib.hid hbd
          clear hv0 s6 s7 s8 AA AD hkwD hbd hkd
          go_wp2_with fail
          clear f0 f1 f2 f3 f4 f5 f6 f7 f8 c0 c1 c2 c3
          go_region_held_law (fun Z => Z.cell? ⟨g12, 0, none⟩ = some (.int .i64 8) ∧ Z.cell? ⟨g12, 7, none⟩ = some (.string x.m.cl) ∧ Z.cell? ⟨g12, 8, none⟩ = some (.string x.m.cc) ∧ Z.cell? ⟨g12, 9, none⟩ = some (.string x.m.cn) ∧ Z.cell? ⟨g12, 10, none⟩ = some (.string x.m.cd) ∧ Z.cell? ⟨g12, 34, none⟩ = some (.int .u64 (x.m.ht : Int)) ∧ Z.cell? ⟨g12, 45, none⟩ = some (.int .i64 x.m.pf.n) ∧ Z.cell? ⟨g12, 46, none⟩ = some (.slice Ap x.m.pf.ls.length cp) ∧ Z.cell? ⟨g10, 2, none⟩ = some (.int .u64 (x.now : Int)) ∧ Z.cell? ⟨gC, 0, none⟩ = some (.int .u64 (vst : Int)) ∧ Z.cell? ⟨gC, 1, none⟩ = some (.string vcl) ∧ Z.cell? ⟨gC, 2, none⟩ = some (.string vcc) ∧ Z.cell? ⟨gC, 3, none⟩ = some (.string vct))
            (with_reducible first | exact HCO.out _ (hkD0.transX (Kept.of_belowX hk2)) | exact HCO.out _ (hkD0.transX (Kept.of_belowX hk1)) | exact HCO.out _ hkD0)
            ((first
              | (go_at_call 34; refine (HKY.out _).mono ?_; rintro e w9 ⟨rfl, rfl⟩)
              | (go_at_call 35; refine (HBY.out _).mono ?_; rintro e w4 ⟨v4, rfl, ho4, hb4⟩; have hk1 := below_chain hkD hkD.size hb4)
              | (go_at_call 15; refine (HVE.out _ hk1 _ _ ho4).mono ?_; rintro e w5 ⟨rfl, hb5⟩; have hk2 := below_chain hk1 hk1.size hb5)))
          all_goals
            have hq5 := HBD.out.trans (hk2.mono HBD.out.size)
            have hk35 := Kept.of_belowX hq5
            have HWR := Lib.hid ((HZ3.out.up hq5).write (by have := HJ.out.1; unfold maxLen; omega))
            clear hk1 hk2 hb4 hb5 ho4 hkD hkD0 HCO HKY HBY HVE HBD hq5
            go_wp2_with fail
            refine HWR.out.mono ?_
            rintro e w6 ⟨rfl, hs6, hk6⟩
            have hfin : LSP w b1 m1 b2 m2 g7 (2000000 + 3 * (j + 1)) (fun _ => True) w6 := HRE.out _ (fun _ _ => trivial) _ _ _ trivial (by
              have h := hs6
              exact h.more (by omega)) ((HKS.out.transX HK3.out).transX (hk35.transX hk6))
            clear hs6 hk6 HWR HRE HPR HM HFQ HTR HJ HSL HKS HSZ HOK HPV HCF HSH HU HZ3 HK3 HMC3
            go_wp2_with fail
            exact ⟨⟨j + 1, by omega, by simp, hfin⟩, by simp [intOf]; omega⟩
        have n6 : (x.m.kd == 6) = false := by simpa using hk6
        have n7 : (x.m.kd == 7) = false := by simpa using hk7
        have n8 : (x.m.kd == 8) = false := by simpa using hk8
        obtain ⟨f0, f1, f2, f3, f4, f5, f6, f7, f8⟩ := HCF.out _ HK3.out
        clear hk6 hk7 hk8 s6 s7 s8
        have HWR := Lib.hid ((HZ3.out).write (by have := HJ.out.1; unfold maxLen; omega))
        go_wp2_with fail
        clear n6 n7 n8 f0 f1 f2 f3 f4 f5 f6 f7 f8
        refine HWR.out.mono ?_
        rintro e w6 ⟨rfl, hs6, hk6⟩
        have hfin : LSP w b1 m1 b2 m2 g7 (2000000 + 3 * (j + 1)) (fun _ => True) w6 := HRE.out _ (fun _ _ => trivial) _ _ _ trivial (by
          have h := hs6
          exact h.more (by omega)) ((HKS.out.transX HK3.out).transX (hk6))
        clear hs6 hk6 HWR HRE HPR HM HFQ HTR HJ HSL HKS HSZ HOK HPV HCF HSH HU HZ3 HK3 HMC3
        go_wp2_with fail
        exact ⟨⟨j + 1, by omega, by simp, hfin⟩, by simp [intOf]; omega⟩
      · have hjn : j = n := by omega
        have i2 : ¬ (j : Int) < (n : Int) := by omega
        subst hjn
        have hqf := HX0.bel
        clear HX0
        go_wp2_with fail
        go_ret
        exact ⟨rfl, hqf⟩
end Go.Proofs.YtmphegeiclgjbaaGreatDoor
