
/- The law: what a client shows was taken for the root that it trusts of that height. -/
import Derived.Test.YtmphegeiclgjbaaGreatDoorClnG1
import Derived.Test.YtmphegeiclgjbaaGreatDoorMsgV
namespace Go.Proofs.YtmphegeiclgjbaaGreatDoor
set_option maxRecDepth 100000
open Go Go.RowKit
set_option linter.unusedVariables false
theorem show_zero {R : List Pr} {id : ByteArray} {ht now : Nat} (h : (showM R id ht now).2 = 0) : ∃ u, getCs R id ht = some u ∧ (showM R id ht now).1 = u.rt := by
  unfold showM at h ⊢
  split at h
  · cases h
  · next c hc =>
    split at h
    · cases h
    · next hf =>
      split at h
      · cases h
      · next t ht =>
        split at h
        · cases h
        · next ho =>
          split at h
          · cases h
          · next u hu => exact ⟨u, hu, by rw [if_neg hf, if_neg ho]⟩
theorem shown_ve {R : List Pr} {id : ByteArray} {ht now : Nat} {key : ByteArray} {val : List UInt8} {p : Pf} (h : verifyE R id ht now key val p = 0) : ∃ u, getCs R id ht = some u ∧ verifyB u.rt key val p = true := by
  unfold verifyE at h
  split at h
  · next hs =>
    obtain ⟨u, h1, h2⟩ := show_zero hs
    rw [h2] at h
    split at h
    · next hv => exact ⟨u, h1, hv⟩
    · cases h
  · next hs => exact absurd h hs
theorem shown_ab {R : List Pr} {id : ByteArray} {ht now : Nat} {key : ByteArray} {p : Pf} (h : absentE R id ht now key p = 0) : ∃ u, getCs R id ht = some u ∧ absentB u.rt key p = true := by
  unfold absentE at h
  split at h
  · next hs =>
    obtain ⟨u, h1, h2⟩ := show_zero hs
    rw [h2] at h
    split at h
    · next hv => exact ⟨u, h1, hv⟩
    · cases h
  · next hs => exact absurd h hs
set_option maxHeartbeats 64000000 in
theorem clshows_law (w : World) (v1 v2 v3 : Value) (ps1 ps2 : List Pr) (xs : List StepV) (h1 : RdP w w.heap.size v1 ps1) (h2 : RdP w w.heap.size v2 ps2) (n1 : ∀ p ∈ ps1, p.1.size ≤ maxLen) (n2 : ∀ p ∈ ps2, p.1.size ≤ maxLen) (l1 : ps1.length ≤ 2000000) (l2 : ps2.length ≤ 2000000)
    (hx : RdSt w v3 xs) (hf : ∀ x ∈ xs, x.fine) (lx : xs.length ≤ 2000000) (hT : Pows w) (fr : TypeId × Nat × Nat) (hk : w.heap[0]? = some (.cells kVals fr.1 fr.2)) :
    Calls Tryz.prog 5 #[v1, v2, v3] w fun e w' => e = .returned (.bool true) ∧ Below w.heap.size w w' := by
  have HS := Lib.hid (clstores_any w v1 v2 ps1 ps2 h1 h2 n1 n2 l1 l2)
  have HFX : Hid (∀ Z, Below w.heap.size w Z → Calls Tryz.prog 12 #[] Z fun e w' => e = .returned (.bool true) ∧ Below Z.heap.size Z w') := Lib.hid fun Z hz => clfixed_any Z fr ((hz.block _ (blk_lt hk)).trans hk)
  have HX := Lib.hid (fun (Z : World) (hz : Kept w Z) => hx.keptM hz)
  have HFI := Lib.hid hf
  have HTB : Hid (∀ Z, Kept w Z → Pows Z ∧ Z.heap[0]? = some (.cells kVals fr.1 fr.2)) := Lib.hid fun Z hz => ⟨hT.kept hz, hz.blockP hk⟩
  obtain ⟨A1, c1, rfl⟩ : ∃ A c, v1 = .slice A ps1.length c := by obtain ⟨A, c, h, _⟩ := h1; exact ⟨A, c, h⟩
  obtain ⟨A2, c2, rfl⟩ : ∃ A c, v2 = .slice A ps2.length c := by obtain ⟨A, c, h, _⟩ := h2; exact ⟨A, c, h⟩
  obtain ⟨A3, c3, rfl⟩ : ∃ A c, v3 = .slice A xs.length c := by obtain ⟨A, c, h, _⟩ := hx; exact ⟨A, c, h⟩
  obtain ⟨n, hn⟩ : ∃ n, n = xs.length := ⟨_, rfl⟩
  rw [← hn] at HX ⊢
  have HN : Hid (n = xs.length ∧ n ≤ 2000000) := Lib.hid ⟨hn, by rw [hn]; exact lx⟩
  clear h1 h2 n1 n2 l1 l2 hx hf lx hT hk hn
  go_enter Tryz.func5, Tryz.ntmps5
  go_wp2_with fail
  refine HS.out.mono ?_
  rintro e w1 ⟨p1, p2, ok, rfl, hb1, hok⟩
  have HBL : Hid (∀ Z, Z = w1.alloc (.cells #[.pointer p1, .pointer p2] 25) → Below w.heap.size w Z) := Lib.hid fun Z e => by rw [e]; exact hb1.trans (((Below.refl _ _).alloc (Nat.le_refl _) _).mono hb1.size)
  have HUP : Hid (∀ (Z : World) (b m b' m' : Nat) (R R' : List Pr) (N : Nat), Z = w1.alloc (.cells #[.pointer p1, .pointer p2] 25) → Sts w b m b' m' R R' N w1 → Sts w b m b' m' R R' N Z) := Lib.hid fun Z b m b' m' R R' N e h => by rw [e]; exact h.up ((Below.refl _ _).alloc (Nat.le_refl _) _)
  have HRG := Lib.hid (heap_alloc_new w1 (.cells #[.pointer p1, .pointer p2] 25))
  have HOK := Lib.hid hok
  clear HS hb1 hok
  go_wp2_with fail
  generalize w1.alloc (.cells #[.pointer p1, .pointer p2] 25) = wB at *
  generalize w1.heap.size = g7 at *
  have hqB := HBL.out _ rfl
  refine (HFX.out _ hqB).mono ?_
  rintro e w4 ⟨rfl, hb4⟩
  have hq4 : Below w.heap.size w w4 := hqB.trans (hb4.mono hqB.size)
  cases ok with
  | false =>
    clear HBL HUP HRG HOK hqB hb4
    go_wp2_with fail
    refine (HFX.out _ hq4).mono ?_
    rintro e w5 ⟨rfl, hb5⟩
    have hq5 : Below w.heap.size w w5 := hq4.trans (hb5.mono hq4.size)
    clear hq4 hb5
    go_wp2_with fail
    go_ret
    exact ⟨rfl, hq5⟩
  | true =>
    obtain ⟨b1, m1, b2, m2, rfl, rfl, hst, hn1, hn2⟩ := HOK.out rfl
    have HL : Hid (LS w b1 m1 b2 m2 g7 2000000 w4) := Lib.hid (by
      have hs := (HUP.out _ _ _ _ _ _ _ _ rfl hst).up hb4
      have hk4 := Kept.of_belowX hb4
      exact ⟨⟨_, _, hs⟩, hk4.cell (blk_cell HRG.out 0), hk4.cell (blk_cell HRG.out 1)⟩)
    clear HBL HUP HRG HOK hqB hb4 hst hn1 hn2 hq4 HFX
    go_wp2_with fail
    go_loopw [33] (fun i Z => ∃ j : Nat, j ≤ n ∧ i = .int .i64 (j : Int) ∧ LS w b1 m1 b2 m2 g7 (2000000 + 3 * j) Z)
      (fun i _ => n - (intOf i).toNat)
    case atStart => exact ⟨0, by omega, rfl, HL.out⟩
    case round => as_aux_lemma =>
      clear HL
      obtain ⟨j, hj, rfl, HX0⟩ := hrel
      by_cases hlt : j < n
      · have hkr := Kept.of_belowX HX0.bel
        have HTR := Lib.hid (fun (Z : World) (hz : Kept wr Z) => HTB.out _ (hkr.transX hz))
        obtain ⟨A', c', e', hrd, hcell⟩ := HX.out _ hkr
        have hjl : j < xs.length := by have := HN.out.1; omega
        obtain ⟨g, o, hA', -, hcl⟩ := hcell (by omega)
        injection e' with e1 e2 e3
        subst e1 e3
        subst hA'
        have hck := hcl j hjl
        have hmem : xs[j] ∈ xs := List.getElem_mem hjl
        have hm0 := hrd _ hmem
        have hfn := HFI.out _ hmem
        generalize xs[j] = x at *
        have HM := Lib.hid (fun (Z : World) (hz : Kept wr Z) => hm0.keptM hz)
        have HFQ := Lib.hid hfn
        have HJ : Hid (2000000 + 3 * j + 3 ≤ 100000000 ∧ 2000000 + 3 * j + 3 = 2000000 + 3 * (j + 1)) := Lib.hid (by have := HN.out.2; omega)
        obtain ⟨SL, hSL⟩ : ∃ L : List Value, L = x.cells := ⟨_, rfl⟩
        rw [← hSL] at hck
        have hl66 : SL.length = 66 := by rw [hSL]; rfl
        have hrng : wr.rangeAt g (o + j * 66) SL := fun i u hu => hck i u (by have := (List.getElem?_eq_some_iff.1 hu).1; omega) hu
        have HRNG := Lib.hid hrng
        have HINF : Hid ((Tryz.prog.info? 48).map (·.size) = some SL.length) := Lib.hid (by rw [hl66]; kernel_rfl)
        have HONE : Hid (SL.toArray.all (·.oneCell') = true) := Lib.hid (by rw [hSL]; exact x.one hm0)
        have HSL := Lib.hid hSL
        have hz66 : Array.size Tryz.zeroCells48 = 66 := by kernel_rfl
        have HTH : Hid ((wr.alloc (.cells Tryz.zeroCells48 48)).there wr.heap.size 0 SL.toArray.size) := Lib.hid (there_new _ _ _ _ (by rw [hz66]; simp [hl66]))
        have hrg0 := range_new wr (Tryz.zeroCells48) 48 SL (by rw [hz66, hl66]; exact Nat.le_refl _)
        have hb0 := below_new wr (Tryz.zeroCells48) 48 SL
        obtain ⟨i, b, m, b', m', R, R', hi, hi2, hs, hcb, hre⟩ := HX0.pick _ (and1i x.on)
        have hs0 := hs.up hb0
        have hk0 := Kept.of_belowX hb0
        have k0 := range_cellT hrg0 0 (.int .i64 x.on) (by rw [hSL]; rfl)
        have k11 := range_cellT hrg0 11 (.string x.m.cl) (by rw [hSL]; rfl)
        have kb := hk0.cell hcb
        have hj9 : n ≤ 2000000 := HN.out.2
        have j1 : (0 : Int) ≤ (j : Int) := by omega
        have j2 : (j : Int) < (n : Int) := by omega
        have i1 : (0 : Int) ≤ (i : Int) := by omega
        have i2 : (i : Int) < 2 := by omega
        have HR0 := Lib.hid (And.intro hs0 (And.intro hk0 (And.intro hrg0 hb0)))
        have HRE := Lib.hid hre
        have HKB := Lib.hid (fun (Z : World) (hz : Kept wr Z) => hz.cell hcb)
        clear hz66 hck hcl hcell hrd hmem hm0 hfn hl66 hrng hSL hrg0 hb0 hs0 hk0 hs hcb hre HX0 hkr e2
        go_wp2_with (first
          | (with_reducible refine at_load 48 ?_; refine wpList_load_mid rfl 48 (.tmp 35) rfl g (o + j * 66) rfl SL _ HRNG.out Tryz.underlying48 rfl HINF.out ?_)
          | (with_reducible refine at_store 48 ?_; refine wpList_store_mid rfl 48 (.tmp 10) (.tmp 36) rfl wr.heap.size 0 SL.toArray rfl rfl HTH.out (by have := HINF.out; simpa using this) HONE.out ?_))
        try simp only [List.toList_toArray]
        clear k0 k11 kb
        obtain ⟨hs0, hk0, hrg0, hb0⟩ := HR0.out
        generalize (wr.alloc (.cells Tryz.zeroCells48 48)).setCells wr.heap.size 0 SL = w0 at *
        obtain ⟨ML, hML⟩ : ∃ L : List Value, L = x.m.cells := ⟨_, rfl⟩
        have HML := Lib.hid hML
        have hSM : SL = .int .i64 x.on :: .int .u64 (x.self : Int) :: .int .u64 (x.now : Int) :: .string x.sg :: ML := by rw [HSL.out, hML]; rfl
        have hone2 := HONE.out
        rw [hSM] at hone2
        have HON2 : Hid (ML.toArray.all (·.oneCell') = true) := Lib.hid (by simpa [Value.oneCell'] using hone2)
        have HINM : Hid ((Tryz.prog.info? 46).map (·.size) = some ML.length) := Lib.hid (by rw [hML]; kernel_rfl)
        have hl62 : ML.length = 62 := by rw [hML]; rfl
        have hrM : w0.rangeAt wr.heap.size 4 ML := fun q v hv => by
          have h := hrg0 (q + 4) v (by rw [hSM]; exact hv)
          rwa [Nat.zero_add, Nat.add_comm] at h
        have HRM := Lib.hid (fun (Z : World) (hz : Kept w0 Z) => (show Z.rangeAt wr.heap.size 4 ML from fun q v hv => hz.cell (hrM q v hv)))
        have HC7 := Lib.hid (fun (Z : World) (hz : Kept w0 Z) => And.intro (hz.cell (range_cellT hrg0 0 (.int .i64 x.on) (by rw [HSL.out]; rfl))) (hz.cell (HKB.out w0 hk0)))
        have HK0 := Lib.hid (And.intro hk0 hrg0)
        have HS0 := Lib.hid hs0
        have hbd : Below w0.heap.size w0 w0.drew := (Below.refl _ _).drew
        have hkd := Kept.of_belowX hbd
        have HTM : Hid ((w0.drew.alloc (.cells #[.int .i64 0, .string ⟨#[]⟩, .string ⟨#[]⟩, .int .u64 0, .int .u64 0, .int .u64 0, .int .u64 0, .string ⟨#[]⟩, .string ⟨#[]⟩, .string ⟨#[]⟩, .string ⟨#[]⟩, .string ⟨#[]⟩, .string ⟨#[]⟩, .string ⟨#[]⟩, .string ⟨#[]⟩, .string ⟨#[]⟩, .bool false, .string ⟨#[]⟩, .int .u64 0, .int .u64 0, .slice none 0 0, .slice none 0 0, .slice none 0 0, .string ⟨#[]⟩, .int .u64 0, .int .u64 0, .slice none 0 0, .slice none 0 0, .slice none 0 0, .slice none 0 0, .slice none 0 0, .slice none 0 0, .slice none 0 0, .slice none 0 0, .int .u64 0, .int .u64 0, .int .u64 0, .int .u64 0, .string ⟨#[]⟩, .string ⟨#[]⟩, .int .u64 0, .slice none 0 0, .int .u64 0, .int .u64 0, .slice none 0 0, .int .i64 0, .slice none 0 0, .int .u64 0, .string ⟨#[]⟩, .int .u64 0, .int .u64 0, .int .u64 0, .int .u64 0, .int .u64 0, .int .u64 0, .int .u64 0, .int .u64 0, .int .u64 0, .int .u64 0, .int .u64 0, .int .u64 0, .slice none 0 0] 46)).there w0.drew.heap.size 0 ML.toArray.size) := Lib.hid (there_new _ _ _ _ (by simp [hl62]))
        clear hML hSM hone2 hl62 hrM hk0 hrg0 hs0 hb0 HR0 HTH HRNG HONE
        generalize wr.heap.size = g10 at *
        refine wp_region_held_drew (S := KepS w0.drew) (by kernel_rfl) (KepS.refl _) (fun hS0 => ?_)
        generalize w0.drew = wd at *
        refine wpAnyH_take (i := 0) (oi := _) (v := ?_) rfl (by kernel_rfl) (by kernel_rfl) (by kernel_rfl) (fun _ _ _ h => h) (Or.inl ⟨by rfl, ?_⟩) hS0 ?_
        rotate_left
        · intro W hSW
          try go_simp
          all_goals with_reducible rfl
        simp only [Act.put, List.setIfInBounds_toArray, List.set_cons_zero, List.set_cons_succ, List.getElem_toArray, List.getElem_cons_zero, List.getElem_cons_succ]
        refine wpAnyH_take (i := 1) (oi := _) (v := ?_) rfl (by kernel_rfl) (by kernel_rfl) (by kernel_rfl) (fun _ _ _ h => h) (Or.inl ⟨by rfl, ?_⟩) hS0 ?_
        rotate_left
        · intro W hSW
          obtain ⟨k0, kb⟩ := HC7.out W (hkd.transX hSW)
          try go_simp
          all_goals with_reducible rfl
        simp only [Act.put, List.setIfInBounds_toArray, List.set_cons_zero, List.set_cons_succ, List.getElem_toArray, List.getElem_cons_zero, List.getElem_cons_succ]
        refine wpAnyH_take (i := 2) (oi := _) (v := ?_) rfl (by kernel_rfl) (by kernel_rfl) (by kernel_rfl) (fun _ _ _ h => h) (Or.inl ⟨by rfl, ?_⟩) hS0 ?_
        rotate_left
        · intro W hSW
          obtain ⟨k0, kb⟩ := HC7.out W (hkd.transX hSW)
          try go_simp
          all_goals with_reducible rfl
        simp only [Act.put, List.setIfInBounds_toArray, List.set_cons_zero, List.set_cons_succ, List.getElem_toArray, List.getElem_cons_zero, List.getElem_cons_succ]
        refine wpAnyH_take (i := 3) (oi := _) (v := ?_) rfl (by kernel_rfl) (by kernel_rfl) (by kernel_rfl) (fun _ _ _ h => h) (Or.inl ⟨by rfl, ?_⟩) hS0 ?_
        rotate_left
        · intro W hSW
          obtain ⟨k0, kb⟩ := HC7.out W (hkd.transX hSW)
          try go_simp
          all_goals with_reducible rfl
        simp only [Act.put, List.setIfInBounds_toArray, List.set_cons_zero, List.set_cons_succ, List.getElem_toArray, List.getElem_cons_zero, List.getElem_cons_succ]
        refine wpAnyH_take (i := 4) (oi := _) (v := ?_) rfl (by kernel_rfl) (by kernel_rfl) (by kernel_rfl) (fun _ _ _ h => h) (Or.inl ⟨by rfl, ?_⟩) hS0 ?_
        rotate_left
        · intro W hSW
          obtain ⟨k0, kb⟩ := HC7.out W (hkd.transX hSW)
          try go_simp
          all_goals with_reducible rfl
        simp only [Act.put, List.setIfInBounds_toArray, List.set_cons_zero, List.set_cons_succ, List.getElem_toArray, List.getElem_cons_zero, List.getElem_cons_succ]
        refine wpAnyH_take (i := 5) (oi := _) (v := ?_) rfl (by kernel_rfl) (by kernel_rfl) (by kernel_rfl) (fun _ _ _ h => h) (Or.inl ⟨by rfl, ?_⟩) hS0 ?_
        rotate_left
        · intro W hSW
          try go_simp
          all_goals with_reducible rfl
        simp only [Act.put, List.setIfInBounds_toArray, List.set_cons_zero, List.set_cons_succ, List.getElem_toArray, List.getElem_cons_zero, List.getElem_cons_succ]
        refine wpAnyH_take (i := 6) (oi := _) (v := .agg ML.toArray) rfl (by kernel_rfl) (by kernel_rfl) (by kernel_rfl) (fun _ _ _ h => h) (yieldsIf_load_mid (by rfl) 46 (.tmp 42) rfl g10 4 rfl ML _ (fun W h => HRM.out W (hkd.transX h)) Tryz.underlying46 rfl HINM.out) hS0 ?_
        simp only [Act.put, List.setIfInBounds_toArray, List.set_cons_zero, List.set_cons_succ, List.getElem_toArray, List.getElem_cons_zero, List.getElem_cons_succ]
        refine wpAnyH_ready (rs := [7]) (by kernel_rfl) (by simp) (AllReadyH.cons rfl (fun K hK => ?_) AllReadyH.nil)
        go_simp
        have hS1 : KepS wd (wd.alloc (.cells #[.int .i64 0, .string ⟨#[]⟩, .string ⟨#[]⟩, .int .u64 0, .int .u64 0, .int .u64 0, .int .u64 0, .string ⟨#[]⟩, .string ⟨#[]⟩, .string ⟨#[]⟩, .string ⟨#[]⟩, .string ⟨#[]⟩, .string ⟨#[]⟩, .string ⟨#[]⟩, .string ⟨#[]⟩, .string ⟨#[]⟩, .bool false, .string ⟨#[]⟩, .int .u64 0, .int .u64 0, .slice none 0 0, .slice none 0 0, .slice none 0 0, .string ⟨#[]⟩, .int .u64 0, .int .u64 0, .slice none 0 0, .slice none 0 0, .slice none 0 0, .slice none 0 0, .slice none 0 0, .slice none 0 0, .slice none 0 0, .slice none 0 0, .int .u64 0, .int .u64 0, .int .u64 0, .int .u64 0, .string ⟨#[]⟩, .string ⟨#[]⟩, .int .u64 0, .slice none 0 0, .int .u64 0, .int .u64 0, .slice none 0 0, .int .i64 0, .slice none 0 0, .int .u64 0, .string ⟨#[]⟩, .int .u64 0, .int .u64 0, .int .u64 0, .int .u64 0, .int .u64 0, .int .u64 0, .int .u64 0, .int .u64 0, .int .u64 0, .int .u64 0, .int .u64 0, .int .u64 0, .slice none 0 0] 46)) := Kept.of_belowX ((Below.refl _ _).alloc (Nat.le_refl _) _)
        refine hK.out _ _ hS1 (fun _ => ?_)
        clear hK K
        refine wpAnyH_take (i := 8) (oi := _) (v := ?_) rfl (by kernel_rfl) (by kernel_rfl) (by kernel_rfl) (fun _ _ _ h => h) (Or.inl ⟨by rfl, ?_⟩) hS1 ?_
        rotate_left
        · intro W hSW
          try go_simp
          all_goals with_reducible rfl
        simp only [Act.put, List.setIfInBounds_toArray, List.set_cons_zero, List.set_cons_succ, List.getElem_toArray, List.getElem_cons_zero, List.getElem_cons_succ]
        refine wpAnyH_ready (rs := [9]) (by kernel_rfl) (by simp) (AllReadyH.cons rfl (fun K hK => ?_) AllReadyH.nil)
        rw [if_pos (by rfl)]
        refine wp_store_mid 46 (.tmp 12) (.tmp 43) rfl wd.heap.size 0 ML.toArray rfl rfl HTM.out (by have := HINM.out; simpa using this) HON2.out ?_
        try simp only [List.toList_toArray]
        have hbS0 := below_new wd #[.int .i64 0, .string ⟨#[]⟩, .string ⟨#[]⟩, .int .u64 0, .int .u64 0, .int .u64 0, .int .u64 0, .string ⟨#[]⟩, .string ⟨#[]⟩, .string ⟨#[]⟩, .string ⟨#[]⟩, .string ⟨#[]⟩, .string ⟨#[]⟩, .string ⟨#[]⟩, .string ⟨#[]⟩, .string ⟨#[]⟩, .bool false, .string ⟨#[]⟩, .int .u64 0, .int .u64 0, .slice none 0 0, .slice none 0 0, .slice none 0 0, .string ⟨#[]⟩, .int .u64 0, .int .u64 0, .slice none 0 0, .slice none 0 0, .slice none 0 0, .slice none 0 0, .slice none 0 0, .slice none 0 0, .slice none 0 0, .slice none 0 0, .int .u64 0, .int .u64 0, .int .u64 0, .int .u64 0, .string ⟨#[]⟩, .string ⟨#[]⟩, .int .u64 0, .slice none 0 0, .int .u64 0, .int .u64 0, .slice none 0 0, .int .i64 0, .slice none 0 0, .int .u64 0, .string ⟨#[]⟩, .int .u64 0, .int .u64 0, .int .u64 0, .int .u64 0, .int .u64 0, .int .u64 0, .int .u64 0, .int .u64 0, .int .u64 0, .int .u64 0, .int .u64 0, .int .u64 0, .slice none 0 0] 46 ML
        refine hK.out _ _ (show KepS wd _ from Kept.of_belowX hbS0) (fun _ => ?_)
        clear hK K hS0 hS1
        refine wpAnyH_done (by kernel_rfl) ?_ _
        have hrS0 := range_new wd #[.int .i64 0, .string ⟨#[]⟩, .string ⟨#[]⟩, .int .u64 0, .int .u64 0, .int .u64 0, .int .u64 0, .string ⟨#[]⟩, .string ⟨#[]⟩, .string ⟨#[]⟩, .string ⟨#[]⟩, .string ⟨#[]⟩, .string ⟨#[]⟩, .string ⟨#[]⟩, .string ⟨#[]⟩, .string ⟨#[]⟩, .bool false, .string ⟨#[]⟩, .int .u64 0, .int .u64 0, .slice none 0 0, .slice none 0 0, .slice none 0 0, .string ⟨#[]⟩, .int .u64 0, .int .u64 0, .slice none 0 0, .slice none 0 0, .slice none 0 0, .slice none 0 0, .slice none 0 0, .slice none 0 0, .slice none 0 0, .slice none 0 0, .int .u64 0, .int .u64 0, .int .u64 0, .int .u64 0, .string ⟨#[]⟩, .string ⟨#[]⟩, .int .u64 0, .slice none 0 0, .int .u64 0, .int .u64 0, .slice none 0 0, .int .i64 0, .slice none 0 0, .int .u64 0, .string ⟨#[]⟩, .int .u64 0, .int .u64 0, .int .u64 0, .int .u64 0, .int .u64 0, .int .u64 0, .int .u64 0, .int .u64 0, .int .u64 0, .int .u64 0, .int .u64 0, .int .u64 0, .slice none 0 0] 46 ML (by rw [HML.out]; exact Nat.le_refl _)
        have hbS := hbd.trans (hbS0.mono hbd.size)
        have HBS0 := Lib.hid hbS
        have HRS0 := Lib.hid hrS0
        clear hbS0 hrS0 hbS hbd hkd HTM HON2 HINM HRM HC7 HKB
        generalize (wd.alloc (.cells #[.int .i64 0, .string ⟨#[]⟩, .string ⟨#[]⟩, .int .u64 0, .int .u64 0, .int .u64 0, .int .u64 0, .string ⟨#[]⟩, .string ⟨#[]⟩, .string ⟨#[]⟩, .string ⟨#[]⟩, .string ⟨#[]⟩, .string ⟨#[]⟩, .string ⟨#[]⟩, .string ⟨#[]⟩, .string ⟨#[]⟩, .bool false, .string ⟨#[]⟩, .int .u64 0, .int .u64 0, .slice none 0 0, .slice none 0 0, .slice none 0 0, .string ⟨#[]⟩, .int .u64 0, .int .u64 0, .slice none 0 0, .slice none 0 0, .slice none 0 0, .slice none 0 0, .slice none 0 0, .slice none 0 0, .slice none 0 0, .slice none 0 0, .int .u64 0, .int .u64 0, .int .u64 0, .int .u64 0, .string ⟨#[]⟩, .string ⟨#[]⟩, .int .u64 0, .slice none 0 0, .int .u64 0, .int .u64 0, .slice none 0 0, .int .i64 0, .slice none 0 0, .int .u64 0, .string ⟨#[]⟩, .int .u64 0, .int .u64 0, .int .u64 0, .int .u64 0, .int .u64 0, .int .u64 0, .int .u64 0, .int .u64 0, .int .u64 0, .int .u64 0, .int .u64 0, .int .u64 0, .slice none 0 0] 46)).setCells wd.heap.size 0 ML = wS at *
        generalize wd.heap.size = g12 at *
        obtain ⟨nn, ff, hnn, AT0⟩ := HS0.out.at
        have AS := AT0.up HBS0.out
        have hkS := Kept.of_belowX HBS0.out
        have hST := clstep_any AS (show nn + 0 + 3 ≤ maxLen by have := HJ.out.1; unfold maxLen; omega) x (HM.out _ (HK0.out.1.transX hkS)) HFQ.out (HTR.out _ (HK0.out.1.transX hkS)).1 fr (HTR.out _ (HK0.out.1.transX hkS)).2
        obtain ⟨⟨E, R2⟩, hU⟩ : ∃ p, p = stepM14 R x := ⟨_, rfl⟩
        rw [← HSL.out, ← hU] at hST
        dsimp only at hST
        have HST := Lib.hid hST
        have HRA := Lib.hid (range_kept HK0.out.2 hkS)
        have HNN := Lib.hid hnn
        clear hST hU AT0 hkS hnn
        clear AS
        go_wp2_with (with_reducible refine at_load 48 ?_; refine wpList_load_mid rfl 48 (.tmp 10) rfl g10 0 rfl SL _ HRA.out Tryz.underlying48 rfl HINF.out ?_)
        refine HST.out.mono ?_
        rintro e w2 ⟨rfl, A2, hk2⟩
        have hkw2 := (HK0.out.1.transX (Kept.of_belowX HBS0.out)).transX hk2
        have hr2 := range_kept HRA.out hk2
        have hr12 := range_kept HRS0.out hk2
        obtain ⟨Ap, cp, hpv⟩ := (HM.out _ (Kept.refl _)).r_pf.form
        obtain ⟨Aa, ca, hav⟩ := (HM.out _ (Kept.refl _)).r_ak.form
        have HPV := Lib.hid (And.intro hpv hav)
        have HCF : Hid (∀ Z, Kept w2 Z → Z.cell? ⟨g10, 2, none⟩ = some (.int .u64 (x.now : Int)) ∧ Z.cell? ⟨g12, 34, none⟩ = some (.int .u64 (x.m.ht : Int)) ∧ Z.cell? ⟨g12, 2, none⟩ = some (.string x.m.dn) ∧ Z.cell? ⟨g12, 44, none⟩ = some (.slice Aa x.m.ak.length ca) ∧ Z.cell? ⟨g12, 45, none⟩ = some (.int .i64 x.m.pf.n) ∧ Z.cell? ⟨g12, 46, none⟩ = some (.slice Ap x.m.pf.ls.length cp)) := Lib.hid fun Z hz =>
          ⟨hz.cell (range_cellT hr2 2 _ (by rw [HSL.out]; rfl)), hz.cell (range_cellT hr12 34 _ (by rw [HML.out]; rfl)), hz.cell (range_cellT hr12 2 _ (by rw [HML.out]; rfl)), by rw [← hav]; exact hz.cell (range_cellT hr12 44 _ (by rw [HML.out]; rfl)), hz.cell (range_cellT hr12 45 _ (by rw [HML.out]; rfl)), by rw [← hpv]; exact hz.cell (range_cellT hr12 46 _ (by rw [HML.out]; rfl))⟩
        have HK2 := Lib.hid hkw2
        have HT0 := Lib.hid (And.intro HS0.out (And.intro HNN.out A2))
        have HNR : Hid (nn + (0 + 3) + 0 ≤ 1000000000) := Lib.hid (by have := HNN.out; have := HJ.out.1; omega)
        have hRT := fun (Z : World) (hz : Below w2.heap.size w2 Z) => (A2.up hz).root HNR.out fr (HTR.out _ (hkw2.transX (Kept.of_belowX hz))).2
        have hTS := fun (Z : World) (hz : Below w2.heap.size w2 Z) => csget_any (A2.up hz) sCl0F x.m.ht (HM.out _ (Kept.refl _)).lt_ht (by decide)
        have hdn : x.m.dn.size ≤ 1048576 := HFQ.out.m.t _ (by simp [MsgV.texts])
        have hVE := fun (Z : World) (hz : Below w2.heap.size w2 Z) => clverify_any (A2.up hz) sCl0F x.m.ht x.now (by decide) (HM.out _ (Kept.refl _)).lt_ht HFQ.out.now x.m.dn (.slice Aa x.m.ak.length ca) x.m.ak x.m.pf.n Ap x.m.pf.ls.length cp x.m.pf (fun Y hy => ⟨_, rfl, by rw [← HPV.out.1]; exact (HM.out _ ((hkw2.transX (Kept.of_belowX hz)).transX (Kept.of_belowX hy))).r_pf, (HM.out _ (Kept.refl _)).in_pf⟩) (by rw [← HPV.out.2]; exact (HM.out _ (hkw2.transX (Kept.of_belowX hz))).r_ak) fr (HTR.out _ (hkw2.transX (Kept.of_belowX hz))).2
        have hAE := fun (Z : World) (hz : Below w2.heap.size w2 Z) => clabsent_any (A2.up hz) sCl0F x.m.ht x.now (by decide) (HM.out _ (Kept.refl _)).lt_ht HFQ.out.now x.m.dn (by unfold maxLen; omega) x.m.pf.n Ap x.m.pf.ls.length cp x.m.pf (fun Y hy => ⟨_, rfl, by rw [← HPV.out.1]; exact (HM.out _ ((hkw2.transX (Kept.of_belowX hz)).transX (Kept.of_belowX hy))).r_pf, (HM.out _ (Kept.refl _)).in_pf⟩) fr (HTR.out _ (hkw2.transX (Kept.of_belowX hz))).2
        have HMV := Lib.hid (fun (Z : World) (hz : Below w2.heap.size w2 Z) (rv : Value) (rt : List UInt8) (hr : Rd Z Z.heap.size rv rt) => verify_any rv rt x.m.dn (.slice Aa x.m.ak.length ca) x.m.ak (.agg #[.int .i64 x.m.pf.n, .slice Ap x.m.pf.ls.length cp]) x.m.pf Z hr (by rw [← HPV.out.2]; exact (HM.out _ (hkw2.transX (Kept.of_belowX hz))).r_ak) ⟨_, rfl, by rw [← HPV.out.1]; exact (HM.out _ (hkw2.transX (Kept.of_belowX hz))).r_pf, (HM.out _ (Kept.refl _)).in_pf⟩ fr (HTR.out _ (hkw2.transX (Kept.of_belowX hz))).2)
        have HMA := Lib.hid (fun (Z : World) (hz : Below w2.heap.size w2 Z) (rv : Value) (rt : List UInt8) (hr : Rd Z Z.heap.size rv rt) => absent_any rv rt x.m.dn (.agg #[.int .i64 x.m.pf.n, .slice Ap x.m.pf.ls.length cp]) x.m.pf Z (by unfold maxLen; omega) hr ⟨_, rfl, by rw [← HPV.out.1]; exact (HM.out _ (hkw2.transX (Kept.of_belowX hz))).r_pf, (HM.out _ (Kept.refl _)).in_pf⟩ fr (HTR.out _ (hkw2.transX (Kept.of_belowX hz))).2)
        obtain ⟨EV, hEV⟩ : ∃ e, e = verifyE R2 sCl0F x.m.ht x.now x.m.dn x.m.ak x.m.pf := ⟨_, rfl⟩
        obtain ⟨EA, hEA⟩ : ∃ e, e = absentE R2 sCl0F x.m.ht x.now x.m.dn x.m.pf := ⟨_, rfl⟩
        rw [← hEV] at hVE
        rw [← hEA] at hAE
        have HSV : Hid (EV = 0 → ∃ u, getCs R2 sCl0F x.m.ht = some u ∧ verifyB u.rt x.m.dn x.m.ak x.m.pf = true) := Lib.hid fun e => shown_ve (hEV.symm.trans e)
        have HSA : Hid (EA = 0 → ∃ u, getCs R2 sCl0F x.m.ht = some u ∧ absentB u.rt x.m.dn x.m.pf = true) := Lib.hid fun e => shown_ab (hEA.symm.trans e)
        generalize getCs R2 sCl0F x.m.ht = gu at *
        obtain ⟨SR, hcr⟩ : ∃ S : ByteArray, ∀ (Z : World) (v : Value), Rd Z Z.heap.size v (rootM R2).1 → (convert 32 9 v).run Tryz.prog Z = .ok (.string S) Z := ⟨⟨(rootM R2).1.toArray⟩, fun Z v h => run_str Tryz.underlying32 Tryz.underlying5 Tryz.isString h⟩
        have HCR := Lib.hid hcr
        generalize (rootM R2).1 = RT at *
        unfold sCl0F at hTS hVE hAE
        have HRT := Lib.hid hRT
        have HTS := Lib.hid hTS
        have HVE := Lib.hid hVE
        have HAE := Lib.hid hAE
        have HLS : Hid (∀ Z, Below w2.heap.size w2 Z → LS w b1 m1 b2 m2 g7 (2000000 + 3 * (j + 1)) Z) := Lib.hid (fun Z hz => HRE.out R2 Z _ (by
          have h := (HT0.out.1.step (by have := HT0.out.2.1; exact this) (HT0.out.2.2)).up hz
          have e : 2000000 + 3 * j + (0 + 3) = 2000000 + 3 * (j + 1) := by omega
          rw [← e]; exact h) (HK2.out.transX (Kept.of_belowX hz)))
        clear A2 hk2 hkw2 hr2 hr12 hpv hav hRT hTS hVE hAE hEV hEA hcr hdn HST HRA HK2 HT0 HNN HNR HPV HK0 HS0 HRS0 HBS0 HM HFQ HTR HJ HRE HSL HML HINF
        generalize x.m.ht = mht at *
        generalize x.now = now at *
        generalize x.m.dn = mdn at *
        generalize x.m.pf = mpf at *
        generalize x.m.ak = mak at *
        go_wp2_with fail
        refine (HRT.out _ (Below.refl _ _)).mono ?_
        rintro e w3 ⟨v3, rfl, ho3, hb3⟩
        have HW3 := Lib.hid (fun (Z : World) (hz : Kept w3 Z) => hz.rd ho3.rd)
        obtain ⟨A3v, c3v, rfl⟩ := ho3.form
        have k34 := HCF.out w3 (Kept.of_belowX hb3)
        obtain ⟨k1, k2, k3, k4, k5, k6⟩ := k34
        clear ho3
        generalize RT.length = rtn at *
        go_wp2_with fail
        refine (HTS.out _ hb3).mono ?_
        rintro e w4 ⟨hcs, hb4⟩
        have hq4 := hb3.trans (hb4.mono hb3.size)
        have HB4 := Lib.hid hb4
        clear k1 k2 k3 k4 k5 k6 hb4 HTS
        rcases hcs with ⟨u, vr, vn, rfl, rfl, hor, hon⟩ | ⟨rfl, rfl⟩
        · obtain ⟨Ar, cr, rfl⟩ := hor.form
          obtain ⟨An, cn, rfl⟩ := hon.form
          have HRU := Lib.hid (fun (Z : World) (hz : Kept w4 Z) => hz.rd hor.rd)
          clear hor hon
          have hmT := heap_alloc_new w4 (.cells #[.int .u64 (u.tm : Int), .slice Ar u.rt.length cr, .slice An u.nx.length cn] 59)
          have hbT : Below w4.heap.size w4 (w4.alloc (.cells #[.int .u64 (u.tm : Int), .slice Ar u.rt.length cr, .slice An u.nx.length cn] 59)) := (Below.refl _ _).alloc (Nat.le_refl _) _
          have hq5 := hq4.trans (hbT.mono hq4.size)
          have hk5 := Kept.of_belowX hbT
          have HK45 := Lib.hid hk5
          obtain ⟨k1, k2, k3, k4, k5, k6⟩ := HCF.out _ (Kept.of_belowX hq5)
          have HMT := Lib.hid hmT
          have HQ5 := Lib.hid hq5
          clear hmT hbT hq5 hk5 hq4
          go_wp2_with fail
          generalize w4.alloc (.cells #[.int .u64 (u.tm : Int), .slice Ar u.rt.length cr, .slice An u.nx.length cn] 59) = w5 at *
          generalize w4.heap.size = gT at *
          refine (HVE.out _ HQ5.out).mono ?_
          rintro e w6 ⟨rfl, hb6⟩
          have hq6 := HQ5.out.trans (hb6.mono HQ5.out.size)
          clear k1 k2 k3 k4 k5 k6
          obtain ⟨k1, k2, k3, k4, k5, k6⟩ := HCF.out _ (Kept.of_belowX hq6)
          go_wp2_with fail
          refine (HAE.out _ hq6).mono ?_
          rintro e w7 ⟨rfl, hb7⟩
          have hq7 := hq6.trans (hb7.mono hq6.size)
          clear k1 k2 k3 k4 k5 k6
          have hk57 := (Kept.of_belowX hb6).transX (Kept.of_belowX hb7)
          have HK47 := Lib.hid (HK45.out.transX hk57)
          have HTB7 : Hid (∀ Z, Kept w7.drew Z → Z.cell? ⟨gT, 1, none⟩ = some (.slice Ar u.rt.length cr) ∧ Z.cell? ⟨gT, 2, none⟩ = some (.slice An u.nx.length cn)) := Lib.hid fun Z hz => ⟨blk_cell (((hk57.transX (Kept.of_belowX (Below.refl w7.heap.size w7).drew)).transX hz).blockP HMT.out) 1, blk_cell (((hk57.transX (Kept.of_belowX (Below.refl w7.heap.size w7).drew)).transX hz).blockP HMT.out) 2⟩
          have hbd0 : Below w7.heap.size w7 w7.drew := (Below.refl _ _).drew
          have hq8 := hq7.trans (hbd0.mono hq7.size)
          have BQ7 := Lib.hid hq8
          have HK7 := Lib.hid (Kept.of_belowX hq8)
          have HWZ := Lib.hid (fun (Z : World) (hz : Kept w7.drew Z) => HW3.out Z (((Kept.of_belowX HB4.out).transX (HK47.out.transX (Kept.of_belowX hbd0))).transX hz))
          have HRU7 := Lib.hid (fun (Z : World) (hz : Kept w7.drew Z) => HRU.out Z ((HK47.out.transX (Kept.of_belowX hbd0)).transX hz))
          have hmv := fun (Z : World) (hz : Below w7.drew.heap.size w7.drew Z) => HMV.out Z (BQ7.out.trans (hz.mono BQ7.out.size)) _ _ (HRU7.out Z (Kept.of_belowX hz))
          have hma := fun (Z : World) (hz : Below w7.drew.heap.size w7.drew Z) => HMA.out Z (BQ7.out.trans (hz.mono BQ7.out.size)) _ _ (HRU7.out Z (Kept.of_belowX hz))
          have hbd : Below w7.drew.heap.size w7.drew w7.drew := Below.refl _ _
          have hkd := Kept.refl w7.drew
          clear hq6 hq7 hq8 hb6 hb7 hk57 hbd0 HK45 HK47 HMT HQ5 HB4 HW3 HRU HRU7
          have HM1 := Lib.hid hmv
          have HM2 := Lib.hid hma
          clear hmv hma
          by_cases e1 : EV = 0
          · subst e1
            obtain ⟨u1, hu1, ht1⟩ := HSV.out rfl
            injection hu1 with hu1
            subst hu1
            have HMV7 := HM1
            rw [ht1] at HMV7
            by_cases e2 : EA = 0
            · subst e2
              obtain ⟨u2, hu2, ht2⟩ := HSA.out rfl
              injection hu2 with hu2
              subst hu2
              have HMA7 := HM2
              rw [ht2] at HMA7
              clear HSV HSA HM1 HM2
              go_wp2_with fail
              refine wp_region_held_drew (S := KepS w7.drew) (by kernel_rfl) (KepS.refl _) (fun hS0 => ?_)
              refine wpAnyH_take (i := 0) (oi := _) (v := ?_) rfl (by kernel_rfl) (by kernel_rfl) (by kernel_rfl) (fun _ _ _ h => h) (Or.inl ⟨by rfl, ?_⟩) hS0 ?_
              rotate_left
              · intro W hSW
                try go_simp
                all_goals with_reducible rfl
              simp only [Act.put, List.setIfInBounds_toArray, List.set_cons_zero, List.set_cons_succ, List.getElem_toArray, List.getElem_cons_zero, List.getElem_cons_succ]
              refine wpAnyH_take (i := 1) (oi := _) (v := .bool true) rfl (by kernel_rfl) (by kernel_rfl) (by kernel_rfl) (fun _ _ _ h => h) (Or.inl ⟨by rfl, ?_⟩) hS0 ?_
              skip
              · intro W hSW
                try go_simp
                all_goals first | with_reducible rfl | (simp; done) | omega | (simp; omega) | trace_state
              simp only [Act.put, List.setIfInBounds_toArray, List.set_cons_zero, List.set_cons_succ, List.getElem_toArray, List.getElem_cons_zero, List.getElem_cons_succ]
              refine wpAnyH_take (i := 2) (oi := _) (v := .bool true) rfl (by kernel_rfl) (by kernel_rfl) (by kernel_rfl) (fun _ _ _ h => h) (Or.inl ⟨by rfl, ?_⟩) hS0 ?_
              skip
              · intro W hSW
                try go_simp
                all_goals first | with_reducible rfl | (simp; done) | omega | (simp; omega) | trace_state
              simp only [Act.put, List.setIfInBounds_toArray, List.set_cons_zero, List.set_cons_succ, List.getElem_toArray, List.getElem_cons_zero, List.getElem_cons_succ]
              refine wpAnyH_take (i := 3) (oi := _) (v := ?_) rfl (by kernel_rfl) (by kernel_rfl) (by kernel_rfl) (fun _ _ _ h => h) (Or.inl ⟨by rfl, ?_⟩) hS0 ?_
              rotate_left
              · intro W hSW
                try go_simp
                all_goals with_reducible rfl
              simp only [Act.put, List.setIfInBounds_toArray, List.set_cons_zero, List.set_cons_succ, List.getElem_toArray, List.getElem_cons_zero, List.getElem_cons_succ]
              refine wpAnyH_take (i := 4) (oi := _) (v := .bool false) rfl (by kernel_rfl) (by kernel_rfl) (by kernel_rfl) (fun _ _ _ h => h) (Or.inl ⟨by rfl, ?_⟩) hS0 ?_
              skip
              · intro W hSW
                try go_simp
                all_goals first | with_reducible rfl | (simp; done) | omega | (simp; omega) | trace_state
              simp only [Act.put, List.setIfInBounds_toArray, List.set_cons_zero, List.set_cons_succ, List.getElem_toArray, List.getElem_cons_zero, List.getElem_cons_succ]
              refine wpAnyH_take (i := 5) (oi := _) (v := .bool false) rfl (by kernel_rfl) (by kernel_rfl) (by kernel_rfl) (fun _ _ _ h => h) (Or.inl ⟨by rfl, ?_⟩) hS0 ?_
              skip
              · intro W hSW
                try go_simp
                all_goals first | with_reducible rfl | (simp; done) | omega | (simp; omega) | trace_state
              simp only [Act.put, List.setIfInBounds_toArray, List.set_cons_zero, List.set_cons_succ, List.getElem_toArray, List.getElem_cons_zero, List.getElem_cons_succ]
              refine wpAnyH_take (i := 6) (oi := _) (v := ?_) rfl (by kernel_rfl) (by kernel_rfl) (by kernel_rfl) (fun _ _ _ h => h) (Or.inl ⟨by rfl, ?_⟩) hS0 ?_
              rotate_left
              · intro W hSW
                try go_simp
                all_goals with_reducible rfl
              simp only [Act.put, List.setIfInBounds_toArray, List.set_cons_zero, List.set_cons_succ, List.getElem_toArray, List.getElem_cons_zero, List.getElem_cons_succ]
              refine wpAnyH_take (i := 7) (oi := _) (v := ?_) rfl (by kernel_rfl) (by kernel_rfl) (by kernel_rfl) (fun _ _ _ h => h) (Or.inl ⟨by rfl, ?_⟩) hS0 ?_
              rotate_left
              · intro W hSW
                obtain ⟨r1, r2⟩ := HTB7.out W (hkd.transX hSW)
                try go_simp
                all_goals with_reducible rfl
              simp only [Act.put, List.setIfInBounds_toArray, List.set_cons_zero, List.set_cons_succ, List.getElem_toArray, List.getElem_cons_zero, List.getElem_cons_succ]
              refine wpAnyH_take (i := 8) (oi := _) (v := ?_) rfl (by kernel_rfl) (by kernel_rfl) (by kernel_rfl) (fun _ _ _ h => h) (Or.inl ⟨by rfl, ?_⟩) hS0 ?_
              rotate_left
              · intro W hSW
                try go_simp
                all_goals with_reducible rfl
              simp only [Act.put, List.setIfInBounds_toArray, List.set_cons_zero, List.set_cons_succ, List.getElem_toArray, List.getElem_cons_zero, List.getElem_cons_succ]
              refine wpAnyH_take (i := 9) (oi := _) (v := ?_) rfl (by kernel_rfl) (by kernel_rfl) (by kernel_rfl) (fun _ _ _ h => h) (Or.inl ⟨by rfl, ?_⟩) hS0 ?_
              rotate_left
              · intro W hSW
                obtain ⟨k1, k2, k3, k4, k5, k6⟩ := HCF.out W (HK7.out.transX (hkd.transX hSW))
                try go_simp
                all_goals with_reducible rfl
              simp only [Act.put, List.setIfInBounds_toArray, List.set_cons_zero, List.set_cons_succ, List.getElem_toArray, List.getElem_cons_zero, List.getElem_cons_succ]
              refine wpAnyH_take (i := 10) (oi := _) (v := ?_) rfl (by kernel_rfl) (by kernel_rfl) (by kernel_rfl) (fun _ _ _ h => h) (Or.inl ⟨by rfl, ?_⟩) hS0 ?_
              rotate_left
              · intro W hSW
                try go_simp
                all_goals with_reducible rfl
              simp only [Act.put, List.setIfInBounds_toArray, List.set_cons_zero, List.set_cons_succ, List.getElem_toArray, List.getElem_cons_zero, List.getElem_cons_succ]
              refine wpAnyH_take (i := 11) (oi := _) (v := ?_) rfl (by kernel_rfl) (by kernel_rfl) (by kernel_rfl) (fun _ _ _ h => h) (Or.inl ⟨by rfl, ?_⟩) hS0 ?_
              rotate_left
              · intro W hSW
                obtain ⟨k1, k2, k3, k4, k5, k6⟩ := HCF.out W (HK7.out.transX (hkd.transX hSW))
                try go_simp
                all_goals with_reducible rfl
              simp only [Act.put, List.setIfInBounds_toArray, List.set_cons_zero, List.set_cons_succ, List.getElem_toArray, List.getElem_cons_zero, List.getElem_cons_succ]
              refine wpAnyH_take (i := 12) (oi := _) (v := ?_) rfl (by kernel_rfl) (by kernel_rfl) (by kernel_rfl) (fun _ _ _ h => h) (Or.inl ⟨by rfl, ?_⟩) hS0 ?_
              rotate_left
              · intro W hSW
                try go_simp
                all_goals with_reducible rfl
              simp only [Act.put, List.setIfInBounds_toArray, List.set_cons_zero, List.set_cons_succ, List.getElem_toArray, List.getElem_cons_zero, List.getElem_cons_succ]
              refine wpAnyH_take (i := 13) (oi := _) (v := ?_) rfl (by kernel_rfl) (by kernel_rfl) (by kernel_rfl) (fun _ _ _ h => h) (Or.inl ⟨by rfl, ?_⟩) hS0 ?_
              rotate_left
              · intro W hSW
                obtain ⟨k1, k2, k3, k4, k5, k6⟩ := HCF.out W (HK7.out.transX (hkd.transX hSW))
                try go_simp
                all_goals with_reducible rfl
              simp only [Act.put, List.setIfInBounds_toArray, List.set_cons_zero, List.set_cons_succ, List.getElem_toArray, List.getElem_cons_zero, List.getElem_cons_succ]
              refine wpAnyH_ready (rs := [14]) (by kernel_rfl) (by simp) (AllReadyH.cons rfl (fun K hK => ?_) AllReadyH.nil)
              have DV := Lib.hid (HMV7.out w7.drew hbd)
              go_simp
              go_wp2_with ((go_at_call 22; (with_reducible refine DV.out.mono ?_); rintro e wV ⟨rfl, hbV⟩))
              have hqV := below_chain hbd hbd.size hbV
              have hkV := Kept.of_belowX hbV
              have hzV := hkd.transX hkV
              refine hK.out _ _ hkV (fun _ => ?_)
              clear hK K DV
              refine wpAnyH_stronger (S' := KepS wV) (fun W h => hkV.transX h) _ _ _ _ ?_
              have hSV : KepS wV wV := KepS.refl wV
              refine wpAnyH_take (i := 15) (oi := _) (v := .bool false) rfl (by kernel_rfl) (by kernel_rfl) (by kernel_rfl) (fun _ _ _ h => h) (Or.inl ⟨by rfl, ?_⟩) hSV ?_
              skip
              · intro W hSW
                try go_simp
                all_goals first | with_reducible rfl | (simp; done) | omega | (simp; omega) | trace_state
              simp only [Act.put, List.setIfInBounds_toArray, List.set_cons_zero, List.set_cons_succ, List.getElem_toArray, List.getElem_cons_zero, List.getElem_cons_succ]
              refine wpAnyH_take (i := 16) (oi := _) (v := .bool false) rfl (by kernel_rfl) (by kernel_rfl) (by kernel_rfl) (fun _ _ _ h => h) (Or.inl ⟨by rfl, ?_⟩) hSV ?_
              skip
              · intro W hSW
                try go_simp
                all_goals first | with_reducible rfl | (simp; done) | omega | (simp; omega) | trace_state
              simp only [Act.put, List.setIfInBounds_toArray, List.set_cons_zero, List.set_cons_succ, List.getElem_toArray, List.getElem_cons_zero, List.getElem_cons_succ]
              refine wpAnyH_take (i := 17) (oi := _) (v := .bool false) rfl (by kernel_rfl) (by kernel_rfl) (by kernel_rfl) (fun _ _ _ h => h) (Or.inl ⟨by rfl, ?_⟩) hSV ?_
              skip
              · intro W hSW
                try go_simp
                all_goals first | with_reducible rfl | (simp; done) | omega | (simp; omega) | trace_state
              simp only [Act.put, List.setIfInBounds_toArray, List.set_cons_zero, List.set_cons_succ, List.getElem_toArray, List.getElem_cons_zero, List.getElem_cons_succ]
              refine wpAnyH_take (i := 18) (oi := _) (v := .bool false) rfl (by kernel_rfl) (by kernel_rfl) (by kernel_rfl) (fun _ _ _ h => h) (Or.inl ⟨by rfl, ?_⟩) hSV ?_
              skip
              · intro W hSW
                try go_simp
                all_goals first | with_reducible rfl | (simp; done) | omega | (simp; omega) | trace_state
              simp only [Act.put, List.setIfInBounds_toArray, List.set_cons_zero, List.set_cons_succ, List.getElem_toArray, List.getElem_cons_zero, List.getElem_cons_succ]
              refine wpAnyH_take (i := 19) (oi := _) (v := ?_) rfl (by kernel_rfl) (by kernel_rfl) (by kernel_rfl) (fun _ _ _ h => h) (Or.inl ⟨by rfl, ?_⟩) hSV ?_
              rotate_left
              · intro W hSW
                try go_simp
                all_goals with_reducible rfl
              simp only [Act.put, List.setIfInBounds_toArray, List.set_cons_zero, List.set_cons_succ, List.getElem_toArray, List.getElem_cons_zero, List.getElem_cons_succ]
              refine wpAnyH_take (i := 20) (oi := _) (v := .bool true) rfl (by kernel_rfl) (by kernel_rfl) (by kernel_rfl) (fun _ _ _ h => h) (Or.inl ⟨by rfl, ?_⟩) hSV ?_
              skip
              · intro W hSW
                try go_simp
                all_goals first | with_reducible rfl | (simp; done) | omega | (simp; omega) | trace_state
              simp only [Act.put, List.setIfInBounds_toArray, List.set_cons_zero, List.set_cons_succ, List.getElem_toArray, List.getElem_cons_zero, List.getElem_cons_succ]
              refine wpAnyH_take (i := 21) (oi := _) (v := .bool true) rfl (by kernel_rfl) (by kernel_rfl) (by kernel_rfl) (fun _ _ _ h => h) (Or.inl ⟨by rfl, ?_⟩) hSV ?_
              skip
              · intro W hSW
                try go_simp
                all_goals first | with_reducible rfl | (simp; done) | omega | (simp; omega) | trace_state
              simp only [Act.put, List.setIfInBounds_toArray, List.set_cons_zero, List.set_cons_succ, List.getElem_toArray, List.getElem_cons_zero, List.getElem_cons_succ]
              refine wpAnyH_take (i := 22) (oi := _) (v := ?_) rfl (by kernel_rfl) (by kernel_rfl) (by kernel_rfl) (fun _ _ _ h => h) (Or.inl ⟨by rfl, ?_⟩) hSV ?_
              rotate_left
              · intro W hSW
                try go_simp
                all_goals with_reducible rfl
              simp only [Act.put, List.setIfInBounds_toArray, List.set_cons_zero, List.set_cons_succ, List.getElem_toArray, List.getElem_cons_zero, List.getElem_cons_succ]
              refine wpAnyH_take (i := 23) (oi := _) (v := .bool false) rfl (by kernel_rfl) (by kernel_rfl) (by kernel_rfl) (fun _ _ _ h => h) (Or.inl ⟨by rfl, ?_⟩) hSV ?_
              skip
              · intro W hSW
                try go_simp
                all_goals first | with_reducible rfl | (simp; done) | omega | (simp; omega) | trace_state
              simp only [Act.put, List.setIfInBounds_toArray, List.set_cons_zero, List.set_cons_succ, List.getElem_toArray, List.getElem_cons_zero, List.getElem_cons_succ]
              refine wpAnyH_take (i := 24) (oi := _) (v := .bool false) rfl (by kernel_rfl) (by kernel_rfl) (by kernel_rfl) (fun _ _ _ h => h) (Or.inl ⟨by rfl, ?_⟩) hSV ?_
              skip
              · intro W hSW
                try go_simp
                all_goals first | with_reducible rfl | (simp; done) | omega | (simp; omega) | trace_state
              simp only [Act.put, List.setIfInBounds_toArray, List.set_cons_zero, List.set_cons_succ, List.getElem_toArray, List.getElem_cons_zero, List.getElem_cons_succ]
              refine wpAnyH_take (i := 25) (oi := _) (v := ?_) rfl (by kernel_rfl) (by kernel_rfl) (by kernel_rfl) (fun _ _ _ h => h) (Or.inl ⟨by rfl, ?_⟩) hSV ?_
              rotate_left
              · intro W hSW
                try go_simp
                all_goals with_reducible rfl
              simp only [Act.put, List.setIfInBounds_toArray, List.set_cons_zero, List.set_cons_succ, List.getElem_toArray, List.getElem_cons_zero, List.getElem_cons_succ]
              refine wpAnyH_take (i := 26) (oi := _) (v := ?_) rfl (by kernel_rfl) (by kernel_rfl) (by kernel_rfl) (fun _ _ _ h => h) (Or.inl ⟨by rfl, ?_⟩) hSV ?_
              rotate_left
              · intro W hSW
                obtain ⟨r1, r2⟩ := HTB7.out W (hzV.transX hSW)
                try go_simp
                all_goals with_reducible rfl
              simp only [Act.put, List.setIfInBounds_toArray, List.set_cons_zero, List.set_cons_succ, List.getElem_toArray, List.getElem_cons_zero, List.getElem_cons_succ]
              refine wpAnyH_take (i := 27) (oi := _) (v := ?_) rfl (by kernel_rfl) (by kernel_rfl) (by kernel_rfl) (fun _ _ _ h => h) (Or.inl ⟨by rfl, ?_⟩) hSV ?_
              rotate_left
              · intro W hSW
                try go_simp
                all_goals with_reducible rfl
              simp only [Act.put, List.setIfInBounds_toArray, List.set_cons_zero, List.set_cons_succ, List.getElem_toArray, List.getElem_cons_zero, List.getElem_cons_succ]
              refine wpAnyH_take (i := 28) (oi := _) (v := ?_) rfl (by kernel_rfl) (by kernel_rfl) (by kernel_rfl) (fun _ _ _ h => h) (Or.inl ⟨by rfl, ?_⟩) hSV ?_
              rotate_left
              · intro W hSW
                obtain ⟨k1, k2, k3, k4, k5, k6⟩ := HCF.out W (HK7.out.transX (hzV.transX hSW))
                try go_simp
                all_goals with_reducible rfl
              simp only [Act.put, List.setIfInBounds_toArray, List.set_cons_zero, List.set_cons_succ, List.getElem_toArray, List.getElem_cons_zero, List.getElem_cons_succ]
              refine wpAnyH_take (i := 29) (oi := _) (v := ?_) rfl (by kernel_rfl) (by kernel_rfl) (by kernel_rfl) (fun _ _ _ h => h) (Or.inl ⟨by rfl, ?_⟩) hSV ?_
              rotate_left
              · intro W hSW
                try go_simp
                all_goals with_reducible rfl
              simp only [Act.put, List.setIfInBounds_toArray, List.set_cons_zero, List.set_cons_succ, List.getElem_toArray, List.getElem_cons_zero, List.getElem_cons_succ]
              refine wpAnyH_take (i := 30) (oi := _) (v := ?_) rfl (by kernel_rfl) (by kernel_rfl) (by kernel_rfl) (fun _ _ _ h => h) (Or.inl ⟨by rfl, ?_⟩) hSV ?_
              rotate_left
              · intro W hSW
                obtain ⟨k1, k2, k3, k4, k5, k6⟩ := HCF.out W (HK7.out.transX (hzV.transX hSW))
                try go_simp
                all_goals with_reducible rfl
              simp only [Act.put, List.setIfInBounds_toArray, List.set_cons_zero, List.set_cons_succ, List.getElem_toArray, List.getElem_cons_zero, List.getElem_cons_succ]
              refine wpAnyH_ready (rs := [31]) (by kernel_rfl) (by simp) (AllReadyH.cons rfl (fun K hK => ?_) AllReadyH.nil)
              have DA := Lib.hid (HMA7.out wV hqV)
              go_simp
              go_wp2_with ((go_at_call 23; (with_reducible refine DA.out.mono ?_); rintro e wA ⟨rfl, hbA⟩))
              have hqA := below_chain hqV hqV.size hbA
              have hkA := Kept.of_belowX hbA
              have hzA := hzV.transX hkA
              refine hK.out _ _ hkA (fun _ => ?_)
              clear hK K DA
              refine wpAnyH_stronger (S' := KepS wA) (fun W h => hkA.transX h) _ _ _ _ ?_
              have hSA : KepS wA wA := KepS.refl wA
              refine wpAnyH_take (i := 32) (oi := _) (v := .bool false) rfl (by kernel_rfl) (by kernel_rfl) (by kernel_rfl) (fun _ _ _ h => h) (Or.inl ⟨by rfl, ?_⟩) hSA ?_
              skip
              · intro W hSW
                try go_simp
                all_goals first | with_reducible rfl | (simp; done) | omega | (simp; omega) | trace_state
              simp only [Act.put, List.setIfInBounds_toArray, List.set_cons_zero, List.set_cons_succ, List.getElem_toArray, List.getElem_cons_zero, List.getElem_cons_succ]
              refine wpAnyH_take (i := 33) (oi := _) (v := .bool false) rfl (by kernel_rfl) (by kernel_rfl) (by kernel_rfl) (fun _ _ _ h => h) (Or.inl ⟨by rfl, ?_⟩) hSA ?_
              skip
              · intro W hSW
                try go_simp
                all_goals first | with_reducible rfl | (simp; done) | omega | (simp; omega) | trace_state
              simp only [Act.put, List.setIfInBounds_toArray, List.set_cons_zero, List.set_cons_succ, List.getElem_toArray, List.getElem_cons_zero, List.getElem_cons_succ]
              refine wpAnyH_take (i := 34) (oi := _) (v := .bool false) rfl (by kernel_rfl) (by kernel_rfl) (by kernel_rfl) (fun _ _ _ h => h) (Or.inl ⟨by rfl, ?_⟩) hSA ?_
              skip
              · intro W hSW
                try go_simp
                all_goals first | with_reducible rfl | (simp; done) | omega | (simp; omega) | trace_state
              simp only [Act.put, List.setIfInBounds_toArray, List.set_cons_zero, List.set_cons_succ, List.getElem_toArray, List.getElem_cons_zero, List.getElem_cons_succ]
              refine wpAnyH_take (i := 35) (oi := _) (v := .bool false) rfl (by kernel_rfl) (by kernel_rfl) (by kernel_rfl) (fun _ _ _ h => h) (Or.inl ⟨by rfl, ?_⟩) hSA ?_
              skip
              · intro W hSW
                try go_simp
                all_goals first | with_reducible rfl | (simp; done) | omega | (simp; omega) | trace_state
              simp only [Act.put, List.setIfInBounds_toArray, List.set_cons_zero, List.set_cons_succ, List.getElem_toArray, List.getElem_cons_zero, List.getElem_cons_succ]
              refine wpAnyH_take (i := 36) (oi := _) (v := .bool false) rfl (by kernel_rfl) (by kernel_rfl) (by kernel_rfl) (fun _ _ _ h => h) (Or.inl ⟨by rfl, ?_⟩) hSA ?_
              skip
              · intro W hSW
                try go_simp
                all_goals first | with_reducible rfl | (simp; done) | omega | (simp; omega) | trace_state
              simp only [Act.put, List.setIfInBounds_toArray, List.set_cons_zero, List.set_cons_succ, List.getElem_toArray, List.getElem_cons_zero, List.getElem_cons_succ]
              refine wpAnyH_take (i := 37) (oi := _) (v := ?_) rfl (by kernel_rfl) (by kernel_rfl) (by kernel_rfl) (fun _ _ _ h => h) (Or.inl ⟨by rfl, ?_⟩) hSA ?_
              rotate_left
              · intro W hSW
                try go_simp
                all_goals with_reducible rfl
              simp only [Act.put, List.setIfInBounds_toArray, List.set_cons_zero, List.set_cons_succ, List.getElem_toArray, List.getElem_cons_zero, List.getElem_cons_succ]
              refine wpAnyH_take (i := 40) (oi := _) (v := ?_) rfl (by kernel_rfl) (by kernel_rfl) (by kernel_rfl) (fun _ _ _ h => h) (Or.inl ⟨by rfl, ?_⟩) hSA ?_
              rotate_left
              · intro W hSW
                try go_simp
                all_goals with_reducible rfl
              simp only [Act.put, List.setIfInBounds_toArray, List.set_cons_zero, List.set_cons_succ, List.getElem_toArray, List.getElem_cons_zero, List.getElem_cons_succ]
              refine wpAnyH_take (i := 41) (oi := _) (v := ?_) rfl (by kernel_rfl) (by kernel_rfl) (by kernel_rfl) (fun _ _ _ h => h) (Or.inl ⟨by rfl, ?_⟩) hSA ?_
              rotate_left
              · intro W hSW
                have cv := HCR.out W _ (HWZ.out W (hzA.transX hSW))
                try go_simp
                all_goals with_reducible rfl
              simp only [Act.put, List.setIfInBounds_toArray, List.set_cons_zero, List.set_cons_succ, List.getElem_toArray, List.getElem_cons_zero, List.getElem_cons_succ]
              refine wpAnyH_ready (rs := [38]) (by kernel_rfl) (by simp) (AllReadyH.cons rfl (fun K hK => ?_) AllReadyH.nil)
              have DT := Lib.hid (HRT.out wA (BQ7.out.trans (Below.mono hqA BQ7.out.size)))
              go_simp
              go_wp2_with ((go_at_call 21; (with_reducible refine DT.out.mono ?_); rintro e wT ⟨vT, rfl, hoT, hbT⟩))
              have hqT := below_chain hqA hqA.size hbT
              have hkT := Kept.of_belowX hbT
              have hzT := hzA.transX hkT
              refine hK.out _ _ hkT (fun _ => ?_)
              clear hK K DT
              refine wpAnyH_stronger (S' := KepS wT) (fun W h => hkT.transX h) _ _ _ _ ?_
              have hST : KepS wT wT := KepS.refl wT
              refine wpAnyH_take (i := 39) (oi := _) (v := ?_) rfl (by kernel_rfl) (by kernel_rfl) (by kernel_rfl) (fun _ _ _ h => h) (Or.inl ⟨by rfl, ?_⟩) hST ?_
              rotate_left
              · intro W hSW
                have cv := HCR.out W _ (hSW.rd hoT.rd)
                try go_simp
                all_goals with_reducible rfl
              simp only [Act.put, List.setIfInBounds_toArray, List.set_cons_zero, List.set_cons_succ, List.getElem_toArray, List.getElem_cons_zero, List.getElem_cons_succ]
              refine wpAnyH_take (i := 42) (oi := _) (v := .bool false) rfl (by kernel_rfl) (by kernel_rfl) (by kernel_rfl) (fun _ _ _ h => h) (Or.inl ⟨by rfl, ?_⟩) hST ?_
              skip
              · intro W hSW
                try go_simp
                all_goals first | with_reducible rfl | (simp; done) | omega | (simp; omega) | trace_state
              simp only [Act.put, List.setIfInBounds_toArray, List.set_cons_zero, List.set_cons_succ, List.getElem_toArray, List.getElem_cons_zero, List.getElem_cons_succ]
              refine wpAnyH_take (i := 43) (oi := _) (v := .bool false) rfl (by kernel_rfl) (by kernel_rfl) (by kernel_rfl) (fun _ _ _ h => h) (Or.inl ⟨by rfl, ?_⟩) hST ?_
              skip
              · intro W hSW
                try go_simp
                all_goals first | with_reducible rfl | (simp; done) | omega | (simp; omega) | trace_state
              simp only [Act.put, List.setIfInBounds_toArray, List.set_cons_zero, List.set_cons_succ, List.getElem_toArray, List.getElem_cons_zero, List.getElem_cons_succ]
              refine wpAnyH_done (by kernel_rfl) ?_ _
              have hfin := HLS.out _ (BQ7.out.trans (Below.mono hqT BQ7.out.size))
              clear HLS HRT HCR HCF HMV HMA HVE HAE BQ7 HK7 HWZ
              go_wp2_with fail
              exact ⟨⟨j + 1, by omega, by simp, hfin⟩, by simp [intOf]; omega⟩
            · have z2 : (EA == 0) = false := by simpa using e2
              clear HSV HSA HM1 HM2
              go_wp2_with fail
              refine wp_region_held_drew (S := KepS w7.drew) (by kernel_rfl) (KepS.refl _) (fun hS0 => ?_)
              refine wpAnyH_take (i := 0) (oi := _) (v := ?_) rfl (by kernel_rfl) (by kernel_rfl) (by kernel_rfl) (fun _ _ _ h => h) (Or.inl ⟨by rfl, ?_⟩) hS0 ?_
              rotate_left
              · intro W hSW
                try go_simp
                all_goals with_reducible rfl
              simp only [Act.put, List.setIfInBounds_toArray, List.set_cons_zero, List.set_cons_succ, List.getElem_toArray, List.getElem_cons_zero, List.getElem_cons_succ]
              refine wpAnyH_take (i := 1) (oi := _) (v := .bool true) rfl (by kernel_rfl) (by kernel_rfl) (by kernel_rfl) (fun _ _ _ h => h) (Or.inl ⟨by rfl, ?_⟩) hS0 ?_
              skip
              · intro W hSW
                try go_simp
                all_goals first | with_reducible rfl | (simp; done) | omega | (simp; omega) | trace_state
              simp only [Act.put, List.setIfInBounds_toArray, List.set_cons_zero, List.set_cons_succ, List.getElem_toArray, List.getElem_cons_zero, List.getElem_cons_succ]
              refine wpAnyH_take (i := 2) (oi := _) (v := .bool true) rfl (by kernel_rfl) (by kernel_rfl) (by kernel_rfl) (fun _ _ _ h => h) (Or.inl ⟨by rfl, ?_⟩) hS0 ?_
              skip
              · intro W hSW
                try go_simp
                all_goals first | with_reducible rfl | (simp; done) | omega | (simp; omega) | trace_state
              simp only [Act.put, List.setIfInBounds_toArray, List.set_cons_zero, List.set_cons_succ, List.getElem_toArray, List.getElem_cons_zero, List.getElem_cons_succ]
              refine wpAnyH_take (i := 3) (oi := _) (v := ?_) rfl (by kernel_rfl) (by kernel_rfl) (by kernel_rfl) (fun _ _ _ h => h) (Or.inl ⟨by rfl, ?_⟩) hS0 ?_
              rotate_left
              · intro W hSW
                try go_simp
                all_goals with_reducible rfl
              simp only [Act.put, List.setIfInBounds_toArray, List.set_cons_zero, List.set_cons_succ, List.getElem_toArray, List.getElem_cons_zero, List.getElem_cons_succ]
              refine wpAnyH_take (i := 4) (oi := _) (v := .bool false) rfl (by kernel_rfl) (by kernel_rfl) (by kernel_rfl) (fun _ _ _ h => h) (Or.inl ⟨by rfl, ?_⟩) hS0 ?_
              skip
              · intro W hSW
                try go_simp
                all_goals first | with_reducible rfl | (simp; done) | omega | (simp; omega) | trace_state
              simp only [Act.put, List.setIfInBounds_toArray, List.set_cons_zero, List.set_cons_succ, List.getElem_toArray, List.getElem_cons_zero, List.getElem_cons_succ]
              refine wpAnyH_take (i := 5) (oi := _) (v := .bool false) rfl (by kernel_rfl) (by kernel_rfl) (by kernel_rfl) (fun _ _ _ h => h) (Or.inl ⟨by rfl, ?_⟩) hS0 ?_
              skip
              · intro W hSW
                try go_simp
                all_goals first | with_reducible rfl | (simp; done) | omega | (simp; omega) | trace_state
              simp only [Act.put, List.setIfInBounds_toArray, List.set_cons_zero, List.set_cons_succ, List.getElem_toArray, List.getElem_cons_zero, List.getElem_cons_succ]
              refine wpAnyH_take (i := 6) (oi := _) (v := ?_) rfl (by kernel_rfl) (by kernel_rfl) (by kernel_rfl) (fun _ _ _ h => h) (Or.inl ⟨by rfl, ?_⟩) hS0 ?_
              rotate_left
              · intro W hSW
                try go_simp
                all_goals with_reducible rfl
              simp only [Act.put, List.setIfInBounds_toArray, List.set_cons_zero, List.set_cons_succ, List.getElem_toArray, List.getElem_cons_zero, List.getElem_cons_succ]
              refine wpAnyH_take (i := 7) (oi := _) (v := ?_) rfl (by kernel_rfl) (by kernel_rfl) (by kernel_rfl) (fun _ _ _ h => h) (Or.inl ⟨by rfl, ?_⟩) hS0 ?_
              rotate_left
              · intro W hSW
                obtain ⟨r1, r2⟩ := HTB7.out W (hkd.transX hSW)
                try go_simp
                all_goals with_reducible rfl
              simp only [Act.put, List.setIfInBounds_toArray, List.set_cons_zero, List.set_cons_succ, List.getElem_toArray, List.getElem_cons_zero, List.getElem_cons_succ]
              refine wpAnyH_take (i := 8) (oi := _) (v := ?_) rfl (by kernel_rfl) (by kernel_rfl) (by kernel_rfl) (fun _ _ _ h => h) (Or.inl ⟨by rfl, ?_⟩) hS0 ?_
              rotate_left
              · intro W hSW
                try go_simp
                all_goals with_reducible rfl
              simp only [Act.put, List.setIfInBounds_toArray, List.set_cons_zero, List.set_cons_succ, List.getElem_toArray, List.getElem_cons_zero, List.getElem_cons_succ]
              refine wpAnyH_take (i := 9) (oi := _) (v := ?_) rfl (by kernel_rfl) (by kernel_rfl) (by kernel_rfl) (fun _ _ _ h => h) (Or.inl ⟨by rfl, ?_⟩) hS0 ?_
              rotate_left
              · intro W hSW
                obtain ⟨k1, k2, k3, k4, k5, k6⟩ := HCF.out W (HK7.out.transX (hkd.transX hSW))
                try go_simp
                all_goals with_reducible rfl
              simp only [Act.put, List.setIfInBounds_toArray, List.set_cons_zero, List.set_cons_succ, List.getElem_toArray, List.getElem_cons_zero, List.getElem_cons_succ]
              refine wpAnyH_take (i := 10) (oi := _) (v := ?_) rfl (by kernel_rfl) (by kernel_rfl) (by kernel_rfl) (fun _ _ _ h => h) (Or.inl ⟨by rfl, ?_⟩) hS0 ?_
              rotate_left
              · intro W hSW
                try go_simp
                all_goals with_reducible rfl
              simp only [Act.put, List.setIfInBounds_toArray, List.set_cons_zero, List.set_cons_succ, List.getElem_toArray, List.getElem_cons_zero, List.getElem_cons_succ]
              refine wpAnyH_take (i := 11) (oi := _) (v := ?_) rfl (by kernel_rfl) (by kernel_rfl) (by kernel_rfl) (fun _ _ _ h => h) (Or.inl ⟨by rfl, ?_⟩) hS0 ?_
              rotate_left
              · intro W hSW
                obtain ⟨k1, k2, k3, k4, k5, k6⟩ := HCF.out W (HK7.out.transX (hkd.transX hSW))
                try go_simp
                all_goals with_reducible rfl
              simp only [Act.put, List.setIfInBounds_toArray, List.set_cons_zero, List.set_cons_succ, List.getElem_toArray, List.getElem_cons_zero, List.getElem_cons_succ]
              refine wpAnyH_take (i := 12) (oi := _) (v := ?_) rfl (by kernel_rfl) (by kernel_rfl) (by kernel_rfl) (fun _ _ _ h => h) (Or.inl ⟨by rfl, ?_⟩) hS0 ?_
              rotate_left
              · intro W hSW
                try go_simp
                all_goals with_reducible rfl
              simp only [Act.put, List.setIfInBounds_toArray, List.set_cons_zero, List.set_cons_succ, List.getElem_toArray, List.getElem_cons_zero, List.getElem_cons_succ]
              refine wpAnyH_take (i := 13) (oi := _) (v := ?_) rfl (by kernel_rfl) (by kernel_rfl) (by kernel_rfl) (fun _ _ _ h => h) (Or.inl ⟨by rfl, ?_⟩) hS0 ?_
              rotate_left
              · intro W hSW
                obtain ⟨k1, k2, k3, k4, k5, k6⟩ := HCF.out W (HK7.out.transX (hkd.transX hSW))
                try go_simp
                all_goals with_reducible rfl
              simp only [Act.put, List.setIfInBounds_toArray, List.set_cons_zero, List.set_cons_succ, List.getElem_toArray, List.getElem_cons_zero, List.getElem_cons_succ]
              refine wpAnyH_ready (rs := [14]) (by kernel_rfl) (by simp) (AllReadyH.cons rfl (fun K hK => ?_) AllReadyH.nil)
              have DV := Lib.hid (HMV7.out w7.drew hbd)
              go_simp
              go_wp2_with ((go_at_call 22; (with_reducible refine DV.out.mono ?_); rintro e wV ⟨rfl, hbV⟩))
              have hqV := below_chain hbd hbd.size hbV
              have hkV := Kept.of_belowX hbV
              have hzV := hkd.transX hkV
              refine hK.out _ _ hkV (fun _ => ?_)
              clear hK K DV
              refine wpAnyH_stronger (S' := KepS wV) (fun W h => hkV.transX h) _ _ _ _ ?_
              have hSV : KepS wV wV := KepS.refl wV
              refine wpAnyH_take (i := 15) (oi := _) (v := .bool false) rfl (by kernel_rfl) (by kernel_rfl) (by kernel_rfl) (fun _ _ _ h => h) (Or.inl ⟨by rfl, ?_⟩) hSV ?_
              skip
              · intro W hSW
                try go_simp
                all_goals first | with_reducible rfl | (simp; done) | omega | (simp; omega) | trace_state
              simp only [Act.put, List.setIfInBounds_toArray, List.set_cons_zero, List.set_cons_succ, List.getElem_toArray, List.getElem_cons_zero, List.getElem_cons_succ]
              refine wpAnyH_take (i := 16) (oi := _) (v := .bool false) rfl (by kernel_rfl) (by kernel_rfl) (by kernel_rfl) (fun _ _ _ h => h) (Or.inl ⟨by rfl, ?_⟩) hSV ?_
              skip
              · intro W hSW
                try go_simp
                all_goals first | with_reducible rfl | (simp; done) | omega | (simp; omega) | trace_state
              simp only [Act.put, List.setIfInBounds_toArray, List.set_cons_zero, List.set_cons_succ, List.getElem_toArray, List.getElem_cons_zero, List.getElem_cons_succ]
              refine wpAnyH_take (i := 17) (oi := _) (v := .bool false) rfl (by kernel_rfl) (by kernel_rfl) (by kernel_rfl) (fun _ _ _ h => h) (Or.inl ⟨by rfl, ?_⟩) hSV ?_
              skip
              · intro W hSW
                try go_simp
                all_goals first | with_reducible rfl | (simp; done) | omega | (simp; omega) | trace_state
              simp only [Act.put, List.setIfInBounds_toArray, List.set_cons_zero, List.set_cons_succ, List.getElem_toArray, List.getElem_cons_zero, List.getElem_cons_succ]
              refine wpAnyH_take (i := 18) (oi := _) (v := .bool false) rfl (by kernel_rfl) (by kernel_rfl) (by kernel_rfl) (fun _ _ _ h => h) (Or.inl ⟨by rfl, ?_⟩) hSV ?_
              skip
              · intro W hSW
                try go_simp
                all_goals first | with_reducible rfl | (simp; done) | omega | (simp; omega) | trace_state
              simp only [Act.put, List.setIfInBounds_toArray, List.set_cons_zero, List.set_cons_succ, List.getElem_toArray, List.getElem_cons_zero, List.getElem_cons_succ]
              refine wpAnyH_take (i := 19) (oi := _) (v := ?_) rfl (by kernel_rfl) (by kernel_rfl) (by kernel_rfl) (fun _ _ _ h => h) (Or.inl ⟨by rfl, ?_⟩) hSV ?_
              rotate_left
              · intro W hSW
                try go_simp
                all_goals with_reducible rfl
              simp only [Act.put, List.setIfInBounds_toArray, List.set_cons_zero, List.set_cons_succ, List.getElem_toArray, List.getElem_cons_zero, List.getElem_cons_succ]
              refine wpAnyH_take (i := 20) (oi := _) (v := .bool false) rfl (by kernel_rfl) (by kernel_rfl) (by kernel_rfl) (fun _ _ _ h => h) (Or.inl ⟨by rfl, ?_⟩) hSV ?_
              skip
              · intro W hSW
                try go_simp
                all_goals first | with_reducible rfl | (simp; done) | omega | (simp; omega) | trace_state
              simp only [Act.put, List.setIfInBounds_toArray, List.set_cons_zero, List.set_cons_succ, List.getElem_toArray, List.getElem_cons_zero, List.getElem_cons_succ]
              refine wpAnyH_take (i := 21) (oi := _) (v := .bool false) rfl (by kernel_rfl) (by kernel_rfl) (by kernel_rfl) (fun _ _ _ h => h) (Or.inl ⟨by rfl, ?_⟩) hSV ?_
              skip
              · intro W hSW
                try go_simp
                all_goals first | with_reducible rfl | (simp; done) | omega | (simp; omega) | trace_state
              simp only [Act.put, List.setIfInBounds_toArray, List.set_cons_zero, List.set_cons_succ, List.getElem_toArray, List.getElem_cons_zero, List.getElem_cons_succ]
              refine wpAnyH_take (i := 22) (oi := _) (v := undef) rfl (by kernel_rfl) (by kernel_rfl) (by kernel_rfl) (fun _ _ _ h => h) (Or.inr ⟨by rfl, rfl⟩) hSV ?_
              simp only [Act.put, List.setIfInBounds_toArray, List.set_cons_zero, List.set_cons_succ, List.getElem_toArray, List.getElem_cons_zero, List.getElem_cons_succ]
              refine wpAnyH_take (i := 23) (oi := _) (v := undef) rfl (by kernel_rfl) (by kernel_rfl) (by kernel_rfl) (fun _ _ _ h => h) (Or.inr ⟨by rfl, rfl⟩) hSV ?_
              simp only [Act.put, List.setIfInBounds_toArray, List.set_cons_zero, List.set_cons_succ, List.getElem_toArray, List.getElem_cons_zero, List.getElem_cons_succ]
              refine wpAnyH_take (i := 24) (oi := _) (v := undef) rfl (by kernel_rfl) (by kernel_rfl) (by kernel_rfl) (fun _ _ _ h => h) (Or.inr ⟨by rfl, rfl⟩) hSV ?_
              simp only [Act.put, List.setIfInBounds_toArray, List.set_cons_zero, List.set_cons_succ, List.getElem_toArray, List.getElem_cons_zero, List.getElem_cons_succ]
              refine wpAnyH_take (i := 25) (oi := _) (v := undef) rfl (by kernel_rfl) (by kernel_rfl) (by kernel_rfl) (fun _ _ _ h => h) (Or.inr ⟨by rfl, rfl⟩) hSV ?_
              simp only [Act.put, List.setIfInBounds_toArray, List.set_cons_zero, List.set_cons_succ, List.getElem_toArray, List.getElem_cons_zero, List.getElem_cons_succ]
              refine wpAnyH_take (i := 26) (oi := _) (v := undef) rfl (by kernel_rfl) (by kernel_rfl) (by kernel_rfl) (fun _ _ _ h => h) (Or.inr ⟨by rfl, rfl⟩) hSV ?_
              simp only [Act.put, List.setIfInBounds_toArray, List.set_cons_zero, List.set_cons_succ, List.getElem_toArray, List.getElem_cons_zero, List.getElem_cons_succ]
              refine wpAnyH_take (i := 27) (oi := _) (v := undef) rfl (by kernel_rfl) (by kernel_rfl) (by kernel_rfl) (fun _ _ _ h => h) (Or.inr ⟨by rfl, rfl⟩) hSV ?_
              simp only [Act.put, List.setIfInBounds_toArray, List.set_cons_zero, List.set_cons_succ, List.getElem_toArray, List.getElem_cons_zero, List.getElem_cons_succ]
              refine wpAnyH_take (i := 28) (oi := _) (v := undef) rfl (by kernel_rfl) (by kernel_rfl) (by kernel_rfl) (fun _ _ _ h => h) (Or.inr ⟨by rfl, rfl⟩) hSV ?_
              simp only [Act.put, List.setIfInBounds_toArray, List.set_cons_zero, List.set_cons_succ, List.getElem_toArray, List.getElem_cons_zero, List.getElem_cons_succ]
              refine wpAnyH_take (i := 29) (oi := _) (v := undef) rfl (by kernel_rfl) (by kernel_rfl) (by kernel_rfl) (fun _ _ _ h => h) (Or.inr ⟨by rfl, rfl⟩) hSV ?_
              simp only [Act.put, List.setIfInBounds_toArray, List.set_cons_zero, List.set_cons_succ, List.getElem_toArray, List.getElem_cons_zero, List.getElem_cons_succ]
              refine wpAnyH_take (i := 30) (oi := _) (v := undef) rfl (by kernel_rfl) (by kernel_rfl) (by kernel_rfl) (fun _ _ _ h => h) (Or.inr ⟨by rfl, rfl⟩) hSV ?_
              simp only [Act.put, List.setIfInBounds_toArray, List.set_cons_zero, List.set_cons_succ, List.getElem_toArray, List.getElem_cons_zero, List.getElem_cons_succ]
              refine wpAnyH_take (i := 31) (oi := _) (v := undef) rfl (by kernel_rfl) (by kernel_rfl) (by kernel_rfl) (fun _ _ _ h => h) (Or.inr ⟨by rfl, rfl⟩) hSV ?_
              simp only [Act.put, List.setIfInBounds_toArray, List.set_cons_zero, List.set_cons_succ, List.getElem_toArray, List.getElem_cons_zero, List.getElem_cons_succ]
              refine wpAnyH_take (i := 32) (oi := _) (v := undef) rfl (by kernel_rfl) (by kernel_rfl) (by kernel_rfl) (fun _ _ _ h => h) (Or.inr ⟨by rfl, rfl⟩) hSV ?_
              simp only [Act.put, List.setIfInBounds_toArray, List.set_cons_zero, List.set_cons_succ, List.getElem_toArray, List.getElem_cons_zero, List.getElem_cons_succ]
              refine wpAnyH_take (i := 33) (oi := _) (v := undef) rfl (by kernel_rfl) (by kernel_rfl) (by kernel_rfl) (fun _ _ _ h => h) (Or.inr ⟨by rfl, rfl⟩) hSV ?_
              simp only [Act.put, List.setIfInBounds_toArray, List.set_cons_zero, List.set_cons_succ, List.getElem_toArray, List.getElem_cons_zero, List.getElem_cons_succ]
              refine wpAnyH_take (i := 34) (oi := _) (v := .bool false) rfl (by kernel_rfl) (by kernel_rfl) (by kernel_rfl) (fun _ _ _ h => h) (Or.inl ⟨by rfl, ?_⟩) hSV ?_
              skip
              · intro W hSW
                try go_simp
                all_goals first | with_reducible rfl | (simp; done) | omega | (simp; omega) | trace_state
              simp only [Act.put, List.setIfInBounds_toArray, List.set_cons_zero, List.set_cons_succ, List.getElem_toArray, List.getElem_cons_zero, List.getElem_cons_succ]
              refine wpAnyH_take (i := 35) (oi := _) (v := .bool false) rfl (by kernel_rfl) (by kernel_rfl) (by kernel_rfl) (fun _ _ _ h => h) (Or.inl ⟨by rfl, ?_⟩) hSV ?_
              skip
              · intro W hSW
                try go_simp
                all_goals first | with_reducible rfl | (simp; done) | omega | (simp; omega) | trace_state
              simp only [Act.put, List.setIfInBounds_toArray, List.set_cons_zero, List.set_cons_succ, List.getElem_toArray, List.getElem_cons_zero, List.getElem_cons_succ]
              refine wpAnyH_take (i := 36) (oi := _) (v := .bool false) rfl (by kernel_rfl) (by kernel_rfl) (by kernel_rfl) (fun _ _ _ h => h) (Or.inl ⟨by rfl, ?_⟩) hSV ?_
              skip
              · intro W hSW
                try go_simp
                all_goals first | with_reducible rfl | (simp; done) | omega | (simp; omega) | trace_state
              simp only [Act.put, List.setIfInBounds_toArray, List.set_cons_zero, List.set_cons_succ, List.getElem_toArray, List.getElem_cons_zero, List.getElem_cons_succ]
              refine wpAnyH_take (i := 37) (oi := _) (v := ?_) rfl (by kernel_rfl) (by kernel_rfl) (by kernel_rfl) (fun _ _ _ h => h) (Or.inl ⟨by rfl, ?_⟩) hSV ?_
              rotate_left
              · intro W hSW
                try go_simp
                all_goals with_reducible rfl
              simp only [Act.put, List.setIfInBounds_toArray, List.set_cons_zero, List.set_cons_succ, List.getElem_toArray, List.getElem_cons_zero, List.getElem_cons_succ]
              refine wpAnyH_take (i := 40) (oi := _) (v := ?_) rfl (by kernel_rfl) (by kernel_rfl) (by kernel_rfl) (fun _ _ _ h => h) (Or.inl ⟨by rfl, ?_⟩) hSV ?_
              rotate_left
              · intro W hSW
                try go_simp
                all_goals with_reducible rfl
              simp only [Act.put, List.setIfInBounds_toArray, List.set_cons_zero, List.set_cons_succ, List.getElem_toArray, List.getElem_cons_zero, List.getElem_cons_succ]
              refine wpAnyH_take (i := 41) (oi := _) (v := ?_) rfl (by kernel_rfl) (by kernel_rfl) (by kernel_rfl) (fun _ _ _ h => h) (Or.inl ⟨by rfl, ?_⟩) hSV ?_
              rotate_left
              · intro W hSW
                have cv := HCR.out W _ (HWZ.out W (hzV.transX hSW))
                try go_simp
                all_goals with_reducible rfl
              simp only [Act.put, List.setIfInBounds_toArray, List.set_cons_zero, List.set_cons_succ, List.getElem_toArray, List.getElem_cons_zero, List.getElem_cons_succ]
              refine wpAnyH_ready (rs := [38]) (by kernel_rfl) (by simp) (AllReadyH.cons rfl (fun K hK => ?_) AllReadyH.nil)
              have DT := Lib.hid (HRT.out wV (BQ7.out.trans (Below.mono hqV BQ7.out.size)))
              go_simp
              go_wp2_with ((go_at_call 21; (with_reducible refine DT.out.mono ?_); rintro e wT ⟨vT, rfl, hoT, hbT⟩))
              have hqT := below_chain hqV hqV.size hbT
              have hkT := Kept.of_belowX hbT
              have hzT := hzV.transX hkT
              refine hK.out _ _ hkT (fun _ => ?_)
              clear hK K DT
              refine wpAnyH_stronger (S' := KepS wT) (fun W h => hkT.transX h) _ _ _ _ ?_
              have hST : KepS wT wT := KepS.refl wT
              refine wpAnyH_take (i := 39) (oi := _) (v := ?_) rfl (by kernel_rfl) (by kernel_rfl) (by kernel_rfl) (fun _ _ _ h => h) (Or.inl ⟨by rfl, ?_⟩) hST ?_
              rotate_left
              · intro W hSW
                have cv := HCR.out W _ (hSW.rd hoT.rd)
                try go_simp
                all_goals with_reducible rfl
              simp only [Act.put, List.setIfInBounds_toArray, List.set_cons_zero, List.set_cons_succ, List.getElem_toArray, List.getElem_cons_zero, List.getElem_cons_succ]
              refine wpAnyH_take (i := 42) (oi := _) (v := .bool false) rfl (by kernel_rfl) (by kernel_rfl) (by kernel_rfl) (fun _ _ _ h => h) (Or.inl ⟨by rfl, ?_⟩) hST ?_
              skip
              · intro W hSW
                try go_simp
                all_goals first | with_reducible rfl | (simp; done) | omega | (simp; omega) | trace_state
              simp only [Act.put, List.setIfInBounds_toArray, List.set_cons_zero, List.set_cons_succ, List.getElem_toArray, List.getElem_cons_zero, List.getElem_cons_succ]
              refine wpAnyH_take (i := 43) (oi := _) (v := .bool false) rfl (by kernel_rfl) (by kernel_rfl) (by kernel_rfl) (fun _ _ _ h => h) (Or.inl ⟨by rfl, ?_⟩) hST ?_
              skip
              · intro W hSW
                try go_simp
                all_goals first | with_reducible rfl | (simp; done) | omega | (simp; omega) | trace_state
              simp only [Act.put, List.setIfInBounds_toArray, List.set_cons_zero, List.set_cons_succ, List.getElem_toArray, List.getElem_cons_zero, List.getElem_cons_succ]
              refine wpAnyH_done (by kernel_rfl) ?_ _
              have hfin := HLS.out _ (BQ7.out.trans (Below.mono hqT BQ7.out.size))
              clear HLS HRT HCR HCF HMV HMA HVE HAE BQ7 HK7 HWZ
              go_wp2_with fail
              exact ⟨⟨j + 1, by omega, by simp, hfin⟩, by simp [intOf]; omega⟩
          · have z1 : (EV == 0) = false := by simpa using e1
            by_cases e2 : EA = 0
            · subst e2
              obtain ⟨u2, hu2, ht2⟩ := HSA.out rfl
              injection hu2 with hu2
              subst hu2
              have HMA7 := HM2
              rw [ht2] at HMA7
              clear HSV HSA HM1 HM2
              go_wp2_with fail
              refine wp_region_held_drew (S := KepS w7.drew) (by kernel_rfl) (KepS.refl _) (fun hS0 => ?_)
              refine wpAnyH_take (i := 0) (oi := _) (v := ?_) rfl (by kernel_rfl) (by kernel_rfl) (by kernel_rfl) (fun _ _ _ h => h) (Or.inl ⟨by rfl, ?_⟩) hS0 ?_
              rotate_left
              · intro W hSW
                try go_simp
                all_goals with_reducible rfl
              simp only [Act.put, List.setIfInBounds_toArray, List.set_cons_zero, List.set_cons_succ, List.getElem_toArray, List.getElem_cons_zero, List.getElem_cons_succ]
              refine wpAnyH_take (i := 1) (oi := _) (v := .bool false) rfl (by kernel_rfl) (by kernel_rfl) (by kernel_rfl) (fun _ _ _ h => h) (Or.inl ⟨by rfl, ?_⟩) hS0 ?_
              skip
              · intro W hSW
                try go_simp
                all_goals first | with_reducible rfl | (simp; done) | omega | (simp; omega) | trace_state
              simp only [Act.put, List.setIfInBounds_toArray, List.set_cons_zero, List.set_cons_succ, List.getElem_toArray, List.getElem_cons_zero, List.getElem_cons_succ]
              refine wpAnyH_take (i := 2) (oi := _) (v := .bool false) rfl (by kernel_rfl) (by kernel_rfl) (by kernel_rfl) (fun _ _ _ h => h) (Or.inl ⟨by rfl, ?_⟩) hS0 ?_
              skip
              · intro W hSW
                try go_simp
                all_goals first | with_reducible rfl | (simp; done) | omega | (simp; omega) | trace_state
              simp only [Act.put, List.setIfInBounds_toArray, List.set_cons_zero, List.set_cons_succ, List.getElem_toArray, List.getElem_cons_zero, List.getElem_cons_succ]
              refine wpAnyH_take (i := 3) (oi := _) (v := undef) rfl (by kernel_rfl) (by kernel_rfl) (by kernel_rfl) (fun _ _ _ h => h) (Or.inr ⟨by rfl, rfl⟩) hS0 ?_
              simp only [Act.put, List.setIfInBounds_toArray, List.set_cons_zero, List.set_cons_succ, List.getElem_toArray, List.getElem_cons_zero, List.getElem_cons_succ]
              refine wpAnyH_take (i := 4) (oi := _) (v := undef) rfl (by kernel_rfl) (by kernel_rfl) (by kernel_rfl) (fun _ _ _ h => h) (Or.inr ⟨by rfl, rfl⟩) hS0 ?_
              simp only [Act.put, List.setIfInBounds_toArray, List.set_cons_zero, List.set_cons_succ, List.getElem_toArray, List.getElem_cons_zero, List.getElem_cons_succ]
              refine wpAnyH_take (i := 5) (oi := _) (v := undef) rfl (by kernel_rfl) (by kernel_rfl) (by kernel_rfl) (fun _ _ _ h => h) (Or.inr ⟨by rfl, rfl⟩) hS0 ?_
              simp only [Act.put, List.setIfInBounds_toArray, List.set_cons_zero, List.set_cons_succ, List.getElem_toArray, List.getElem_cons_zero, List.getElem_cons_succ]
              refine wpAnyH_take (i := 6) (oi := _) (v := undef) rfl (by kernel_rfl) (by kernel_rfl) (by kernel_rfl) (fun _ _ _ h => h) (Or.inr ⟨by rfl, rfl⟩) hS0 ?_
              simp only [Act.put, List.setIfInBounds_toArray, List.set_cons_zero, List.set_cons_succ, List.getElem_toArray, List.getElem_cons_zero, List.getElem_cons_succ]
              refine wpAnyH_take (i := 7) (oi := _) (v := undef) rfl (by kernel_rfl) (by kernel_rfl) (by kernel_rfl) (fun _ _ _ h => h) (Or.inr ⟨by rfl, rfl⟩) hS0 ?_
              simp only [Act.put, List.setIfInBounds_toArray, List.set_cons_zero, List.set_cons_succ, List.getElem_toArray, List.getElem_cons_zero, List.getElem_cons_succ]
              refine wpAnyH_take (i := 8) (oi := _) (v := undef) rfl (by kernel_rfl) (by kernel_rfl) (by kernel_rfl) (fun _ _ _ h => h) (Or.inr ⟨by rfl, rfl⟩) hS0 ?_
              simp only [Act.put, List.setIfInBounds_toArray, List.set_cons_zero, List.set_cons_succ, List.getElem_toArray, List.getElem_cons_zero, List.getElem_cons_succ]
              refine wpAnyH_take (i := 9) (oi := _) (v := undef) rfl (by kernel_rfl) (by kernel_rfl) (by kernel_rfl) (fun _ _ _ h => h) (Or.inr ⟨by rfl, rfl⟩) hS0 ?_
              simp only [Act.put, List.setIfInBounds_toArray, List.set_cons_zero, List.set_cons_succ, List.getElem_toArray, List.getElem_cons_zero, List.getElem_cons_succ]
              refine wpAnyH_take (i := 10) (oi := _) (v := undef) rfl (by kernel_rfl) (by kernel_rfl) (by kernel_rfl) (fun _ _ _ h => h) (Or.inr ⟨by rfl, rfl⟩) hS0 ?_
              simp only [Act.put, List.setIfInBounds_toArray, List.set_cons_zero, List.set_cons_succ, List.getElem_toArray, List.getElem_cons_zero, List.getElem_cons_succ]
              refine wpAnyH_take (i := 11) (oi := _) (v := undef) rfl (by kernel_rfl) (by kernel_rfl) (by kernel_rfl) (fun _ _ _ h => h) (Or.inr ⟨by rfl, rfl⟩) hS0 ?_
              simp only [Act.put, List.setIfInBounds_toArray, List.set_cons_zero, List.set_cons_succ, List.getElem_toArray, List.getElem_cons_zero, List.getElem_cons_succ]
              refine wpAnyH_take (i := 12) (oi := _) (v := undef) rfl (by kernel_rfl) (by kernel_rfl) (by kernel_rfl) (fun _ _ _ h => h) (Or.inr ⟨by rfl, rfl⟩) hS0 ?_
              simp only [Act.put, List.setIfInBounds_toArray, List.set_cons_zero, List.set_cons_succ, List.getElem_toArray, List.getElem_cons_zero, List.getElem_cons_succ]
              refine wpAnyH_take (i := 13) (oi := _) (v := undef) rfl (by kernel_rfl) (by kernel_rfl) (by kernel_rfl) (fun _ _ _ h => h) (Or.inr ⟨by rfl, rfl⟩) hS0 ?_
              simp only [Act.put, List.setIfInBounds_toArray, List.set_cons_zero, List.set_cons_succ, List.getElem_toArray, List.getElem_cons_zero, List.getElem_cons_succ]
              refine wpAnyH_take (i := 14) (oi := _) (v := undef) rfl (by kernel_rfl) (by kernel_rfl) (by kernel_rfl) (fun _ _ _ h => h) (Or.inr ⟨by rfl, rfl⟩) hS0 ?_
              simp only [Act.put, List.setIfInBounds_toArray, List.set_cons_zero, List.set_cons_succ, List.getElem_toArray, List.getElem_cons_zero, List.getElem_cons_succ]
              refine wpAnyH_take (i := 15) (oi := _) (v := undef) rfl (by kernel_rfl) (by kernel_rfl) (by kernel_rfl) (fun _ _ _ h => h) (Or.inr ⟨by rfl, rfl⟩) hS0 ?_
              simp only [Act.put, List.setIfInBounds_toArray, List.set_cons_zero, List.set_cons_succ, List.getElem_toArray, List.getElem_cons_zero, List.getElem_cons_succ]
              refine wpAnyH_take (i := 16) (oi := _) (v := undef) rfl (by kernel_rfl) (by kernel_rfl) (by kernel_rfl) (fun _ _ _ h => h) (Or.inr ⟨by rfl, rfl⟩) hS0 ?_
              simp only [Act.put, List.setIfInBounds_toArray, List.set_cons_zero, List.set_cons_succ, List.getElem_toArray, List.getElem_cons_zero, List.getElem_cons_succ]
              refine wpAnyH_take (i := 17) (oi := _) (v := .bool false) rfl (by kernel_rfl) (by kernel_rfl) (by kernel_rfl) (fun _ _ _ h => h) (Or.inl ⟨by rfl, ?_⟩) hS0 ?_
              skip
              · intro W hSW
                try go_simp
                all_goals first | with_reducible rfl | (simp; done) | omega | (simp; omega) | trace_state
              simp only [Act.put, List.setIfInBounds_toArray, List.set_cons_zero, List.set_cons_succ, List.getElem_toArray, List.getElem_cons_zero, List.getElem_cons_succ]
              refine wpAnyH_take (i := 18) (oi := _) (v := .bool false) rfl (by kernel_rfl) (by kernel_rfl) (by kernel_rfl) (fun _ _ _ h => h) (Or.inl ⟨by rfl, ?_⟩) hS0 ?_
              skip
              · intro W hSW
                try go_simp
                all_goals first | with_reducible rfl | (simp; done) | omega | (simp; omega) | trace_state
              simp only [Act.put, List.setIfInBounds_toArray, List.set_cons_zero, List.set_cons_succ, List.getElem_toArray, List.getElem_cons_zero, List.getElem_cons_succ]
              refine wpAnyH_take (i := 19) (oi := _) (v := ?_) rfl (by kernel_rfl) (by kernel_rfl) (by kernel_rfl) (fun _ _ _ h => h) (Or.inl ⟨by rfl, ?_⟩) hS0 ?_
              rotate_left
              · intro W hSW
                try go_simp
                all_goals with_reducible rfl
              simp only [Act.put, List.setIfInBounds_toArray, List.set_cons_zero, List.set_cons_succ, List.getElem_toArray, List.getElem_cons_zero, List.getElem_cons_succ]
              refine wpAnyH_take (i := 20) (oi := _) (v := .bool true) rfl (by kernel_rfl) (by kernel_rfl) (by kernel_rfl) (fun _ _ _ h => h) (Or.inl ⟨by rfl, ?_⟩) hS0 ?_
              skip
              · intro W hSW
                try go_simp
                all_goals first | with_reducible rfl | (simp; done) | omega | (simp; omega) | trace_state
              simp only [Act.put, List.setIfInBounds_toArray, List.set_cons_zero, List.set_cons_succ, List.getElem_toArray, List.getElem_cons_zero, List.getElem_cons_succ]
              refine wpAnyH_take (i := 21) (oi := _) (v := .bool true) rfl (by kernel_rfl) (by kernel_rfl) (by kernel_rfl) (fun _ _ _ h => h) (Or.inl ⟨by rfl, ?_⟩) hS0 ?_
              skip
              · intro W hSW
                try go_simp
                all_goals first | with_reducible rfl | (simp; done) | omega | (simp; omega) | trace_state
              simp only [Act.put, List.setIfInBounds_toArray, List.set_cons_zero, List.set_cons_succ, List.getElem_toArray, List.getElem_cons_zero, List.getElem_cons_succ]
              refine wpAnyH_take (i := 22) (oi := _) (v := ?_) rfl (by kernel_rfl) (by kernel_rfl) (by kernel_rfl) (fun _ _ _ h => h) (Or.inl ⟨by rfl, ?_⟩) hS0 ?_
              rotate_left
              · intro W hSW
                try go_simp
                all_goals with_reducible rfl
              simp only [Act.put, List.setIfInBounds_toArray, List.set_cons_zero, List.set_cons_succ, List.getElem_toArray, List.getElem_cons_zero, List.getElem_cons_succ]
              refine wpAnyH_take (i := 23) (oi := _) (v := .bool false) rfl (by kernel_rfl) (by kernel_rfl) (by kernel_rfl) (fun _ _ _ h => h) (Or.inl ⟨by rfl, ?_⟩) hS0 ?_
              skip
              · intro W hSW
                try go_simp
                all_goals first | with_reducible rfl | (simp; done) | omega | (simp; omega) | trace_state
              simp only [Act.put, List.setIfInBounds_toArray, List.set_cons_zero, List.set_cons_succ, List.getElem_toArray, List.getElem_cons_zero, List.getElem_cons_succ]
              refine wpAnyH_take (i := 24) (oi := _) (v := .bool false) rfl (by kernel_rfl) (by kernel_rfl) (by kernel_rfl) (fun _ _ _ h => h) (Or.inl ⟨by rfl, ?_⟩) hS0 ?_
              skip
              · intro W hSW
                try go_simp
                all_goals first | with_reducible rfl | (simp; done) | omega | (simp; omega) | trace_state
              simp only [Act.put, List.setIfInBounds_toArray, List.set_cons_zero, List.set_cons_succ, List.getElem_toArray, List.getElem_cons_zero, List.getElem_cons_succ]
              refine wpAnyH_take (i := 25) (oi := _) (v := ?_) rfl (by kernel_rfl) (by kernel_rfl) (by kernel_rfl) (fun _ _ _ h => h) (Or.inl ⟨by rfl, ?_⟩) hS0 ?_
              rotate_left
              · intro W hSW
                try go_simp
                all_goals with_reducible rfl
              simp only [Act.put, List.setIfInBounds_toArray, List.set_cons_zero, List.set_cons_succ, List.getElem_toArray, List.getElem_cons_zero, List.getElem_cons_succ]
              refine wpAnyH_take (i := 26) (oi := _) (v := ?_) rfl (by kernel_rfl) (by kernel_rfl) (by kernel_rfl) (fun _ _ _ h => h) (Or.inl ⟨by rfl, ?_⟩) hS0 ?_
              rotate_left
              · intro W hSW
                obtain ⟨r1, r2⟩ := HTB7.out W (hkd.transX hSW)
                try go_simp
                all_goals with_reducible rfl
              simp only [Act.put, List.setIfInBounds_toArray, List.set_cons_zero, List.set_cons_succ, List.getElem_toArray, List.getElem_cons_zero, List.getElem_cons_succ]
              refine wpAnyH_take (i := 27) (oi := _) (v := ?_) rfl (by kernel_rfl) (by kernel_rfl) (by kernel_rfl) (fun _ _ _ h => h) (Or.inl ⟨by rfl, ?_⟩) hS0 ?_
              rotate_left
              · intro W hSW
                try go_simp
                all_goals with_reducible rfl
              simp only [Act.put, List.setIfInBounds_toArray, List.set_cons_zero, List.set_cons_succ, List.getElem_toArray, List.getElem_cons_zero, List.getElem_cons_succ]
              refine wpAnyH_take (i := 28) (oi := _) (v := ?_) rfl (by kernel_rfl) (by kernel_rfl) (by kernel_rfl) (fun _ _ _ h => h) (Or.inl ⟨by rfl, ?_⟩) hS0 ?_
              rotate_left
              · intro W hSW
                obtain ⟨k1, k2, k3, k4, k5, k6⟩ := HCF.out W (HK7.out.transX (hkd.transX hSW))
                try go_simp
                all_goals with_reducible rfl
              simp only [Act.put, List.setIfInBounds_toArray, List.set_cons_zero, List.set_cons_succ, List.getElem_toArray, List.getElem_cons_zero, List.getElem_cons_succ]
              refine wpAnyH_take (i := 29) (oi := _) (v := ?_) rfl (by kernel_rfl) (by kernel_rfl) (by kernel_rfl) (fun _ _ _ h => h) (Or.inl ⟨by rfl, ?_⟩) hS0 ?_
              rotate_left
              · intro W hSW
                try go_simp
                all_goals with_reducible rfl
              simp only [Act.put, List.setIfInBounds_toArray, List.set_cons_zero, List.set_cons_succ, List.getElem_toArray, List.getElem_cons_zero, List.getElem_cons_succ]
              refine wpAnyH_take (i := 30) (oi := _) (v := ?_) rfl (by kernel_rfl) (by kernel_rfl) (by kernel_rfl) (fun _ _ _ h => h) (Or.inl ⟨by rfl, ?_⟩) hS0 ?_
              rotate_left
              · intro W hSW
                obtain ⟨k1, k2, k3, k4, k5, k6⟩ := HCF.out W (HK7.out.transX (hkd.transX hSW))
                try go_simp
                all_goals with_reducible rfl
              simp only [Act.put, List.setIfInBounds_toArray, List.set_cons_zero, List.set_cons_succ, List.getElem_toArray, List.getElem_cons_zero, List.getElem_cons_succ]
              refine wpAnyH_ready (rs := [31]) (by kernel_rfl) (by simp) (AllReadyH.cons rfl (fun K hK => ?_) AllReadyH.nil)
              have DA := Lib.hid (HMA7.out w7.drew hbd)
              go_simp
              go_wp2_with ((go_at_call 23; (with_reducible refine DA.out.mono ?_); rintro e wA ⟨rfl, hbA⟩))
              have hqA := below_chain hbd hbd.size hbA
              have hkA := Kept.of_belowX hbA
              have hzA := hkd.transX hkA
              refine hK.out _ _ hkA (fun _ => ?_)
              clear hK K DA
              refine wpAnyH_stronger (S' := KepS wA) (fun W h => hkA.transX h) _ _ _ _ ?_
              have hSA : KepS wA wA := KepS.refl wA
              refine wpAnyH_take (i := 32) (oi := _) (v := .bool false) rfl (by kernel_rfl) (by kernel_rfl) (by kernel_rfl) (fun _ _ _ h => h) (Or.inl ⟨by rfl, ?_⟩) hSA ?_
              skip
              · intro W hSW
                try go_simp
                all_goals first | with_reducible rfl | (simp; done) | omega | (simp; omega) | trace_state
              simp only [Act.put, List.setIfInBounds_toArray, List.set_cons_zero, List.set_cons_succ, List.getElem_toArray, List.getElem_cons_zero, List.getElem_cons_succ]
              refine wpAnyH_take (i := 33) (oi := _) (v := .bool false) rfl (by kernel_rfl) (by kernel_rfl) (by kernel_rfl) (fun _ _ _ h => h) (Or.inl ⟨by rfl, ?_⟩) hSA ?_
              skip
              · intro W hSW
                try go_simp
                all_goals first | with_reducible rfl | (simp; done) | omega | (simp; omega) | trace_state
              simp only [Act.put, List.setIfInBounds_toArray, List.set_cons_zero, List.set_cons_succ, List.getElem_toArray, List.getElem_cons_zero, List.getElem_cons_succ]
              refine wpAnyH_take (i := 34) (oi := _) (v := .bool false) rfl (by kernel_rfl) (by kernel_rfl) (by kernel_rfl) (fun _ _ _ h => h) (Or.inl ⟨by rfl, ?_⟩) hSA ?_
              skip
              · intro W hSW
                try go_simp
                all_goals first | with_reducible rfl | (simp; done) | omega | (simp; omega) | trace_state
              simp only [Act.put, List.setIfInBounds_toArray, List.set_cons_zero, List.set_cons_succ, List.getElem_toArray, List.getElem_cons_zero, List.getElem_cons_succ]
              refine wpAnyH_take (i := 35) (oi := _) (v := .bool false) rfl (by kernel_rfl) (by kernel_rfl) (by kernel_rfl) (fun _ _ _ h => h) (Or.inl ⟨by rfl, ?_⟩) hSA ?_
              skip
              · intro W hSW
                try go_simp
                all_goals first | with_reducible rfl | (simp; done) | omega | (simp; omega) | trace_state
              simp only [Act.put, List.setIfInBounds_toArray, List.set_cons_zero, List.set_cons_succ, List.getElem_toArray, List.getElem_cons_zero, List.getElem_cons_succ]
              refine wpAnyH_take (i := 36) (oi := _) (v := .bool false) rfl (by kernel_rfl) (by kernel_rfl) (by kernel_rfl) (fun _ _ _ h => h) (Or.inl ⟨by rfl, ?_⟩) hSA ?_
              skip
              · intro W hSW
                try go_simp
                all_goals first | with_reducible rfl | (simp; done) | omega | (simp; omega) | trace_state
              simp only [Act.put, List.setIfInBounds_toArray, List.set_cons_zero, List.set_cons_succ, List.getElem_toArray, List.getElem_cons_zero, List.getElem_cons_succ]
              refine wpAnyH_take (i := 37) (oi := _) (v := ?_) rfl (by kernel_rfl) (by kernel_rfl) (by kernel_rfl) (fun _ _ _ h => h) (Or.inl ⟨by rfl, ?_⟩) hSA ?_
              rotate_left
              · intro W hSW
                try go_simp
                all_goals with_reducible rfl
              simp only [Act.put, List.setIfInBounds_toArray, List.set_cons_zero, List.set_cons_succ, List.getElem_toArray, List.getElem_cons_zero, List.getElem_cons_succ]
              refine wpAnyH_take (i := 40) (oi := _) (v := ?_) rfl (by kernel_rfl) (by kernel_rfl) (by kernel_rfl) (fun _ _ _ h => h) (Or.inl ⟨by rfl, ?_⟩) hSA ?_
              rotate_left
              · intro W hSW
                try go_simp
                all_goals with_reducible rfl
              simp only [Act.put, List.setIfInBounds_toArray, List.set_cons_zero, List.set_cons_succ, List.getElem_toArray, List.getElem_cons_zero, List.getElem_cons_succ]
              refine wpAnyH_take (i := 41) (oi := _) (v := ?_) rfl (by kernel_rfl) (by kernel_rfl) (by kernel_rfl) (fun _ _ _ h => h) (Or.inl ⟨by rfl, ?_⟩) hSA ?_
              rotate_left
              · intro W hSW
                have cv := HCR.out W _ (HWZ.out W (hzA.transX hSW))
                try go_simp
                all_goals with_reducible rfl
              simp only [Act.put, List.setIfInBounds_toArray, List.set_cons_zero, List.set_cons_succ, List.getElem_toArray, List.getElem_cons_zero, List.getElem_cons_succ]
              refine wpAnyH_ready (rs := [38]) (by kernel_rfl) (by simp) (AllReadyH.cons rfl (fun K hK => ?_) AllReadyH.nil)
              have DT := Lib.hid (HRT.out wA (BQ7.out.trans (Below.mono hqA BQ7.out.size)))
              go_simp
              go_wp2_with ((go_at_call 21; (with_reducible refine DT.out.mono ?_); rintro e wT ⟨vT, rfl, hoT, hbT⟩))
              have hqT := below_chain hqA hqA.size hbT
              have hkT := Kept.of_belowX hbT
              have hzT := hzA.transX hkT
              refine hK.out _ _ hkT (fun _ => ?_)
              clear hK K DT
              refine wpAnyH_stronger (S' := KepS wT) (fun W h => hkT.transX h) _ _ _ _ ?_
              have hST : KepS wT wT := KepS.refl wT
              refine wpAnyH_take (i := 39) (oi := _) (v := ?_) rfl (by kernel_rfl) (by kernel_rfl) (by kernel_rfl) (fun _ _ _ h => h) (Or.inl ⟨by rfl, ?_⟩) hST ?_
              rotate_left
              · intro W hSW
                have cv := HCR.out W _ (hSW.rd hoT.rd)
                try go_simp
                all_goals with_reducible rfl
              simp only [Act.put, List.setIfInBounds_toArray, List.set_cons_zero, List.set_cons_succ, List.getElem_toArray, List.getElem_cons_zero, List.getElem_cons_succ]
              refine wpAnyH_take (i := 42) (oi := _) (v := .bool false) rfl (by kernel_rfl) (by kernel_rfl) (by kernel_rfl) (fun _ _ _ h => h) (Or.inl ⟨by rfl, ?_⟩) hST ?_
              skip
              · intro W hSW
                try go_simp
                all_goals first | with_reducible rfl | (simp; done) | omega | (simp; omega) | trace_state
              simp only [Act.put, List.setIfInBounds_toArray, List.set_cons_zero, List.set_cons_succ, List.getElem_toArray, List.getElem_cons_zero, List.getElem_cons_succ]
              refine wpAnyH_take (i := 43) (oi := _) (v := .bool false) rfl (by kernel_rfl) (by kernel_rfl) (by kernel_rfl) (fun _ _ _ h => h) (Or.inl ⟨by rfl, ?_⟩) hST ?_
              skip
              · intro W hSW
                try go_simp
                all_goals first | with_reducible rfl | (simp; done) | omega | (simp; omega) | trace_state
              simp only [Act.put, List.setIfInBounds_toArray, List.set_cons_zero, List.set_cons_succ, List.getElem_toArray, List.getElem_cons_zero, List.getElem_cons_succ]
              refine wpAnyH_done (by kernel_rfl) ?_ _
              have hfin := HLS.out _ (BQ7.out.trans (Below.mono hqT BQ7.out.size))
              clear HLS HRT HCR HCF HMV HMA HVE HAE BQ7 HK7 HWZ
              go_wp2_with fail
              exact ⟨⟨j + 1, by omega, by simp, hfin⟩, by simp [intOf]; omega⟩
            · have z2 : (EA == 0) = false := by simpa using e2
              clear HSV HSA HM1 HM2
              go_wp2_with fail
              refine wp_region_held_drew (S := KepS w7.drew) (by kernel_rfl) (KepS.refl _) (fun hS0 => ?_)
              refine wpAnyH_take (i := 0) (oi := _) (v := ?_) rfl (by kernel_rfl) (by kernel_rfl) (by kernel_rfl) (fun _ _ _ h => h) (Or.inl ⟨by rfl, ?_⟩) hS0 ?_
              rotate_left
              · intro W hSW
                try go_simp
                all_goals with_reducible rfl
              simp only [Act.put, List.setIfInBounds_toArray, List.set_cons_zero, List.set_cons_succ, List.getElem_toArray, List.getElem_cons_zero, List.getElem_cons_succ]
              refine wpAnyH_take (i := 1) (oi := _) (v := .bool false) rfl (by kernel_rfl) (by kernel_rfl) (by kernel_rfl) (fun _ _ _ h => h) (Or.inl ⟨by rfl, ?_⟩) hS0 ?_
              skip
              · intro W hSW
                try go_simp
                all_goals first | with_reducible rfl | (simp; done) | omega | (simp; omega) | trace_state
              simp only [Act.put, List.setIfInBounds_toArray, List.set_cons_zero, List.set_cons_succ, List.getElem_toArray, List.getElem_cons_zero, List.getElem_cons_succ]
              refine wpAnyH_take (i := 2) (oi := _) (v := .bool false) rfl (by kernel_rfl) (by kernel_rfl) (by kernel_rfl) (fun _ _ _ h => h) (Or.inl ⟨by rfl, ?_⟩) hS0 ?_
              skip
              · intro W hSW
                try go_simp
                all_goals first | with_reducible rfl | (simp; done) | omega | (simp; omega) | trace_state
              simp only [Act.put, List.setIfInBounds_toArray, List.set_cons_zero, List.set_cons_succ, List.getElem_toArray, List.getElem_cons_zero, List.getElem_cons_succ]
              refine wpAnyH_take (i := 3) (oi := _) (v := undef) rfl (by kernel_rfl) (by kernel_rfl) (by kernel_rfl) (fun _ _ _ h => h) (Or.inr ⟨by rfl, rfl⟩) hS0 ?_
              simp only [Act.put, List.setIfInBounds_toArray, List.set_cons_zero, List.set_cons_succ, List.getElem_toArray, List.getElem_cons_zero, List.getElem_cons_succ]
              refine wpAnyH_take (i := 4) (oi := _) (v := undef) rfl (by kernel_rfl) (by kernel_rfl) (by kernel_rfl) (fun _ _ _ h => h) (Or.inr ⟨by rfl, rfl⟩) hS0 ?_
              simp only [Act.put, List.setIfInBounds_toArray, List.set_cons_zero, List.set_cons_succ, List.getElem_toArray, List.getElem_cons_zero, List.getElem_cons_succ]
              refine wpAnyH_take (i := 5) (oi := _) (v := undef) rfl (by kernel_rfl) (by kernel_rfl) (by kernel_rfl) (fun _ _ _ h => h) (Or.inr ⟨by rfl, rfl⟩) hS0 ?_
              simp only [Act.put, List.setIfInBounds_toArray, List.set_cons_zero, List.set_cons_succ, List.getElem_toArray, List.getElem_cons_zero, List.getElem_cons_succ]
              refine wpAnyH_take (i := 6) (oi := _) (v := undef) rfl (by kernel_rfl) (by kernel_rfl) (by kernel_rfl) (fun _ _ _ h => h) (Or.inr ⟨by rfl, rfl⟩) hS0 ?_
              simp only [Act.put, List.setIfInBounds_toArray, List.set_cons_zero, List.set_cons_succ, List.getElem_toArray, List.getElem_cons_zero, List.getElem_cons_succ]
              refine wpAnyH_take (i := 7) (oi := _) (v := undef) rfl (by kernel_rfl) (by kernel_rfl) (by kernel_rfl) (fun _ _ _ h => h) (Or.inr ⟨by rfl, rfl⟩) hS0 ?_
              simp only [Act.put, List.setIfInBounds_toArray, List.set_cons_zero, List.set_cons_succ, List.getElem_toArray, List.getElem_cons_zero, List.getElem_cons_succ]
              refine wpAnyH_take (i := 8) (oi := _) (v := undef) rfl (by kernel_rfl) (by kernel_rfl) (by kernel_rfl) (fun _ _ _ h => h) (Or.inr ⟨by rfl, rfl⟩) hS0 ?_
              simp only [Act.put, List.setIfInBounds_toArray, List.set_cons_zero, List.set_cons_succ, List.getElem_toArray, List.getElem_cons_zero, List.getElem_cons_succ]
              refine wpAnyH_take (i := 9) (oi := _) (v := undef) rfl (by kernel_rfl) (by kernel_rfl) (by kernel_rfl) (fun _ _ _ h => h) (Or.inr ⟨by rfl, rfl⟩) hS0 ?_
              simp only [Act.put, List.setIfInBounds_toArray, List.set_cons_zero, List.set_cons_succ, List.getElem_toArray, List.getElem_cons_zero, List.getElem_cons_succ]
              refine wpAnyH_take (i := 10) (oi := _) (v := undef) rfl (by kernel_rfl) (by kernel_rfl) (by kernel_rfl) (fun _ _ _ h => h) (Or.inr ⟨by rfl, rfl⟩) hS0 ?_
              simp only [Act.put, List.setIfInBounds_toArray, List.set_cons_zero, List.set_cons_succ, List.getElem_toArray, List.getElem_cons_zero, List.getElem_cons_succ]
              refine wpAnyH_take (i := 11) (oi := _) (v := undef) rfl (by kernel_rfl) (by kernel_rfl) (by kernel_rfl) (fun _ _ _ h => h) (Or.inr ⟨by rfl, rfl⟩) hS0 ?_
              simp only [Act.put, List.setIfInBounds_toArray, List.set_cons_zero, List.set_cons_succ, List.getElem_toArray, List.getElem_cons_zero, List.getElem_cons_succ]
              refine wpAnyH_take (i := 12) (oi := _) (v := undef) rfl (by kernel_rfl) (by kernel_rfl) (by kernel_rfl) (fun _ _ _ h => h) (Or.inr ⟨by rfl, rfl⟩) hS0 ?_
              simp only [Act.put, List.setIfInBounds_toArray, List.set_cons_zero, List.set_cons_succ, List.getElem_toArray, List.getElem_cons_zero, List.getElem_cons_succ]
              refine wpAnyH_take (i := 13) (oi := _) (v := undef) rfl (by kernel_rfl) (by kernel_rfl) (by kernel_rfl) (fun _ _ _ h => h) (Or.inr ⟨by rfl, rfl⟩) hS0 ?_
              simp only [Act.put, List.setIfInBounds_toArray, List.set_cons_zero, List.set_cons_succ, List.getElem_toArray, List.getElem_cons_zero, List.getElem_cons_succ]
              refine wpAnyH_take (i := 14) (oi := _) (v := undef) rfl (by kernel_rfl) (by kernel_rfl) (by kernel_rfl) (fun _ _ _ h => h) (Or.inr ⟨by rfl, rfl⟩) hS0 ?_
              simp only [Act.put, List.setIfInBounds_toArray, List.set_cons_zero, List.set_cons_succ, List.getElem_toArray, List.getElem_cons_zero, List.getElem_cons_succ]
              refine wpAnyH_take (i := 15) (oi := _) (v := undef) rfl (by kernel_rfl) (by kernel_rfl) (by kernel_rfl) (fun _ _ _ h => h) (Or.inr ⟨by rfl, rfl⟩) hS0 ?_
              simp only [Act.put, List.setIfInBounds_toArray, List.set_cons_zero, List.set_cons_succ, List.getElem_toArray, List.getElem_cons_zero, List.getElem_cons_succ]
              refine wpAnyH_take (i := 16) (oi := _) (v := undef) rfl (by kernel_rfl) (by kernel_rfl) (by kernel_rfl) (fun _ _ _ h => h) (Or.inr ⟨by rfl, rfl⟩) hS0 ?_
              simp only [Act.put, List.setIfInBounds_toArray, List.set_cons_zero, List.set_cons_succ, List.getElem_toArray, List.getElem_cons_zero, List.getElem_cons_succ]
              refine wpAnyH_take (i := 17) (oi := _) (v := .bool false) rfl (by kernel_rfl) (by kernel_rfl) (by kernel_rfl) (fun _ _ _ h => h) (Or.inl ⟨by rfl, ?_⟩) hS0 ?_
              skip
              · intro W hSW
                try go_simp
                all_goals first | with_reducible rfl | (simp; done) | omega | (simp; omega) | trace_state
              simp only [Act.put, List.setIfInBounds_toArray, List.set_cons_zero, List.set_cons_succ, List.getElem_toArray, List.getElem_cons_zero, List.getElem_cons_succ]
              refine wpAnyH_take (i := 18) (oi := _) (v := .bool false) rfl (by kernel_rfl) (by kernel_rfl) (by kernel_rfl) (fun _ _ _ h => h) (Or.inl ⟨by rfl, ?_⟩) hS0 ?_
              skip
              · intro W hSW
                try go_simp
                all_goals first | with_reducible rfl | (simp; done) | omega | (simp; omega) | trace_state
              simp only [Act.put, List.setIfInBounds_toArray, List.set_cons_zero, List.set_cons_succ, List.getElem_toArray, List.getElem_cons_zero, List.getElem_cons_succ]
              refine wpAnyH_take (i := 19) (oi := _) (v := ?_) rfl (by kernel_rfl) (by kernel_rfl) (by kernel_rfl) (fun _ _ _ h => h) (Or.inl ⟨by rfl, ?_⟩) hS0 ?_
              rotate_left
              · intro W hSW
                try go_simp
                all_goals with_reducible rfl
              simp only [Act.put, List.setIfInBounds_toArray, List.set_cons_zero, List.set_cons_succ, List.getElem_toArray, List.getElem_cons_zero, List.getElem_cons_succ]
              refine wpAnyH_take (i := 20) (oi := _) (v := .bool false) rfl (by kernel_rfl) (by kernel_rfl) (by kernel_rfl) (fun _ _ _ h => h) (Or.inl ⟨by rfl, ?_⟩) hS0 ?_
              skip
              · intro W hSW
                try go_simp
                all_goals first | with_reducible rfl | (simp; done) | omega | (simp; omega) | trace_state
              simp only [Act.put, List.setIfInBounds_toArray, List.set_cons_zero, List.set_cons_succ, List.getElem_toArray, List.getElem_cons_zero, List.getElem_cons_succ]
              refine wpAnyH_take (i := 21) (oi := _) (v := .bool false) rfl (by kernel_rfl) (by kernel_rfl) (by kernel_rfl) (fun _ _ _ h => h) (Or.inl ⟨by rfl, ?_⟩) hS0 ?_
              skip
              · intro W hSW
                try go_simp
                all_goals first | with_reducible rfl | (simp; done) | omega | (simp; omega) | trace_state
              simp only [Act.put, List.setIfInBounds_toArray, List.set_cons_zero, List.set_cons_succ, List.getElem_toArray, List.getElem_cons_zero, List.getElem_cons_succ]
              refine wpAnyH_take (i := 22) (oi := _) (v := undef) rfl (by kernel_rfl) (by kernel_rfl) (by kernel_rfl) (fun _ _ _ h => h) (Or.inr ⟨by rfl, rfl⟩) hS0 ?_
              simp only [Act.put, List.setIfInBounds_toArray, List.set_cons_zero, List.set_cons_succ, List.getElem_toArray, List.getElem_cons_zero, List.getElem_cons_succ]
              refine wpAnyH_take (i := 23) (oi := _) (v := undef) rfl (by kernel_rfl) (by kernel_rfl) (by kernel_rfl) (fun _ _ _ h => h) (Or.inr ⟨by rfl, rfl⟩) hS0 ?_
              simp only [Act.put, List.setIfInBounds_toArray, List.set_cons_zero, List.set_cons_succ, List.getElem_toArray, List.getElem_cons_zero, List.getElem_cons_succ]
              refine wpAnyH_take (i := 24) (oi := _) (v := undef) rfl (by kernel_rfl) (by kernel_rfl) (by kernel_rfl) (fun _ _ _ h => h) (Or.inr ⟨by rfl, rfl⟩) hS0 ?_
              simp only [Act.put, List.setIfInBounds_toArray, List.set_cons_zero, List.set_cons_succ, List.getElem_toArray, List.getElem_cons_zero, List.getElem_cons_succ]
              refine wpAnyH_take (i := 25) (oi := _) (v := undef) rfl (by kernel_rfl) (by kernel_rfl) (by kernel_rfl) (fun _ _ _ h => h) (Or.inr ⟨by rfl, rfl⟩) hS0 ?_
              simp only [Act.put, List.setIfInBounds_toArray, List.set_cons_zero, List.set_cons_succ, List.getElem_toArray, List.getElem_cons_zero, List.getElem_cons_succ]
              refine wpAnyH_take (i := 26) (oi := _) (v := undef) rfl (by kernel_rfl) (by kernel_rfl) (by kernel_rfl) (fun _ _ _ h => h) (Or.inr ⟨by rfl, rfl⟩) hS0 ?_
              simp only [Act.put, List.setIfInBounds_toArray, List.set_cons_zero, List.set_cons_succ, List.getElem_toArray, List.getElem_cons_zero, List.getElem_cons_succ]
              refine wpAnyH_take (i := 27) (oi := _) (v := undef) rfl (by kernel_rfl) (by kernel_rfl) (by kernel_rfl) (fun _ _ _ h => h) (Or.inr ⟨by rfl, rfl⟩) hS0 ?_
              simp only [Act.put, List.setIfInBounds_toArray, List.set_cons_zero, List.set_cons_succ, List.getElem_toArray, List.getElem_cons_zero, List.getElem_cons_succ]
              refine wpAnyH_take (i := 28) (oi := _) (v := undef) rfl (by kernel_rfl) (by kernel_rfl) (by kernel_rfl) (fun _ _ _ h => h) (Or.inr ⟨by rfl, rfl⟩) hS0 ?_
              simp only [Act.put, List.setIfInBounds_toArray, List.set_cons_zero, List.set_cons_succ, List.getElem_toArray, List.getElem_cons_zero, List.getElem_cons_succ]
              refine wpAnyH_take (i := 29) (oi := _) (v := undef) rfl (by kernel_rfl) (by kernel_rfl) (by kernel_rfl) (fun _ _ _ h => h) (Or.inr ⟨by rfl, rfl⟩) hS0 ?_
              simp only [Act.put, List.setIfInBounds_toArray, List.set_cons_zero, List.set_cons_succ, List.getElem_toArray, List.getElem_cons_zero, List.getElem_cons_succ]
              refine wpAnyH_take (i := 30) (oi := _) (v := undef) rfl (by kernel_rfl) (by kernel_rfl) (by kernel_rfl) (fun _ _ _ h => h) (Or.inr ⟨by rfl, rfl⟩) hS0 ?_
              simp only [Act.put, List.setIfInBounds_toArray, List.set_cons_zero, List.set_cons_succ, List.getElem_toArray, List.getElem_cons_zero, List.getElem_cons_succ]
              refine wpAnyH_take (i := 31) (oi := _) (v := undef) rfl (by kernel_rfl) (by kernel_rfl) (by kernel_rfl) (fun _ _ _ h => h) (Or.inr ⟨by rfl, rfl⟩) hS0 ?_
              simp only [Act.put, List.setIfInBounds_toArray, List.set_cons_zero, List.set_cons_succ, List.getElem_toArray, List.getElem_cons_zero, List.getElem_cons_succ]
              refine wpAnyH_take (i := 32) (oi := _) (v := undef) rfl (by kernel_rfl) (by kernel_rfl) (by kernel_rfl) (fun _ _ _ h => h) (Or.inr ⟨by rfl, rfl⟩) hS0 ?_
              simp only [Act.put, List.setIfInBounds_toArray, List.set_cons_zero, List.set_cons_succ, List.getElem_toArray, List.getElem_cons_zero, List.getElem_cons_succ]
              refine wpAnyH_take (i := 33) (oi := _) (v := undef) rfl (by kernel_rfl) (by kernel_rfl) (by kernel_rfl) (fun _ _ _ h => h) (Or.inr ⟨by rfl, rfl⟩) hS0 ?_
              simp only [Act.put, List.setIfInBounds_toArray, List.set_cons_zero, List.set_cons_succ, List.getElem_toArray, List.getElem_cons_zero, List.getElem_cons_succ]
              refine wpAnyH_take (i := 34) (oi := _) (v := .bool false) rfl (by kernel_rfl) (by kernel_rfl) (by kernel_rfl) (fun _ _ _ h => h) (Or.inl ⟨by rfl, ?_⟩) hS0 ?_
              skip
              · intro W hSW
                try go_simp
                all_goals first | with_reducible rfl | (simp; done) | omega | (simp; omega) | trace_state
              simp only [Act.put, List.setIfInBounds_toArray, List.set_cons_zero, List.set_cons_succ, List.getElem_toArray, List.getElem_cons_zero, List.getElem_cons_succ]
              refine wpAnyH_take (i := 35) (oi := _) (v := .bool false) rfl (by kernel_rfl) (by kernel_rfl) (by kernel_rfl) (fun _ _ _ h => h) (Or.inl ⟨by rfl, ?_⟩) hS0 ?_
              skip
              · intro W hSW
                try go_simp
                all_goals first | with_reducible rfl | (simp; done) | omega | (simp; omega) | trace_state
              simp only [Act.put, List.setIfInBounds_toArray, List.set_cons_zero, List.set_cons_succ, List.getElem_toArray, List.getElem_cons_zero, List.getElem_cons_succ]
              refine wpAnyH_take (i := 36) (oi := _) (v := .bool false) rfl (by kernel_rfl) (by kernel_rfl) (by kernel_rfl) (fun _ _ _ h => h) (Or.inl ⟨by rfl, ?_⟩) hS0 ?_
              skip
              · intro W hSW
                try go_simp
                all_goals first | with_reducible rfl | (simp; done) | omega | (simp; omega) | trace_state
              simp only [Act.put, List.setIfInBounds_toArray, List.set_cons_zero, List.set_cons_succ, List.getElem_toArray, List.getElem_cons_zero, List.getElem_cons_succ]
              refine wpAnyH_take (i := 37) (oi := _) (v := ?_) rfl (by kernel_rfl) (by kernel_rfl) (by kernel_rfl) (fun _ _ _ h => h) (Or.inl ⟨by rfl, ?_⟩) hS0 ?_
              rotate_left
              · intro W hSW
                try go_simp
                all_goals with_reducible rfl
              simp only [Act.put, List.setIfInBounds_toArray, List.set_cons_zero, List.set_cons_succ, List.getElem_toArray, List.getElem_cons_zero, List.getElem_cons_succ]
              refine wpAnyH_take (i := 40) (oi := _) (v := ?_) rfl (by kernel_rfl) (by kernel_rfl) (by kernel_rfl) (fun _ _ _ h => h) (Or.inl ⟨by rfl, ?_⟩) hS0 ?_
              rotate_left
              · intro W hSW
                try go_simp
                all_goals with_reducible rfl
              simp only [Act.put, List.setIfInBounds_toArray, List.set_cons_zero, List.set_cons_succ, List.getElem_toArray, List.getElem_cons_zero, List.getElem_cons_succ]
              refine wpAnyH_take (i := 41) (oi := _) (v := ?_) rfl (by kernel_rfl) (by kernel_rfl) (by kernel_rfl) (fun _ _ _ h => h) (Or.inl ⟨by rfl, ?_⟩) hS0 ?_
              rotate_left
              · intro W hSW
                have cv := HCR.out W _ (HWZ.out W (hkd.transX hSW))
                try go_simp
                all_goals with_reducible rfl
              simp only [Act.put, List.setIfInBounds_toArray, List.set_cons_zero, List.set_cons_succ, List.getElem_toArray, List.getElem_cons_zero, List.getElem_cons_succ]
              refine wpAnyH_ready (rs := [38]) (by kernel_rfl) (by simp) (AllReadyH.cons rfl (fun K hK => ?_) AllReadyH.nil)
              have DT := Lib.hid (HRT.out w7.drew (BQ7.out.trans (Below.mono hbd BQ7.out.size)))
              go_simp
              go_wp2_with ((go_at_call 21; (with_reducible refine DT.out.mono ?_); rintro e wT ⟨vT, rfl, hoT, hbT⟩))
              have hqT := below_chain hbd hbd.size hbT
              have hkT := Kept.of_belowX hbT
              have hzT := hkd.transX hkT
              refine hK.out _ _ hkT (fun _ => ?_)
              clear hK K DT
              refine wpAnyH_stronger (S' := KepS wT) (fun W h => hkT.transX h) _ _ _ _ ?_
              have hST : KepS wT wT := KepS.refl wT
              refine wpAnyH_take (i := 39) (oi := _) (v := ?_) rfl (by kernel_rfl) (by kernel_rfl) (by kernel_rfl) (fun _ _ _ h => h) (Or.inl ⟨by rfl, ?_⟩) hST ?_
              rotate_left
              · intro W hSW
                have cv := HCR.out W _ (hSW.rd hoT.rd)
                try go_simp
                all_goals with_reducible rfl
              simp only [Act.put, List.setIfInBounds_toArray, List.set_cons_zero, List.set_cons_succ, List.getElem_toArray, List.getElem_cons_zero, List.getElem_cons_succ]
              refine wpAnyH_take (i := 42) (oi := _) (v := .bool false) rfl (by kernel_rfl) (by kernel_rfl) (by kernel_rfl) (fun _ _ _ h => h) (Or.inl ⟨by rfl, ?_⟩) hST ?_
              skip
              · intro W hSW
                try go_simp
                all_goals first | with_reducible rfl | (simp; done) | omega | (simp; omega) | trace_state
              simp only [Act.put, List.setIfInBounds_toArray, List.set_cons_zero, List.set_cons_succ, List.getElem_toArray, List.getElem_cons_zero, List.getElem_cons_succ]
              refine wpAnyH_take (i := 43) (oi := _) (v := .bool false) rfl (by kernel_rfl) (by kernel_rfl) (by kernel_rfl) (fun _ _ _ h => h) (Or.inl ⟨by rfl, ?_⟩) hST ?_
              skip
              · intro W hSW
                try go_simp
                all_goals first | with_reducible rfl | (simp; done) | omega | (simp; omega) | trace_state
              simp only [Act.put, List.setIfInBounds_toArray, List.set_cons_zero, List.set_cons_succ, List.getElem_toArray, List.getElem_cons_zero, List.getElem_cons_succ]
              refine wpAnyH_done (by kernel_rfl) ?_ _
              have hfin := HLS.out _ (BQ7.out.trans (Below.mono hqT BQ7.out.size))
              clear HLS HRT HCR HCF HMV HMA HVE HAE BQ7 HK7 HWZ
              go_wp2_with fail
              exact ⟨⟨j + 1, by omega, by simp, hfin⟩, by simp [intOf]; omega⟩
        · have hmT := heap_alloc_new w4 (.cells #[.int .u64 0, .slice none 0 0, .slice none 0 0] 59)
          have hbT : Below w4.heap.size w4 (w4.alloc (.cells #[.int .u64 0, .slice none 0 0, .slice none 0 0] 59)) := (Below.refl _ _).alloc (Nat.le_refl _) _
          have hq5 := hq4.trans (hbT.mono hq4.size)
          have hk5 := Kept.of_belowX hbT
          have HK45 := Lib.hid hk5
          obtain ⟨k1, k2, k3, k4, k5, k6⟩ := HCF.out _ (Kept.of_belowX hq5)
          have HMT := Lib.hid hmT
          have HQ5 := Lib.hid hq5
          clear hmT hbT hq5 hk5 hq4
          go_wp2_with fail
          generalize w4.alloc (.cells #[.int .u64 0, .slice none 0 0, .slice none 0 0] 59) = w5 at *
          generalize w4.heap.size = gT at *
          refine (HVE.out _ HQ5.out).mono ?_
          rintro e w6 ⟨rfl, hb6⟩
          have hq6 := HQ5.out.trans (hb6.mono HQ5.out.size)
          clear k1 k2 k3 k4 k5 k6
          obtain ⟨k1, k2, k3, k4, k5, k6⟩ := HCF.out _ (Kept.of_belowX hq6)
          go_wp2_with fail
          refine (HAE.out _ hq6).mono ?_
          rintro e w7 ⟨rfl, hb7⟩
          have hq7 := hq6.trans (hb7.mono hq6.size)
          clear k1 k2 k3 k4 k5 k6
          have hk57 := (Kept.of_belowX hb6).transX (Kept.of_belowX hb7)
          have HK47 := Lib.hid (HK45.out.transX hk57)
          have HTB7 : Hid (∀ Z, Kept w7.drew Z → Z.cell? ⟨gT, 1, none⟩ = some (.slice none 0 0) ∧ Z.cell? ⟨gT, 2, none⟩ = some (.slice none 0 0)) := Lib.hid fun Z hz => ⟨blk_cell (((hk57.transX (Kept.of_belowX (Below.refl w7.heap.size w7).drew)).transX hz).blockP HMT.out) 1, blk_cell (((hk57.transX (Kept.of_belowX (Below.refl w7.heap.size w7).drew)).transX hz).blockP HMT.out) 2⟩
          have hbd0 : Below w7.heap.size w7 w7.drew := (Below.refl _ _).drew
          have hq8 := hq7.trans (hbd0.mono hq7.size)
          have BQ7 := Lib.hid hq8
          have HK7 := Lib.hid (Kept.of_belowX hq8)
          have HWZ := Lib.hid (fun (Z : World) (hz : Kept w7.drew Z) => HW3.out Z (((Kept.of_belowX HB4.out).transX (HK47.out.transX (Kept.of_belowX hbd0))).transX hz))
          have hbd : Below w7.drew.heap.size w7.drew w7.drew := Below.refl _ _
          have hkd := Kept.refl w7.drew
          clear hq6 hq7 hq8 hb6 hb7 hk57 hbd0 HK45 HK47 HMT HQ5 HB4 HW3
          have z1 : (EV == 0) = false := by
            simp only [beq_eq_false_iff_ne]
            intro e
            obtain ⟨u1, hu1, -⟩ := HSV.out e
            cases hu1
          have z2 : (EA == 0) = false := by
            simp only [beq_eq_false_iff_ne]
            intro e
            obtain ⟨u1, hu1, -⟩ := HSA.out e
            cases hu1
          clear HSV HSA
          go_wp2_with fail
          refine wp_region_held_drew (S := KepS w7.drew) (by kernel_rfl) (KepS.refl _) (fun hS0 => ?_)
          refine wpAnyH_take (i := 0) (oi := _) (v := ?_) rfl (by kernel_rfl) (by kernel_rfl) (by kernel_rfl) (fun _ _ _ h => h) (Or.inl ⟨by rfl, ?_⟩) hS0 ?_
          rotate_left
          · intro W hSW
            try go_simp
            all_goals with_reducible rfl
          simp only [Act.put, List.setIfInBounds_toArray, List.set_cons_zero, List.set_cons_succ, List.getElem_toArray, List.getElem_cons_zero, List.getElem_cons_succ]
          refine wpAnyH_take (i := 1) (oi := _) (v := .bool false) rfl (by kernel_rfl) (by kernel_rfl) (by kernel_rfl) (fun _ _ _ h => h) (Or.inl ⟨by rfl, ?_⟩) hS0 ?_
          skip
          · intro W hSW
            try go_simp
            all_goals first | with_reducible rfl | (simp; done) | omega | (simp; omega) | trace_state
          simp only [Act.put, List.setIfInBounds_toArray, List.set_cons_zero, List.set_cons_succ, List.getElem_toArray, List.getElem_cons_zero, List.getElem_cons_succ]
          refine wpAnyH_take (i := 2) (oi := _) (v := .bool false) rfl (by kernel_rfl) (by kernel_rfl) (by kernel_rfl) (fun _ _ _ h => h) (Or.inl ⟨by rfl, ?_⟩) hS0 ?_
          skip
          · intro W hSW
            try go_simp
            all_goals first | with_reducible rfl | (simp; done) | omega | (simp; omega) | trace_state
          simp only [Act.put, List.setIfInBounds_toArray, List.set_cons_zero, List.set_cons_succ, List.getElem_toArray, List.getElem_cons_zero, List.getElem_cons_succ]
          refine wpAnyH_take (i := 3) (oi := _) (v := undef) rfl (by kernel_rfl) (by kernel_rfl) (by kernel_rfl) (fun _ _ _ h => h) (Or.inr ⟨by rfl, rfl⟩) hS0 ?_
          simp only [Act.put, List.setIfInBounds_toArray, List.set_cons_zero, List.set_cons_succ, List.getElem_toArray, List.getElem_cons_zero, List.getElem_cons_succ]
          refine wpAnyH_take (i := 4) (oi := _) (v := undef) rfl (by kernel_rfl) (by kernel_rfl) (by kernel_rfl) (fun _ _ _ h => h) (Or.inr ⟨by rfl, rfl⟩) hS0 ?_
          simp only [Act.put, List.setIfInBounds_toArray, List.set_cons_zero, List.set_cons_succ, List.getElem_toArray, List.getElem_cons_zero, List.getElem_cons_succ]
          refine wpAnyH_take (i := 5) (oi := _) (v := undef) rfl (by kernel_rfl) (by kernel_rfl) (by kernel_rfl) (fun _ _ _ h => h) (Or.inr ⟨by rfl, rfl⟩) hS0 ?_
          simp only [Act.put, List.setIfInBounds_toArray, List.set_cons_zero, List.set_cons_succ, List.getElem_toArray, List.getElem_cons_zero, List.getElem_cons_succ]
          refine wpAnyH_take (i := 6) (oi := _) (v := undef) rfl (by kernel_rfl) (by kernel_rfl) (by kernel_rfl) (fun _ _ _ h => h) (Or.inr ⟨by rfl, rfl⟩) hS0 ?_
          simp only [Act.put, List.setIfInBounds_toArray, List.set_cons_zero, List.set_cons_succ, List.getElem_toArray, List.getElem_cons_zero, List.getElem_cons_succ]
          refine wpAnyH_take (i := 7) (oi := _) (v := undef) rfl (by kernel_rfl) (by kernel_rfl) (by kernel_rfl) (fun _ _ _ h => h) (Or.inr ⟨by rfl, rfl⟩) hS0 ?_
          simp only [Act.put, List.setIfInBounds_toArray, List.set_cons_zero, List.set_cons_succ, List.getElem_toArray, List.getElem_cons_zero, List.getElem_cons_succ]
          refine wpAnyH_take (i := 8) (oi := _) (v := undef) rfl (by kernel_rfl) (by kernel_rfl) (by kernel_rfl) (fun _ _ _ h => h) (Or.inr ⟨by rfl, rfl⟩) hS0 ?_
          simp only [Act.put, List.setIfInBounds_toArray, List.set_cons_zero, List.set_cons_succ, List.getElem_toArray, List.getElem_cons_zero, List.getElem_cons_succ]
          refine wpAnyH_take (i := 9) (oi := _) (v := undef) rfl (by kernel_rfl) (by kernel_rfl) (by kernel_rfl) (fun _ _ _ h => h) (Or.inr ⟨by rfl, rfl⟩) hS0 ?_
          simp only [Act.put, List.setIfInBounds_toArray, List.set_cons_zero, List.set_cons_succ, List.getElem_toArray, List.getElem_cons_zero, List.getElem_cons_succ]
          refine wpAnyH_take (i := 10) (oi := _) (v := undef) rfl (by kernel_rfl) (by kernel_rfl) (by kernel_rfl) (fun _ _ _ h => h) (Or.inr ⟨by rfl, rfl⟩) hS0 ?_
          simp only [Act.put, List.setIfInBounds_toArray, List.set_cons_zero, List.set_cons_succ, List.getElem_toArray, List.getElem_cons_zero, List.getElem_cons_succ]
          refine wpAnyH_take (i := 11) (oi := _) (v := undef) rfl (by kernel_rfl) (by kernel_rfl) (by kernel_rfl) (fun _ _ _ h => h) (Or.inr ⟨by rfl, rfl⟩) hS0 ?_
          simp only [Act.put, List.setIfInBounds_toArray, List.set_cons_zero, List.set_cons_succ, List.getElem_toArray, List.getElem_cons_zero, List.getElem_cons_succ]
          refine wpAnyH_take (i := 12) (oi := _) (v := undef) rfl (by kernel_rfl) (by kernel_rfl) (by kernel_rfl) (fun _ _ _ h => h) (Or.inr ⟨by rfl, rfl⟩) hS0 ?_
          simp only [Act.put, List.setIfInBounds_toArray, List.set_cons_zero, List.set_cons_succ, List.getElem_toArray, List.getElem_cons_zero, List.getElem_cons_succ]
          refine wpAnyH_take (i := 13) (oi := _) (v := undef) rfl (by kernel_rfl) (by kernel_rfl) (by kernel_rfl) (fun _ _ _ h => h) (Or.inr ⟨by rfl, rfl⟩) hS0 ?_
          simp only [Act.put, List.setIfInBounds_toArray, List.set_cons_zero, List.set_cons_succ, List.getElem_toArray, List.getElem_cons_zero, List.getElem_cons_succ]
          refine wpAnyH_take (i := 14) (oi := _) (v := undef) rfl (by kernel_rfl) (by kernel_rfl) (by kernel_rfl) (fun _ _ _ h => h) (Or.inr ⟨by rfl, rfl⟩) hS0 ?_
          simp only [Act.put, List.setIfInBounds_toArray, List.set_cons_zero, List.set_cons_succ, List.getElem_toArray, List.getElem_cons_zero, List.getElem_cons_succ]
          refine wpAnyH_take (i := 15) (oi := _) (v := undef) rfl (by kernel_rfl) (by kernel_rfl) (by kernel_rfl) (fun _ _ _ h => h) (Or.inr ⟨by rfl, rfl⟩) hS0 ?_
          simp only [Act.put, List.setIfInBounds_toArray, List.set_cons_zero, List.set_cons_succ, List.getElem_toArray, List.getElem_cons_zero, List.getElem_cons_succ]
          refine wpAnyH_take (i := 16) (oi := _) (v := undef) rfl (by kernel_rfl) (by kernel_rfl) (by kernel_rfl) (fun _ _ _ h => h) (Or.inr ⟨by rfl, rfl⟩) hS0 ?_
          simp only [Act.put, List.setIfInBounds_toArray, List.set_cons_zero, List.set_cons_succ, List.getElem_toArray, List.getElem_cons_zero, List.getElem_cons_succ]
          refine wpAnyH_take (i := 17) (oi := _) (v := .bool false) rfl (by kernel_rfl) (by kernel_rfl) (by kernel_rfl) (fun _ _ _ h => h) (Or.inl ⟨by rfl, ?_⟩) hS0 ?_
          skip
          · intro W hSW
            try go_simp
            all_goals first | with_reducible rfl | (simp; done) | omega | (simp; omega) | trace_state
          simp only [Act.put, List.setIfInBounds_toArray, List.set_cons_zero, List.set_cons_succ, List.getElem_toArray, List.getElem_cons_zero, List.getElem_cons_succ]
          refine wpAnyH_take (i := 18) (oi := _) (v := .bool false) rfl (by kernel_rfl) (by kernel_rfl) (by kernel_rfl) (fun _ _ _ h => h) (Or.inl ⟨by rfl, ?_⟩) hS0 ?_
          skip
          · intro W hSW
            try go_simp
            all_goals first | with_reducible rfl | (simp; done) | omega | (simp; omega) | trace_state
          simp only [Act.put, List.setIfInBounds_toArray, List.set_cons_zero, List.set_cons_succ, List.getElem_toArray, List.getElem_cons_zero, List.getElem_cons_succ]
          refine wpAnyH_take (i := 19) (oi := _) (v := ?_) rfl (by kernel_rfl) (by kernel_rfl) (by kernel_rfl) (fun _ _ _ h => h) (Or.inl ⟨by rfl, ?_⟩) hS0 ?_
          rotate_left
          · intro W hSW
            try go_simp
            all_goals with_reducible rfl
          simp only [Act.put, List.setIfInBounds_toArray, List.set_cons_zero, List.set_cons_succ, List.getElem_toArray, List.getElem_cons_zero, List.getElem_cons_succ]
          refine wpAnyH_take (i := 20) (oi := _) (v := .bool false) rfl (by kernel_rfl) (by kernel_rfl) (by kernel_rfl) (fun _ _ _ h => h) (Or.inl ⟨by rfl, ?_⟩) hS0 ?_
          skip
          · intro W hSW
            try go_simp
            all_goals first | with_reducible rfl | (simp; done) | omega | (simp; omega) | trace_state
          simp only [Act.put, List.setIfInBounds_toArray, List.set_cons_zero, List.set_cons_succ, List.getElem_toArray, List.getElem_cons_zero, List.getElem_cons_succ]
          refine wpAnyH_take (i := 21) (oi := _) (v := .bool false) rfl (by kernel_rfl) (by kernel_rfl) (by kernel_rfl) (fun _ _ _ h => h) (Or.inl ⟨by rfl, ?_⟩) hS0 ?_
          skip
          · intro W hSW
            try go_simp
            all_goals first | with_reducible rfl | (simp; done) | omega | (simp; omega) | trace_state
          simp only [Act.put, List.setIfInBounds_toArray, List.set_cons_zero, List.set_cons_succ, List.getElem_toArray, List.getElem_cons_zero, List.getElem_cons_succ]
          refine wpAnyH_take (i := 22) (oi := _) (v := undef) rfl (by kernel_rfl) (by kernel_rfl) (by kernel_rfl) (fun _ _ _ h => h) (Or.inr ⟨by rfl, rfl⟩) hS0 ?_
          simp only [Act.put, List.setIfInBounds_toArray, List.set_cons_zero, List.set_cons_succ, List.getElem_toArray, List.getElem_cons_zero, List.getElem_cons_succ]
          refine wpAnyH_take (i := 23) (oi := _) (v := undef) rfl (by kernel_rfl) (by kernel_rfl) (by kernel_rfl) (fun _ _ _ h => h) (Or.inr ⟨by rfl, rfl⟩) hS0 ?_
          simp only [Act.put, List.setIfInBounds_toArray, List.set_cons_zero, List.set_cons_succ, List.getElem_toArray, List.getElem_cons_zero, List.getElem_cons_succ]
          refine wpAnyH_take (i := 24) (oi := _) (v := undef) rfl (by kernel_rfl) (by kernel_rfl) (by kernel_rfl) (fun _ _ _ h => h) (Or.inr ⟨by rfl, rfl⟩) hS0 ?_
          simp only [Act.put, List.setIfInBounds_toArray, List.set_cons_zero, List.set_cons_succ, List.getElem_toArray, List.getElem_cons_zero, List.getElem_cons_succ]
          refine wpAnyH_take (i := 25) (oi := _) (v := undef) rfl (by kernel_rfl) (by kernel_rfl) (by kernel_rfl) (fun _ _ _ h => h) (Or.inr ⟨by rfl, rfl⟩) hS0 ?_
          simp only [Act.put, List.setIfInBounds_toArray, List.set_cons_zero, List.set_cons_succ, List.getElem_toArray, List.getElem_cons_zero, List.getElem_cons_succ]
          refine wpAnyH_take (i := 26) (oi := _) (v := undef) rfl (by kernel_rfl) (by kernel_rfl) (by kernel_rfl) (fun _ _ _ h => h) (Or.inr ⟨by rfl, rfl⟩) hS0 ?_
          simp only [Act.put, List.setIfInBounds_toArray, List.set_cons_zero, List.set_cons_succ, List.getElem_toArray, List.getElem_cons_zero, List.getElem_cons_succ]
          refine wpAnyH_take (i := 27) (oi := _) (v := undef) rfl (by kernel_rfl) (by kernel_rfl) (by kernel_rfl) (fun _ _ _ h => h) (Or.inr ⟨by rfl, rfl⟩) hS0 ?_
          simp only [Act.put, List.setIfInBounds_toArray, List.set_cons_zero, List.set_cons_succ, List.getElem_toArray, List.getElem_cons_zero, List.getElem_cons_succ]
          refine wpAnyH_take (i := 28) (oi := _) (v := undef) rfl (by kernel_rfl) (by kernel_rfl) (by kernel_rfl) (fun _ _ _ h => h) (Or.inr ⟨by rfl, rfl⟩) hS0 ?_
          simp only [Act.put, List.setIfInBounds_toArray, List.set_cons_zero, List.set_cons_succ, List.getElem_toArray, List.getElem_cons_zero, List.getElem_cons_succ]
          refine wpAnyH_take (i := 29) (oi := _) (v := undef) rfl (by kernel_rfl) (by kernel_rfl) (by kernel_rfl) (fun _ _ _ h => h) (Or.inr ⟨by rfl, rfl⟩) hS0 ?_
          simp only [Act.put, List.setIfInBounds_toArray, List.set_cons_zero, List.set_cons_succ, List.getElem_toArray, List.getElem_cons_zero, List.getElem_cons_succ]
          refine wpAnyH_take (i := 30) (oi := _) (v := undef) rfl (by kernel_rfl) (by kernel_rfl) (by kernel_rfl) (fun _ _ _ h => h) (Or.inr ⟨by rfl, rfl⟩) hS0 ?_
          simp only [Act.put, List.setIfInBounds_toArray, List.set_cons_zero, List.set_cons_succ, List.getElem_toArray, List.getElem_cons_zero, List.getElem_cons_succ]
          refine wpAnyH_take (i := 31) (oi := _) (v := undef) rfl (by kernel_rfl) (by kernel_rfl) (by kernel_rfl) (fun _ _ _ h => h) (Or.inr ⟨by rfl, rfl⟩) hS0 ?_
          simp only [Act.put, List.setIfInBounds_toArray, List.set_cons_zero, List.set_cons_succ, List.getElem_toArray, List.getElem_cons_zero, List.getElem_cons_succ]
          refine wpAnyH_take (i := 32) (oi := _) (v := undef) rfl (by kernel_rfl) (by kernel_rfl) (by kernel_rfl) (fun _ _ _ h => h) (Or.inr ⟨by rfl, rfl⟩) hS0 ?_
          simp only [Act.put, List.setIfInBounds_toArray, List.set_cons_zero, List.set_cons_succ, List.getElem_toArray, List.getElem_cons_zero, List.getElem_cons_succ]
          refine wpAnyH_take (i := 33) (oi := _) (v := undef) rfl (by kernel_rfl) (by kernel_rfl) (by kernel_rfl) (fun _ _ _ h => h) (Or.inr ⟨by rfl, rfl⟩) hS0 ?_
          simp only [Act.put, List.setIfInBounds_toArray, List.set_cons_zero, List.set_cons_succ, List.getElem_toArray, List.getElem_cons_zero, List.getElem_cons_succ]
          refine wpAnyH_take (i := 34) (oi := _) (v := .bool false) rfl (by kernel_rfl) (by kernel_rfl) (by kernel_rfl) (fun _ _ _ h => h) (Or.inl ⟨by rfl, ?_⟩) hS0 ?_
          skip
          · intro W hSW
            try go_simp
            all_goals first | with_reducible rfl | (simp; done) | omega | (simp; omega) | trace_state
          simp only [Act.put, List.setIfInBounds_toArray, List.set_cons_zero, List.set_cons_succ, List.getElem_toArray, List.getElem_cons_zero, List.getElem_cons_succ]
          refine wpAnyH_take (i := 35) (oi := _) (v := .bool false) rfl (by kernel_rfl) (by kernel_rfl) (by kernel_rfl) (fun _ _ _ h => h) (Or.inl ⟨by rfl, ?_⟩) hS0 ?_
          skip
          · intro W hSW
            try go_simp
            all_goals first | with_reducible rfl | (simp; done) | omega | (simp; omega) | trace_state
          simp only [Act.put, List.setIfInBounds_toArray, List.set_cons_zero, List.set_cons_succ, List.getElem_toArray, List.getElem_cons_zero, List.getElem_cons_succ]
          refine wpAnyH_take (i := 36) (oi := _) (v := .bool false) rfl (by kernel_rfl) (by kernel_rfl) (by kernel_rfl) (fun _ _ _ h => h) (Or.inl ⟨by rfl, ?_⟩) hS0 ?_
          skip
          · intro W hSW
            try go_simp
            all_goals first | with_reducible rfl | (simp; done) | omega | (simp; omega) | trace_state
          simp only [Act.put, List.setIfInBounds_toArray, List.set_cons_zero, List.set_cons_succ, List.getElem_toArray, List.getElem_cons_zero, List.getElem_cons_succ]
          refine wpAnyH_take (i := 37) (oi := _) (v := ?_) rfl (by kernel_rfl) (by kernel_rfl) (by kernel_rfl) (fun _ _ _ h => h) (Or.inl ⟨by rfl, ?_⟩) hS0 ?_
          rotate_left
          · intro W hSW
            try go_simp
            all_goals with_reducible rfl
          simp only [Act.put, List.setIfInBounds_toArray, List.set_cons_zero, List.set_cons_succ, List.getElem_toArray, List.getElem_cons_zero, List.getElem_cons_succ]
          refine wpAnyH_take (i := 40) (oi := _) (v := ?_) rfl (by kernel_rfl) (by kernel_rfl) (by kernel_rfl) (fun _ _ _ h => h) (Or.inl ⟨by rfl, ?_⟩) hS0 ?_
          rotate_left
          · intro W hSW
            try go_simp
            all_goals with_reducible rfl
          simp only [Act.put, List.setIfInBounds_toArray, List.set_cons_zero, List.set_cons_succ, List.getElem_toArray, List.getElem_cons_zero, List.getElem_cons_succ]
          refine wpAnyH_take (i := 41) (oi := _) (v := ?_) rfl (by kernel_rfl) (by kernel_rfl) (by kernel_rfl) (fun _ _ _ h => h) (Or.inl ⟨by rfl, ?_⟩) hS0 ?_
          rotate_left
          · intro W hSW
            have cv := HCR.out W _ (HWZ.out W (hkd.transX hSW))
            try go_simp
            all_goals with_reducible rfl
          simp only [Act.put, List.setIfInBounds_toArray, List.set_cons_zero, List.set_cons_succ, List.getElem_toArray, List.getElem_cons_zero, List.getElem_cons_succ]
          refine wpAnyH_ready (rs := [38]) (by kernel_rfl) (by simp) (AllReadyH.cons rfl (fun K hK => ?_) AllReadyH.nil)
          have DT := Lib.hid (HRT.out w7.drew (BQ7.out.trans (Below.mono hbd BQ7.out.size)))
          go_simp
          go_wp2_with ((go_at_call 21; (with_reducible refine DT.out.mono ?_); rintro e wT ⟨vT, rfl, hoT, hbT⟩))
          have hqT := below_chain hbd hbd.size hbT
          have hkT := Kept.of_belowX hbT
          have hzT := hkd.transX hkT
          refine hK.out _ _ hkT (fun _ => ?_)
          clear hK K DT
          refine wpAnyH_stronger (S' := KepS wT) (fun W h => hkT.transX h) _ _ _ _ ?_
          have hST : KepS wT wT := KepS.refl wT
          refine wpAnyH_take (i := 39) (oi := _) (v := ?_) rfl (by kernel_rfl) (by kernel_rfl) (by kernel_rfl) (fun _ _ _ h => h) (Or.inl ⟨by rfl, ?_⟩) hST ?_
          rotate_left
          · intro W hSW
            have cv := HCR.out W _ (hSW.rd hoT.rd)
            try go_simp
            all_goals with_reducible rfl
          simp only [Act.put, List.setIfInBounds_toArray, List.set_cons_zero, List.set_cons_succ, List.getElem_toArray, List.getElem_cons_zero, List.getElem_cons_succ]
          refine wpAnyH_take (i := 42) (oi := _) (v := .bool false) rfl (by kernel_rfl) (by kernel_rfl) (by kernel_rfl) (fun _ _ _ h => h) (Or.inl ⟨by rfl, ?_⟩) hST ?_
          skip
          · intro W hSW
            try go_simp
            all_goals first | with_reducible rfl | (simp; done) | omega | (simp; omega) | trace_state
          simp only [Act.put, List.setIfInBounds_toArray, List.set_cons_zero, List.set_cons_succ, List.getElem_toArray, List.getElem_cons_zero, List.getElem_cons_succ]
          refine wpAnyH_take (i := 43) (oi := _) (v := .bool false) rfl (by kernel_rfl) (by kernel_rfl) (by kernel_rfl) (fun _ _ _ h => h) (Or.inl ⟨by rfl, ?_⟩) hST ?_
          skip
          · intro W hSW
            try go_simp
            all_goals first | with_reducible rfl | (simp; done) | omega | (simp; omega) | trace_state
          simp only [Act.put, List.setIfInBounds_toArray, List.set_cons_zero, List.set_cons_succ, List.getElem_toArray, List.getElem_cons_zero, List.getElem_cons_succ]
          refine wpAnyH_done (by kernel_rfl) ?_ _
          have hfin := HLS.out _ (BQ7.out.trans (Below.mono hqT BQ7.out.size))
          clear HLS HRT HCR HCF HMV HMA HVE HAE BQ7 HK7 HWZ
          go_wp2_with fail
          exact ⟨⟨j + 1, by omega, by simp, hfin⟩, by simp [intOf]; omega⟩
      · have hjn : j = n := by omega
        have i2 : ¬ (j : Int) < (n : Int) := by omega
        subst hjn
        have hqf := HX0.bel
        clear HX0
        go_wp2_with fail
        go_ret
        exact ⟨rfl, hqf⟩
end Go.Proofs.YtmphegeiclgjbaaGreatDoor
