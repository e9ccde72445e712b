
/- The law: a client whose latest time is over shows nothing, and takes no news by what it trusts there. -/
import Derived.Test.YtmphegeiclgjbaaGreatDoorClnG1
import Derived.Test.YtmphegeiclgjbaaGreatDoorClnM5
import Derived.Test.YtmphegeiclgjbaaGreatDoorMsgV
namespace Go.Proofs.YtmphegeiclgjbaaGreatDoor
set_option maxRecDepth 100000
open Go Go.RowKit
set_option linter.unusedVariables false
theorem LS.upL {w Z Z' : World} {b1 m1 b2 m2 g N : Nat} (h : LS w b1 m1 b2 m2 g N Z) (hb : Below Z.heap.size Z Z') : LS w b1 m1 b2 m2 g N Z' := by
  obtain ⟨R1, R2, hs⟩ := h.s
  exact ⟨⟨R1, R2, hs.up hb⟩, (Kept.of_belowX hb).cell h.x, (Kept.of_belowX hb).cell h.y⟩
structure LSK (w : World) (b1 m1 b2 m2 g N : Nat) (w0 Z : World) : Prop where
  l : LS w b1 m1 b2 m2 g N Z
  k : Kept w0 Z
theorem readCs_lt {l : List UInt8} {v : CsV} (h : readCs l = some v) : v.tm < 18446744073709551616 := by
  unfold readCs at h
  dsimp only at h
  split at h
  · injection h with h
    subst h
    exact rN_ltP _ _
  · cases h
theorem gotS_lt {R : List Pr} {id : ByteArray} {n : Nat} : (gotS (getCs R id n)).tm < 18446744073709551616 := by
  cases h : getCs R id n with
  | none => decide
  | some v =>
    unfold getCs at h
    split at h
    · cases hl : getL R (kCons id n) with
      | none => rw [hl] at h; cases h
      | some l =>
        rw [hl] at h
        exact readCs_lt (show readCs l = some v from h)
    · cases h
theorem wrap_sum {a b : Nat} (ha : a < 18446744073709551616) (hb : b < 18446744073709551616) : ∃ v : Nat, IntKind.u64.wrap ((a : Int) + (b : Int)) = (v : Int) ∧ v < 18446744073709551616 ∧ (¬ v < a → v = a + b) := by
  refine ⟨(a + b) % 18446744073709551616, ?_, by omega, fun h => by omega⟩
  rw [IntKind.wrap_u64]
  omega
set_option maxHeartbeats 64000000 in
theorem clexpires_law (w : World) (v1 v2 v3 : Value) (ps1 ps2 : List Pr) (xs : List StepV) (h1 : RdP w w.heap.size v1 ps1) (h2 : RdP w w.heap.size v2 ps2) (n1 : ∀ p ∈ ps1, p.1.size ≤ maxLen) (n2 : ∀ p ∈ ps2, p.1.size ≤ maxLen) (l1 : ps1.length ≤ 2000000) (l2 : ps2.length ≤ 2000000)
    (hx : RdSt w v3 xs) (hf : ∀ x ∈ xs, x.fine) (lx : xs.length ≤ 2000000) (hT : Pows w) (fr : TypeId × Nat × Nat) (hk : w.heap[0]? = some (.cells kVals fr.1 fr.2)) :
    Calls Tryz.prog 6 #[v1, v2, v3] w fun e w' => e = .returned (.bool true) ∧ Below w.heap.size w w' := by
  have HS := Lib.hid (clstores_any w v1 v2 ps1 ps2 h1 h2 n1 n2 l1 l2)
  have HFX : Hid (∀ Z, Below w.heap.size w Z → Calls Tryz.prog 12 #[] Z fun e w' => e = .returned (.bool true) ∧ Below Z.heap.size Z w') := Lib.hid fun Z hz => clfixed_any Z fr ((hz.block _ (blk_lt hk)).trans hk)
  have HX := Lib.hid (fun (Z : World) (hz : Kept w Z) => hx.keptM hz)
  have HFI := Lib.hid hf
  have HTB : Hid (∀ Z, Kept w Z → Pows Z ∧ Z.heap[0]? = some (.cells kVals fr.1 fr.2)) := Lib.hid fun Z hz => ⟨hT.kept hz, hz.blockP hk⟩
  obtain ⟨A1, c1, rfl⟩ : ∃ A c, v1 = .slice A ps1.length c := by obtain ⟨A, c, h, _⟩ := h1; exact ⟨A, c, h⟩
  obtain ⟨A2, c2, rfl⟩ : ∃ A c, v2 = .slice A ps2.length c := by obtain ⟨A, c, h, _⟩ := h2; exact ⟨A, c, h⟩
  obtain ⟨A3, c3, rfl⟩ : ∃ A c, v3 = .slice A xs.length c := by obtain ⟨A, c, h, _⟩ := hx; exact ⟨A, c, h⟩
  obtain ⟨n, hn⟩ : ∃ n, n = xs.length := ⟨_, rfl⟩
  rw [← hn] at HX ⊢
  have HN : Hid (n = xs.length ∧ n ≤ 2000000) := Lib.hid ⟨hn, by rw [hn]; exact lx⟩
  clear h1 h2 n1 n2 l1 l2 hx hf lx hT hk hn
  go_enter Tryz.func6, Tryz.ntmps6
  go_wp2_with fail
  refine HS.out.mono ?_
  rintro e w1 ⟨p1, p2, ok, rfl, hb1, hok⟩
  have HBL : Hid (∀ Z, Z = w1.alloc (.cells #[.pointer p1, .pointer p2] 25) → Below w.heap.size w Z) := Lib.hid fun Z e => by rw [e]; exact hb1.trans (((Below.refl _ _).alloc (Nat.le_refl _) _).mono hb1.size)
  have HUP : Hid (∀ (Z : World) (b m b' m' : Nat) (R R' : List Pr) (N : Nat), Z = w1.alloc (.cells #[.pointer p1, .pointer p2] 25) → Sts w b m b' m' R R' N w1 → Sts w b m b' m' R R' N Z) := Lib.hid fun Z b m b' m' R R' N e h => by rw [e]; exact h.up ((Below.refl _ _).alloc (Nat.le_refl _) _)
  have HRG := Lib.hid (heap_alloc_new w1 (.cells #[.pointer p1, .pointer p2] 25))
  have HOK := Lib.hid hok
  clear HS hb1 hok
  go_wp2_with fail
  generalize w1.alloc (.cells #[.pointer p1, .pointer p2] 25) = wB at *
  generalize w1.heap.size = g7 at *
  have hqB := HBL.out _ rfl
  refine (HFX.out _ hqB).mono ?_
  rintro e w4 ⟨rfl, hb4⟩
  have hq4 : Below w.heap.size w w4 := hqB.trans (hb4.mono hqB.size)
  cases ok with
  | false =>
    clear HBL HUP HRG HOK hqB hb4
    go_wp2_with fail
    refine (HFX.out _ hq4).mono ?_
    rintro e w5 ⟨rfl, hb5⟩
    have hq5 : Below w.heap.size w w5 := hq4.trans (hb5.mono hq4.size)
    clear hq4 hb5
    go_wp2_with fail
    go_ret
    exact ⟨rfl, hq5⟩
  | true =>
    obtain ⟨b1, m1, b2, m2, rfl, rfl, hst, hn1, hn2⟩ := HOK.out rfl
    have HL : Hid (LS w b1 m1 b2 m2 g7 2000000 w4) := Lib.hid (by
      have hs := (HUP.out _ _ _ _ _ _ _ _ rfl hst).up hb4
      have hk4 := Kept.of_belowX hb4
      exact ⟨⟨_, _, hs⟩, hk4.cell (blk_cell HRG.out 0), hk4.cell (blk_cell HRG.out 1)⟩)
    clear HBL HUP HRG HOK hqB hb4 hst hn1 hn2 hq4 HFX
    go_wp2_with fail
    go_loopw [36] (fun i Z => ∃ j : Nat, j ≤ n ∧ i = .int .i64 (j : Int) ∧ LS w b1 m1 b2 m2 g7 (2000000 + 3 * j) Z)
      (fun i _ => n - (intOf i).toNat)
    case atStart => exact ⟨0, by omega, rfl, HL.out⟩
    case round => as_aux_lemma =>
      clear HL
      obtain ⟨j, hj, rfl, HX0⟩ := hrel
      by_cases hlt : j < n
      · have hkr := Kept.of_belowX HX0.bel
        have HTR := Lib.hid (fun (Z : World) (hz : Kept wr Z) => HTB.out _ (hkr.transX hz))
        obtain ⟨A', c', e', hrd, hcell⟩ := HX.out _ hkr
        have hjl : j < xs.length := by have := HN.out.1; omega
        obtain ⟨g, o, hA', -, hcl⟩ := hcell (by omega)
        injection e' with e1 e2 e3
        subst e1 e3
        subst hA'
        have hck := hcl j hjl
        have hmem : xs[j] ∈ xs := List.getElem_mem hjl
        have hm0 := hrd _ hmem
        have hfn := HFI.out _ hmem
        generalize xs[j] = x at *
        have HM := Lib.hid (fun (Z : World) (hz : Kept wr Z) => hm0.keptM hz)
        have HFQ := Lib.hid hfn
        obtain ⟨SL, hSL⟩ : ∃ L : List Value, L = x.cells := ⟨_, rfl⟩
        rw [← hSL] at hck
        have hl66 : SL.length = 66 := by rw [hSL]; rfl
        have hrng : wr.rangeAt g (o + j * 66) SL := fun i u hu => hck i u (by have := (List.getElem?_eq_some_iff.1 hu).1; omega) hu
        have HRNG := Lib.hid hrng
        have HINF : Hid ((Tryz.prog.info? 48).map (·.size) = some SL.length) := Lib.hid (by rw [hl66]; kernel_rfl)
        have HONE : Hid (SL.toArray.all (·.oneCell') = true) := Lib.hid (by rw [hSL]; exact x.one hm0)
        have HSL := Lib.hid hSL
        have hz66 : Array.size Tryz.zeroCells48 = 66 := by kernel_rfl
        have HTH : Hid ((wr.alloc (.cells Tryz.zeroCells48 48)).there wr.heap.size 0 SL.toArray.size) := Lib.hid (there_new _ _ _ _ (by rw [hz66]; simp [hl66]))
        have hrg0 := range_new wr (Tryz.zeroCells48) 48 SL (by rw [hz66, hl66]; exact Nat.le_refl _)
        have hb0 := below_new wr (Tryz.zeroCells48) 48 SL
        have hk0 := Kept.of_belowX hb0
        obtain ⟨i, b, m, b', m', R, R', hi, hi2, hs, hcb, hre⟩ := HX0.pick _ (and1i x.on)
        have HJ : Hid (2000000 + 3 * j + 3 ≤ 100000000 ∧ 2000000 + 3 * j + 3 = 2000000 + 3 * (j + 1)) := Lib.hid (by have := HN.out.2; omega)
        have hs0 := hs.up hb0
        have HR0 := Lib.hid (And.intro hs0 (And.intro hk0 hrg0))
        have HKB := Lib.hid (fun (Z : World) (hz : Kept wr Z) => hz.cell hcb)
        have HRE := Lib.hid hre
        have i1 : (0 : Int) ≤ (i : Int) := by omega
        have i2 : (i : Int) < 2 := by omega
        clear hs hs0 hcb hre
        have hj9 : n ≤ 2000000 := HN.out.2
        have j1 : (0 : Int) ≤ (j : Int) := by omega
        have j2 : (j : Int) < (n : Int) := by omega
        clear hz66 hck hcl hcell hrd hmem hm0 hfn hl66 hrng hSL hrg0 hb0 hk0 HX0 hkr e2
        go_wp2_with (first
          | (with_reducible refine at_load 48 ?_; refine wpList_load_mid rfl 48 (.tmp 38) rfl g (o + j * 66) rfl SL _ HRNG.out Tryz.underlying48 rfl HINF.out ?_)
          | (with_reducible refine at_store 48 ?_; refine wpList_store_mid rfl 48 (.tmp 10) (.tmp 39) rfl wr.heap.size 0 SL.toArray rfl rfl HTH.out (by have := HINF.out; simpa using this) HONE.out ?_))
        try simp only [List.toList_toArray]
        generalize (wr.alloc (.cells Tryz.zeroCells48 48)).setCells wr.heap.size 0 SL = w0 at *
        generalize wr.heap.size = g10 at *
        obtain ⟨hs0, hk0, hrg0⟩ := HR0.out
        obtain ⟨nn, ff, hnn, AT0⟩ := hs0.at
        have hbd : Below w0.heap.size w0 w0.drew := (Below.refl _ _).drew
        have hkd := Kept.of_belowX hbd
        have hST := fun (Z : World) (hz : Below w0.heap.size w0 Z) => clstep_any (AT0.up hz) (show nn + 0 + 3 ≤ maxLen by have := HJ.out.1; unfold maxLen; omega) x (HM.out _ (hk0.transX (Kept.of_belowX hz))) HFQ.out (HTR.out _ (hk0.transX (Kept.of_belowX hz))).1 fr (HTR.out _ (hk0.transX (Kept.of_belowX hz))).2
        obtain ⟨⟨E, R2⟩, hU⟩ : ∃ p, p = stepM14 R x := ⟨_, rfl⟩
        rw [← HSL.out, ← hU] at hST
        dsimp only at hST
        have HST := Lib.hid hST
        have HC7 := Lib.hid (fun (Z : World) (hz : Kept w0 Z) => And.intro (hz.cell (range_cellT hrg0 0 (.int .i64 x.on) (by rw [HSL.out]; rfl))) (hz.cell (HKB.out w0 hk0)))
        have HRA := Lib.hid (fun (Z : World) (hz : Kept w0 Z) => range_kept hrg0 hz)
        have HS0 := Lib.hid (And.intro hs0 (And.intro hnn hk0))
        clear hs0 hk0 hrg0 hnn AT0 hU hST HR0 HTH HRNG HONE
        refine wp_region_held_drew (S := KepS w0.drew) (by kernel_rfl) (KepS.refl _) (fun hS0 => ?_)
        refine wpAnyH_take (i := 0) (oi := _) (v := ?_) rfl (by kernel_rfl) (by kernel_rfl) (by kernel_rfl) (fun _ _ _ h => h) (Or.inl ⟨by rfl, ?_⟩) hS0 ?_
        rotate_left
        · intro W hSW
          try go_simp
          all_goals with_reducible rfl
        simp only [Act.put, List.setIfInBounds_toArray, List.set_cons_zero, List.set_cons_succ, List.getElem_toArray, List.getElem_cons_zero, List.getElem_cons_succ]
        refine wpAnyH_take (i := 1) (oi := _) (v := ?_) rfl (by kernel_rfl) (by kernel_rfl) (by kernel_rfl) (fun _ _ _ h => h) (Or.inl ⟨by rfl, ?_⟩) hS0 ?_
        rotate_left
        · intro W hSW
          obtain ⟨k0, kb⟩ := HC7.out W (hkd.transX hSW)
          try go_simp
          all_goals with_reducible rfl
        simp only [Act.put, List.setIfInBounds_toArray, List.set_cons_zero, List.set_cons_succ, List.getElem_toArray, List.getElem_cons_zero, List.getElem_cons_succ]
        refine wpAnyH_take (i := 2) (oi := _) (v := ?_) rfl (by kernel_rfl) (by kernel_rfl) (by kernel_rfl) (fun _ _ _ h => h) (Or.inl ⟨by rfl, ?_⟩) hS0 ?_
        rotate_left
        · intro W hSW
          obtain ⟨k0, kb⟩ := HC7.out W (hkd.transX hSW)
          try go_simp
          all_goals with_reducible rfl
        simp only [Act.put, List.setIfInBounds_toArray, List.set_cons_zero, List.set_cons_succ, List.getElem_toArray, List.getElem_cons_zero, List.getElem_cons_succ]
        refine wpAnyH_take (i := 3) (oi := _) (v := ?_) rfl (by kernel_rfl) (by kernel_rfl) (by kernel_rfl) (fun _ _ _ h => h) (Or.inl ⟨by rfl, ?_⟩) hS0 ?_
        rotate_left
        · intro W hSW
          obtain ⟨k0, kb⟩ := HC7.out W (hkd.transX hSW)
          try go_simp
          all_goals with_reducible rfl
        simp only [Act.put, List.setIfInBounds_toArray, List.set_cons_zero, List.set_cons_succ, List.getElem_toArray, List.getElem_cons_zero, List.getElem_cons_succ]
        refine wpAnyH_take (i := 4) (oi := _) (v := ?_) rfl (by kernel_rfl) (by kernel_rfl) (by kernel_rfl) (fun _ _ _ h => h) (Or.inl ⟨by rfl, ?_⟩) hS0 ?_
        rotate_left
        · intro W hSW
          obtain ⟨k0, kb⟩ := HC7.out W (hkd.transX hSW)
          try go_simp
          all_goals with_reducible rfl
        simp only [Act.put, List.setIfInBounds_toArray, List.set_cons_zero, List.set_cons_succ, List.getElem_toArray, List.getElem_cons_zero, List.getElem_cons_succ]
        refine wpAnyH_take (i := 5) (oi := _) (v := .agg SL.toArray) rfl (by kernel_rfl) (by kernel_rfl) (by kernel_rfl) (fun _ _ _ h => h) (yieldsIf_load_mid (by rfl) 48 (.tmp 10) rfl g10 0 rfl SL _ (fun W h => HRA.out W (hkd.transX h)) Tryz.underlying48 rfl HINF.out) hS0 ?_
        simp only [Act.put, List.setIfInBounds_toArray, List.set_cons_zero, List.set_cons_succ, List.getElem_toArray, List.getElem_cons_zero, List.getElem_cons_succ]
        refine wpAnyH_ready (rs := [6]) (by kernel_rfl) (by simp) (AllReadyH.cons rfl (fun K hK => ?_) AllReadyH.nil)
        have DU := Lib.hid (HST.out w0.drew hbd)
        go_simp
        go_wp2_with ((go_at_call 14; (with_reducible refine DU.out.mono ?_); rintro e wU ⟨rfl, AU, hkU⟩))
        have hzU := hkd.transX hkU
        refine hK.out _ _ hkU (fun _ => ?_)
        clear hK K DU
        refine wpAnyH_stronger (S' := KepS wU) (fun W h => hkU.transX h) _ _ _ _ ?_
        have hSU : KepS wU wU := KepS.refl wU
        refine wpAnyH_done (by kernel_rfl) ?_ _
        have hfin : LS w b1 m1 b2 m2 g7 (2000000 + 3 * (j + 1)) wU := HRE.out R2 wU _ (by
          have h := HS0.out.1.step HS0.out.2.1 AU
          have e : 2000000 + 3 * j + (0 + 3) = 2000000 + 3 * (j + 1) := by omega
          rw [← e]; exact h) (HS0.out.2.2.transX hzU)
        clear AU hkU hzU hSU HST HC7 HRA HS0 HRE HKB HM HFQ HTR HJ HSL HINF hbd hkd hS0
        go_wp2_with fail
        exact ⟨⟨j + 1, by omega, by simp, hfin⟩, by simp [intOf]; omega⟩
      · have hjn : j = n := by omega
        have i2 : ¬ (j : Int) < (n : Int) := by omega
        have HXE : Hid (LS w b1 m1 b2 m2 g7 (2000000 + 3 * n) wr) := Lib.hid (by rw [← hjn]; exact HX0)
        subst hjn
        clear HX0 i2
        generalize hww : wr = wE at *
        clear hww
        have i2 : ¬ (j : Int) < (j : Int) := by omega
        go_wp2_with fail
        clear i2
        go_loopw [50] (fun i Z => ∃ k : Nat, k ≤ j ∧ i = .int .i64 (k : Int) ∧ LS w b1 m1 b2 m2 g7 (2000000 + 3 * j) Z)
          (fun i _ => j - (intOf i).toNat)
        case atStart => exact ⟨0, by omega, rfl, HXE.out⟩
        case round =>
          clear HXE
          obtain ⟨k, hk, rfl, HX0⟩ := hrel
          by_cases hlt : k < j
          · have hkr := Kept.of_belowX HX0.bel
            have HTR := Lib.hid (fun (Z : World) (hz : Kept wr Z) => HTB.out _ (hkr.transX hz))
            obtain ⟨A', c', e', hrd, hcell⟩ := HX.out _ hkr
            have hjl : k < xs.length := by have := HN.out.1; omega
            obtain ⟨g, o, hA', -, hcl⟩ := hcell (by omega)
            injection e' with e1 e2 e3
            subst e1 e3
            subst hA'
            have hck := hcl k hjl
            have hmem : xs[k] ∈ xs := List.getElem_mem hjl
            have hm0 := hrd _ hmem
            have hfn := HFI.out _ hmem
            generalize xs[k] = x at *
            have HM := Lib.hid (fun (Z : World) (hz : Kept wr Z) => hm0.keptM hz)
            have HFQ := Lib.hid hfn
            obtain ⟨SL, hSL⟩ : ∃ L : List Value, L = x.cells := ⟨_, rfl⟩
            rw [← hSL] at hck
            have hl66 : SL.length = 66 := by rw [hSL]; rfl
            have hrng : wr.rangeAt g (o + k * 66) SL := fun i u hu => hck i u (by have := (List.getElem?_eq_some_iff.1 hu).1; omega) hu
            have HRNG := Lib.hid hrng
            have HINF : Hid ((Tryz.prog.info? 48).map (·.size) = some SL.length) := Lib.hid (by rw [hl66]; kernel_rfl)
            have HONE : Hid (SL.toArray.all (·.oneCell') = true) := Lib.hid (by rw [hSL]; exact x.one hm0)
            have HSL := Lib.hid hSL
            have hz66 : Array.size Tryz.zeroCells48 = 66 := by kernel_rfl
            have HTH : Hid ((wr.alloc (.cells Tryz.zeroCells48 48)).there wr.heap.size 0 SL.toArray.size) := Lib.hid (there_new _ _ _ _ (by rw [hz66]; simp [hl66]))
            have hrg0 := range_new wr (Tryz.zeroCells48) 48 SL (by rw [hz66, hl66]; exact Nat.le_refl _)
            have hb0 := below_new wr (Tryz.zeroCells48) 48 SL
            have hk0 := Kept.of_belowX hb0
            have hx0 : LS w b1 m1 b2 m2 g7 (2000000 + 3 * j) ((wr.alloc (.cells Tryz.zeroCells48 48)).setCells wr.heap.size 0 SL) := HX0.upL hb0
            have HR0 := Lib.hid (And.intro hx0 (And.intro hk0 hrg0))
            have kx := hx0.x
            have ky := hx0.y
            clear hx0
            have hj9 : j ≤ 2000000 := HN.out.2
            have j1 : (0 : Int) ≤ (k : Int) := by omega
            have j2 : (k : Int) < (j : Int) := by omega
            clear hz66 hck hcl hcell hrd hmem hm0 hfn hl66 hrng hSL hrg0 hb0 hk0 HX0 hkr e2
            go_wp2_with (first
              | (with_reducible refine at_load 48 ?_; refine wpList_load_mid rfl 48 (.tmp 52) rfl g (o + k * 66) rfl SL _ HRNG.out Tryz.underlying48 rfl HINF.out ?_)
              | (with_reducible refine at_store 48 ?_; refine wpList_store_mid rfl 48 (.tmp 12) (.tmp 53) rfl wr.heap.size 0 SL.toArray rfl rfl HTH.out (by have := HINF.out; simpa using this) HONE.out ?_))
            try simp only [List.toList_toArray]
            clear kx ky
            generalize (wr.alloc (.cells Tryz.zeroCells48 48)).setCells wr.heap.size 0 SL = w0 at *
            generalize wr.heap.size = g12 at *
            obtain ⟨hx0, hk0, hrg0⟩ := HR0.out
            obtain ⟨ML, hML⟩ : ∃ L : List Value, L = x.m.cells := ⟨_, rfl⟩
            have HML := Lib.hid hML
            have hSM : SL = .int .i64 x.on :: .int .u64 (x.self : Int) :: .int .u64 (x.now : Int) :: .string x.sg :: ML := by rw [HSL.out, hML]; rfl
            have HINM : Hid ((Tryz.prog.info? 46).map (·.size) = some ML.length) := Lib.hid (by rw [hML]; kernel_rfl)
            have hrM : w0.rangeAt g12 4 ML := fun q v hv => by
              have h := hrg0 (q + 4) v (by rw [hSM]; exact hv)
              rwa [Nat.zero_add, Nat.add_comm] at h
            have HRM := Lib.hid (fun (Z : World) (hz : Kept w0 Z) => (show Z.rangeAt g12 4 ML from fun q v hv => hz.cell (hrM q v hv)))
            have hm1 := HM.out _ (Kept.refl _)
            obtain ⟨Ar, cr, hvr⟩ := hm1.r_h.r.form
            obtain ⟨Av, cv, hvv⟩ := hm1.r_h.v.form
            obtain ⟨An, cn, hvn⟩ := hm1.r_h.n.form
            obtain ⟨As, cs, hvs⟩ := hm1.r_s1.form
            obtain ⟨Ax, cx, hvx⟩ := hm1.r_s3.form
            obtain ⟨Ao, co, hvo⟩ := hm1.r_t1.form
            obtain ⟨Ap, cp, hvp⟩ := hm1.r_pf.form
            have HCF : Hid (∀ Z, Kept w0 Z → Z.cell? ⟨g12, 11, none⟩ = some (.string x.m.cl) ∧ Z.cell? ⟨g12, 38, none⟩ = some (.int .u64 (x.m.ht : Int)) ∧ Z.cell? ⟨g12, 5, none⟩ = some (.string x.m.to) ∧ Z.cell? ⟨g12, 49, none⟩ = some (.int .i64 x.m.pf.n) ∧ Z.cell? ⟨g12, 50, none⟩ = some (.slice Ap x.m.pf.ls.length cp)) := Lib.hid fun Z hz => ⟨hz.cell (range_cellT hrg0 11 _ (by rw [HSL.out]; rfl)), hz.cell (range_cellT hrg0 38 _ (by rw [HSL.out]; rfl)), hz.cell (range_cellT hrg0 5 _ (by rw [HSL.out]; rfl)), hz.cell (range_cellT hrg0 49 _ (by rw [HSL.out]; rfl)), by rw [← hvp]; exact hz.cell (range_cellT hrg0 50 _ (by rw [HSL.out]; rfl))⟩
            have hnw := fun (Z : World) (hz : Kept w0 Z) => clnews_any x.m Z (HM.out _ (hk0.transX hz))
            rw [← hML] at hnw
            unfold nwOf NwW.val at hnw
            dsimp only at hnw
            rw [hvr, hvv, hvn, hvs, hvx, hvo] at hnw
            have HNW := Lib.hid hnw
            have HPV := Lib.hid hvp
            have HUV : Hid (∀ la : Nat, ({nwOf x.m with ua := la} : NwW).val = .agg #[.string x.m.h.ch, .int .u64 (x.m.h.ht : Int), .int .u64 (x.m.h.tm : Int), .slice Ar x.m.h.rt.length cr, .slice Av x.m.h.va.length cv, .slice An x.m.h.nx.length cn, .slice As x.m.s1.length cs, .slice Ax x.m.s3.length cx, .slice Ao x.m.t1.length co, .int .u64 (la : Int)]) := Lib.hid fun la => by
              unfold nwOf NwW.val
              dsimp only
              rw [hvr, hvv, hvn, hvs, hvx, hvo]
            have HK0 := Lib.hid hk0
            have HX0 := Lib.hid hx0
            have hcl : x.m.cl.size ≤ 1048576 := HFQ.out.m.t _ (by simp [MsgV.texts])
            have hto : x.m.to.size ≤ 1048576 := HFQ.out.m.t _ (by simp [MsgV.texts])
            have HCL := Lib.hid (And.intro hcl hto)
            clear hML hSM hrM hm1 hvr hvv hvn hvs hvx hvo hvp hnw hk0 hx0 hrg0 hcl hto HR0 HTH HRNG HONE HSL
            go_loopw [55] (fun i Z => ∃ q : Nat, q ≤ 2 ∧ i = .int .i64 (q : Int) ∧ LSK w b1 m1 b2 m2 g7 (2000000 + 3 * j) w0 Z)
              (fun i _ => 2 - (intOf i).toNat)
            case atStart => exact ⟨0, by omega, rfl, ⟨HX0.out, Kept.refl _⟩⟩
            case round =>
              obtain ⟨q, hq, rfl, hY⟩ := hrel
              have HY := Lib.hid hY
              by_cases hq2 : q < 2
              · skip
                obtain ⟨R1, Rb, hsts⟩ := hY.l.s
                rcases (show q = 0 ∨ q = 1 by omega) with rfl | rfl
                · obtain ⟨R, hR⟩ : ∃ R, R = R1 := ⟨_, rfl⟩
                  have hs : Sts w b1 m1 b2 m2 R Rb (2000000 + 3 * j) wr := by rw [hR]; exact hsts
                  have HRE : Hid (∀ (R2 : List Pr) (Z : World) (N : Nat), Sts w b1 m1 b2 m2 R2 Rb N Z → Kept wr Z → LS w b1 m1 b2 m2 g7 N Z) := Lib.hid fun R2 Z N k hk => ⟨⟨_, _, k⟩, hk.cell HY.out.l.x, hk.cell HY.out.l.y⟩
                  clear hsts hR hY hq hq2
                  have hkw := HK0.out.transX HY.out.k
                  obtain ⟨nn, ff, hnn, AT0⟩ := hs.at
                  have hG0 := clget_any AT0 x.m.cl (by have := HCL.out.1; omega)
                  rw [clV_got] at hG0
                  have hok0 : (gotC (getCl R x.m.cl)).ok := gotC_ok
                  have hex := expires (R := R) (id := x.m.cl)
                  have hTO := fun (la : Nat) (hla : la < 18446744073709551616) (Z : World) (hz : Below wr.heap.size wr Z) => csgot_any (AT0.up hz) x.m.cl la hla (by have := HCL.out.1; omega)
                  have hVE := fun (now : Nat) (hnow : now < 18446744073709551616) (Z : World) (hz : Below wr.heap.size wr Z) => clverify_any (AT0.up hz) x.m.cl x.m.ht now (by have := HCL.out.1; omega) (HM.out _ (Kept.refl _)).lt_ht hnow x.m.to (.slice none 0 0) [] x.m.pf.n Ap x.m.pf.ls.length cp x.m.pf (fun Y hy => ⟨_, rfl, by rw [← HPV.out]; exact (HM.out _ ((hkw.transX (Kept.of_belowX hz)).transX (Kept.of_belowX hy))).r_pf, (HM.out _ (Kept.refl _)).in_pf⟩) (Rd.nil _ _) fr (HTR.out _ (hkw.transX (Kept.of_belowX hz))).2
                  have hUD := fun (la : Nat) (hla : la < 18446744073709551616) (now : Nat) (hnow : now < 18446744073709551616) (z : Lyr) (l : List Lyr) (Z : World) (A : At Z z l R 0 Z) (h0 : z.n = 0) (hz : Kept wr Z) => clupd_any A (show z.n + 0 + 3 ≤ maxLen by rw [h0]; unfold maxLen; omega) x.m.cl (by have := HCL.out.1; omega) ({nwOf x.m with ua := la} : NwW) ⟨(nwOf_rd (HM.out _ (hkw.transX hz)) HFQ.out.m).h, (nwOf_rd (HM.out _ (hkw.transX hz)) HFQ.out.m).s, (nwOf_rd (HM.out _ (hkw.transX hz)) HFQ.out.m).t, (nwOf_rd (HM.out _ (hkw.transX hz)) HFQ.out.m).o, hla, (nwOf_rd (HM.out _ (hkw.transX hz)) HFQ.out.m).ls, (nwOf_rd (HM.out _ (hkw.transX hz)) HFQ.out.m).lt⟩ now hnow fr (HTR.out _ (hkw.transX hz)).2
                  obtain ⟨C0, hC0⟩ : ∃ C, C = gotC (getCl R x.m.cl) := ⟨_, rfl⟩
                  obtain ⟨B0, hB0⟩ : ∃ B, B = (getCl R x.m.cl).isSome := ⟨_, rfl⟩
                  rw [← hC0, ← hB0] at hG0 hex
                  rw [← hC0] at hok0
                  obtain ⟨T, hT⟩ : ∃ T, T = gotS (getCs R x.m.cl C0.la) := ⟨_, rfl⟩
                  obtain ⟨bT, hbT⟩ : ∃ q, q = (getCs R x.m.cl C0.la).isSome := ⟨_, rfl⟩
                  have hTX := hTO C0.la hok0.2.1
                  rw [← hT, ← hbT] at hTX hex
                  obtain ⟨ch0, la0, pe0, fr0⟩ := C0
                  unfold ClV.val at hG0
                  dsimp only at hG0 hex hTX hok0
                  have HG0 := Lib.hid hG0
                  have HTO := Lib.hid hTX
                  have HEX := Lib.hid hex
                  have HVE := Lib.hid hVE
                  have HUD := Lib.hid (hUD la0 hok0.2.1)
                  have HOK := Lib.hid hok0
                  have HTM : Hid (T.tm < 18446744073709551616) := Lib.hid (by rw [hT]; exact gotS_lt)
                  have HBR := Lib.hid hs
                  have HKW := Lib.hid hkw
                  clear hkw hnn AT0 hG0 hok0 hex hTO hTX hVE hUD hC0 hB0 hT hbT hs
                  obtain ⟨k1, k2, k3, k4, k5⟩ := HCF.out _ HY.out.k
                  have hix : ∀ W : World, (Instr.index 25 (.agg #[.pointer (some ⟨b1, 0, none⟩), .pointer (some ⟨b2, 0, none⟩)]) (.int .i64 0)).run Tryz.prog W = .ok (.pointer (some ⟨b1, 0, none⟩)) W := fun W => rfl
                  go_wp2_with fail
                  refine HG0.out.mono ?_
                  rintro e wA ⟨rfl, hbA⟩
                  clear k1 k2 k3 k4 k5 HG0 hix
                  have hmA := heap_alloc_new wA (.cells #[.string ch0, .int .u64 (la0 : Int), .int .u64 (pe0 : Int), .bool fr0] 50)
                  have hbA1 : Below wA.heap.size wA (wA.alloc (.cells #[.string ch0, .int .u64 (la0 : Int), .int .u64 (pe0 : Int), .bool fr0] 50)) := (Below.refl _ _).alloc (Nat.le_refl _) _
                  have HMA := Lib.hid hmA
                  have hqA := hbA.trans (hbA1.mono hbA.size)
                  have HQA := Lib.hid hqA
                  have a1 : (wA.alloc (.cells #[.string ch0, .int .u64 (la0 : Int), .int .u64 (pe0 : Int), .bool fr0] 50)).cell? ⟨wA.heap.size, 1, none⟩ = some (.int .u64 (la0 : Int)) := blk_cell hmA 1
                  obtain ⟨k1, k2, k3, k4, k5⟩ := HCF.out _ (HY.out.k.transX (Kept.of_belowX hqA))
                  clear hmA hbA1 hqA hbA
                  go_wp2_with fail
                  clear a1 k1 k2 k3 k4 k5
                  generalize wA.alloc (.cells #[.string ch0, .int .u64 (la0 : Int), .int .u64 (pe0 : Int), .bool fr0] 50) = WA at *
                  generalize wA.heap.size = gA at *
                  refine (HTO.out _ HQA.out).mono ?_
                  rintro e wB ⟨AT1, cT1, AT2, cT2, rfl, -, -, hbB⟩
                  clear HTO
                  have hmB := heap_alloc_new wB (.cells #[.int .u64 (T.tm : Int), .slice AT1 T.rt.length cT1, .slice AT2 T.nx.length cT2] 59)
                  have hbB1 : Below wB.heap.size wB (wB.alloc (.cells #[.int .u64 (T.tm : Int), .slice AT1 T.rt.length cT1, .slice AT2 T.nx.length cT2] 59)) := (Below.refl _ _).alloc (Nat.le_refl _) _
                  have hqB0 := HQA.out.trans (hbB.mono HQA.out.size)
                  have hqB := hqB0.trans (hbB1.mono hqB0.size)
                  have hkAB := (Kept.of_belowX hbB).transX (Kept.of_belowX hbB1)
                  have hmA2 := hkAB.blockP HMA.out
                  obtain ⟨wh, hwh⟩ : ∃ v : Nat, IntKind.u64.wrap ((T.tm : Int) + (pe0 : Int)) = (v : Int) ∧ v < 18446744073709551616 ∧ (¬ v < T.tm → v = T.tm + pe0) := wrap_sum HTM.out HOK.out.2.2
                  obtain ⟨hw1, hw2, hw3⟩ := hwh
                  have HW := Lib.hid (And.intro hw2 hw3)
                  have HLB : Hid (LSK w b1 m1 b2 m2 g7 (2000000 + 3 * j) w0 (wB.alloc (.cells #[.int .u64 (T.tm : Int), .slice AT1 T.rt.length cT1, .slice AT2 T.nx.length cT2] 59))) := Lib.hid ⟨HY.out.l.upL hqB, HY.out.k.transX (Kept.of_belowX hqB)⟩
                  have HQB := Lib.hid hqB
                  have HMA2 := Lib.hid hmA2
                  have HMB := Lib.hid hmB
                  have a0 := blk_cell hmA2 0
                  have a1 := blk_cell hmA2 1
                  have a2 := blk_cell hmA2 2
                  have a3 := blk_cell hmA2 3
                  have t0 := blk_cell hmB 0
                  clear hmB hbB1 hqB0 hqB hkAB hmA2 hbB HMA HQA hw2 hw3
                  cases B0 with
                  | false =>
                    have hfin := HLB.out
                    clear HEX HVE HUD HOK HTM HBR HKW HW HLB HQB HMA2 HMB HY
                    go_wp2_with fail
                    exact ⟨⟨1, by omega, by simp, hfin⟩, by simp [intOf]⟩
                  | true =>
                    cases bT with
                    | false =>
                      have hfin := HLB.out
                      clear HEX HVE HUD HOK HTM HBR HKW HW HLB HQB HMA2 HMB HY
                      go_wp2_with fail
                      exact ⟨⟨1, by omega, by simp, hfin⟩, by simp [intOf]⟩
                    | true =>
                      cases fr0 with
                      | true =>
                        have hfin := HLB.out
                        clear HEX HVE HUD HOK HTM HBR HKW HW HLB HQB HMA2 HMB HY
                        go_wp2_with fail
                        exact ⟨⟨1, by omega, by simp, hfin⟩, by simp [intOf]⟩
                      | false =>
                        by_cases hlw : wh < T.tm
                        · have hl2 : (wh : Int) < (T.tm : Int) := by omega
                          have hfin := HLB.out
                          clear HEX HVE HUD HOK HTM HBR HKW HW HLB HQB HMA2 HMB HY hlw
                          go_wp2_with fail
                          exact ⟨⟨1, by omega, by simp, hfin⟩, by simp [intOf]⟩
                        · have hl2 : ¬ (wh : Int) < (T.tm : Int) := by omega
                          have ew := HW.out.2 hlw
                          obtain ⟨hx1, hx2⟩ := HEX.out (by first | rfl | trivial) (by first | rfl | trivial) (by first | rfl | trivial)
                          rw [← ew] at hx1 hx2
                          have HX1 := Lib.hid hx1
                          have HX2 := Lib.hid hx2
                          have hrB := HRM.out _ HLB.out.k
                          have HRB := Lib.hid hrB
                          have hlt := HW.out.1
                          have HWH := Lib.hid hlt
                          clear hlt hrB hx1 hx2 ew hlw HEX HTM HW
                          go_wp2_with (with_reducible refine at_load 46 ?_; refine wpList_load_mid rfl 46 (.tmp 97) rfl g12 4 rfl ML _ HRB.out Tryz.underlying46 rfl HINM.out ?_)
                          refine (HNW.out _ HLB.out.k).mono ?_
                          rintro e wN ⟨rfl, hbN⟩
                          clear a0 a1 a2 a3 t0 HRB
                          have hkN := Kept.of_belowX hbN
                          have hmA3 := hkN.blockP HMA2.out
                          have hmN0 := heap_alloc_new wN (.cells #[.string x.m.h.ch, .int .u64 (x.m.h.ht : Int), .int .u64 (x.m.h.tm : Int), .slice Ar x.m.h.rt.length cr, .slice Av x.m.h.va.length cv, .slice An x.m.h.nx.length cn, .slice As x.m.s1.length cs, .slice Ax x.m.s3.length cx, .slice Ao x.m.t1.length co, .int .u64 (x.m.at_ : Int)] 68)
                          have hmN := heap_alloc_new wN (.cells #[.string x.m.h.ch, .int .u64 (x.m.h.ht : Int), .int .u64 (x.m.h.tm : Int), .slice Ar x.m.h.rt.length cr, .slice Av x.m.h.va.length cv, .slice An x.m.h.nx.length cn, .slice As x.m.s1.length cs, .slice Ax x.m.s3.length cx, .slice Ao x.m.t1.length co, .int .u64 (la0 : Int)] 68)
                          have hbN1 : Below wN.heap.size wN (wN.alloc (.cells #[.string x.m.h.ch, .int .u64 (x.m.h.ht : Int), .int .u64 (x.m.h.tm : Int), .slice Ar x.m.h.rt.length cr, .slice Av x.m.h.va.length cv, .slice An x.m.h.nx.length cn, .slice As x.m.s1.length cs, .slice Ax x.m.s3.length cx, .slice Ao x.m.t1.length co, .int .u64 (la0 : Int)] 68)) := (Below.refl _ _).alloc (Nat.le_refl _) _
                          have hqN0 := HQB.out.trans (hbN.mono HQB.out.size)
                          have HQN := Lib.hid (hqN0.trans (hbN1.mono hqN0.size))
                          have HMN := Lib.hid hmN
                          have hbN2 : Below wN.heap.size wN (wN.alloc (.cells #[.string x.m.h.ch, .int .u64 (x.m.h.ht : Int), .int .u64 (x.m.h.tm : Int), .slice Ar x.m.h.rt.length cr, .slice Av x.m.h.va.length cv, .slice An x.m.h.nx.length cn, .slice As x.m.s1.length cs, .slice Ax x.m.s3.length cx, .slice Ao x.m.t1.length co, .int .u64 (x.m.at_ : Int)] 68)) := (Below.refl _ _).alloc (Nat.le_refl _) _
                          have a1 : (wN.alloc (.cells #[.string x.m.h.ch, .int .u64 (x.m.h.ht : Int), .int .u64 (x.m.h.tm : Int), .slice Ar x.m.h.rt.length cr, .slice Av x.m.h.va.length cv, .slice An x.m.h.nx.length cn, .slice As x.m.s1.length cs, .slice Ax x.m.s3.length cx, .slice Ao x.m.t1.length co, .int .u64 (x.m.at_ : Int)] 68)).cell? ⟨gA, 1, none⟩ = some (.int .u64 (la0 : Int)) := blk_cell ((Kept.of_belowX hbN2).blockP hmA3) 1
                          clear hkN hmA3 hmN0 hmN hbN1 hbN2 hqN0 hbN HMA2 HMB HLB HQB
                          go_wp2_with fail
                          clear a1
                          generalize wN.alloc (.cells #[.string x.m.h.ch, .int .u64 (x.m.h.ht : Int), .int .u64 (x.m.h.tm : Int), .slice Ar x.m.h.rt.length cr, .slice Av x.m.h.va.length cv, .slice An x.m.h.nx.length cn, .slice As x.m.s1.length cs, .slice Ax x.m.s3.length cx, .slice Ao x.m.t1.length co, .int .u64 (la0 : Int)] 68) = W9 at *
                          generalize wN.heap.size = gU at *
                          have hdw : Below W9.heap.size W9 W9.drew := (Below.refl _ _).drew
                          have BQ9 := Lib.hid (HQN.out.trans (hdw.mono HQN.out.size))
                          have HC9 := Lib.hid (fun (Z : World) (hz : Kept W9.drew Z) => HCF.out Z (HY.out.k.transX ((Kept.of_belowX BQ9.out).transX hz)))
                          have HU9 : Hid (∀ Z, Kept W9.drew Z → Z.cell? ⟨gU, 0, none⟩ = some (.string x.m.h.ch) ∧ Z.cell? ⟨gU, 1, none⟩ = some (.int .u64 (x.m.h.ht : Int)) ∧ Z.cell? ⟨gU, 2, none⟩ = some (.int .u64 (x.m.h.tm : Int)) ∧ Z.cell? ⟨gU, 3, none⟩ = some (.slice Ar x.m.h.rt.length cr) ∧ Z.cell? ⟨gU, 4, none⟩ = some (.slice Av x.m.h.va.length cv) ∧ Z.cell? ⟨gU, 5, none⟩ = some (.slice An x.m.h.nx.length cn) ∧ Z.cell? ⟨gU, 6, none⟩ = some (.slice As x.m.s1.length cs) ∧ Z.cell? ⟨gU, 7, none⟩ = some (.slice Ax x.m.s3.length cx) ∧ Z.cell? ⟨gU, 8, none⟩ = some (.slice Ao x.m.t1.length co) ∧ Z.cell? ⟨gU, 9, none⟩ = some (.int .u64 (la0 : Int))) := Lib.hid fun Z hz => ⟨blk_cell (((Kept.of_belowX hdw).transX hz).blockP HMN.out) 0, blk_cell (((Kept.of_belowX hdw).transX hz).blockP HMN.out) 1, blk_cell (((Kept.of_belowX hdw).transX hz).blockP HMN.out) 2, blk_cell (((Kept.of_belowX hdw).transX hz).blockP HMN.out) 3, blk_cell (((Kept.of_belowX hdw).transX hz).blockP HMN.out) 4, blk_cell (((Kept.of_belowX hdw).transX hz).blockP HMN.out) 5, blk_cell (((Kept.of_belowX hdw).transX hz).blockP HMN.out) 6, blk_cell (((Kept.of_belowX hdw).transX hz).blockP HMN.out) 7, blk_cell (((Kept.of_belowX hdw).transX hz).blockP HMN.out) 8, blk_cell (((Kept.of_belowX hdw).transX hz).blockP HMN.out) 9⟩
                          have HV9 : Hid (∀ Z, Below W9.drew.heap.size W9.drew Z → Calls Tryz.prog 15 #[.pointer (some ⟨b1, 0, none⟩), .string x.m.cl, .int .u64 (x.m.ht : Int), .string x.m.to, .slice none 0 0, .agg #[.int .i64 x.m.pf.n, .slice Ap x.m.pf.ls.length cp], .int .u64 (wh : Int)] Z fun e w' => e = .returned (.int .i64 103) ∧ Below Z.heap.size Z w') := Lib.hid (fun Z hz => by
                have h := HVE.out wh HWH.out Z (BQ9.out.trans (hz.mono BQ9.out.size))
                rw [HX1.out] at h
                exact h)
                          have HB9 := Lib.hid (fun (Z : World) (hz : Below W9.drew.heap.size W9.drew Z) => (HBR.out.up (BQ9.out.trans (hz.mono BQ9.out.size))).brn_any)
                          have HU8 : Hid (∀ (z : Lyr) (l : List Lyr) (Z : World), At Z z l R 0 Z → z.n = 0 → Below W9.drew.heap.size W9.drew Z → Calls Tryz.prog 25 #[.pointer (some ⟨z.b, 0, none⟩), .string x.m.cl, .agg #[.string x.m.h.ch, .int .u64 (x.m.h.ht : Int), .int .u64 (x.m.h.tm : Int), .slice Ar x.m.h.rt.length cr, .slice Av x.m.h.va.length cv, .slice An x.m.h.nx.length cn, .slice As x.m.s1.length cs, .slice Ax x.m.s3.length cx, .slice Ao x.m.t1.length co, .int .u64 (la0 : Int)], .int .u64 (wh : Int)] Z fun e w' => e = .returned (.int .i64 103) ∧ (∃ R3 k, At Z z l R3 k w') ∧ Kept Z w') := Lib.hid (fun z l Z A h0 hz => by
                have h := HUD.out wh HWH.out z l Z A h0 (Kept.of_belowX (BQ9.out.trans (hz.mono BQ9.out.size)))
                rw [HUV.out la0, HX2.out _ rfl] at h
                exact h.mono fun e w' ⟨h1, h2, h3⟩ => ⟨h1, ⟨_, _, h2⟩, h3⟩)
                          have hbd : Below W9.drew.heap.size W9.drew W9.drew := Below.refl _ _
                          have hkd := Kept.refl W9.drew
                          clear hdw HVE HUD HX1 HX2 HWH HOK HQN HMN
                          refine wp_region_held_drew (S := KepS W9.drew) (by kernel_rfl) (KepS.refl _) (fun hS0 => ?_)
                          refine wpAnyH_take (i := 0) (oi := _) (v := ?_) rfl (by kernel_rfl) (by kernel_rfl) (by kernel_rfl) (fun _ _ _ h => h) (Or.inl ⟨by rfl, ?_⟩) hS0 ?_
                          rotate_left
                          · intro W hSW
                            try go_simp
                            all_goals with_reducible rfl
                          simp only [Act.put, List.setIfInBounds_toArray, List.set_cons_zero, List.set_cons_succ, List.getElem_toArray, List.getElem_cons_zero, List.getElem_cons_succ]
                          refine wpAnyH_take (i := 1) (oi := _) (v := ?_) rfl (by kernel_rfl) (by kernel_rfl) (by kernel_rfl) (fun _ _ _ h => h) (Or.inl ⟨by rfl, ?_⟩) hS0 ?_
                          rotate_left
                          · intro W hSW
                            try go_simp
                            all_goals with_reducible rfl
                          simp only [Act.put, List.setIfInBounds_toArray, List.set_cons_zero, List.set_cons_succ, List.getElem_toArray, List.getElem_cons_zero, List.getElem_cons_succ]
                          refine wpAnyH_take (i := 2) (oi := _) (v := ?_) rfl (by kernel_rfl) (by kernel_rfl) (by kernel_rfl) (fun _ _ _ h => h) (Or.inl ⟨by rfl, ?_⟩) hS0 ?_
                          rotate_left
                          · intro W hSW
                            try go_simp
                            all_goals with_reducible rfl
                          simp only [Act.put, List.setIfInBounds_toArray, List.set_cons_zero, List.set_cons_succ, List.getElem_toArray, List.getElem_cons_zero, List.getElem_cons_succ]
                          refine wpAnyH_take (i := 3) (oi := _) (v := ?_) rfl (by kernel_rfl) (by kernel_rfl) (by kernel_rfl) (fun _ _ _ h => h) (Or.inl ⟨by rfl, ?_⟩) hS0 ?_
                          rotate_left
                          · intro W hSW
                            obtain ⟨k1, k2, k3, k4, k5⟩ := HC9.out W (hkd.transX hSW)
                            try go_simp
                            all_goals with_reducible rfl
                          simp only [Act.put, List.setIfInBounds_toArray, List.set_cons_zero, List.set_cons_succ, List.getElem_toArray, List.getElem_cons_zero, List.getElem_cons_succ]
                          refine wpAnyH_take (i := 4) (oi := _) (v := ?_) rfl (by kernel_rfl) (by kernel_rfl) (by kernel_rfl) (fun _ _ _ h => h) (Or.inl ⟨by rfl, ?_⟩) hS0 ?_
                          rotate_left
                          · intro W hSW
                            try go_simp
                            all_goals with_reducible rfl
                          simp only [Act.put, List.setIfInBounds_toArray, List.set_cons_zero, List.set_cons_succ, List.getElem_toArray, List.getElem_cons_zero, List.getElem_cons_succ]
                          refine wpAnyH_take (i := 5) (oi := _) (v := ?_) rfl (by kernel_rfl) (by kernel_rfl) (by kernel_rfl) (fun _ _ _ h => h) (Or.inl ⟨by rfl, ?_⟩) hS0 ?_
                          rotate_left
                          · intro W hSW
                            try go_simp
                            all_goals with_reducible rfl
                          simp only [Act.put, List.setIfInBounds_toArray, List.set_cons_zero, List.set_cons_succ, List.getElem_toArray, List.getElem_cons_zero, List.getElem_cons_succ]
                          refine wpAnyH_take (i := 6) (oi := _) (v := ?_) rfl (by kernel_rfl) (by kernel_rfl) (by kernel_rfl) (fun _ _ _ h => h) (Or.inl ⟨by rfl, ?_⟩) hS0 ?_
                          rotate_left
                          · intro W hSW
                            obtain ⟨k1, k2, k3, k4, k5⟩ := HC9.out W (hkd.transX hSW)
                            try go_simp
                            all_goals with_reducible rfl
                          simp only [Act.put, List.setIfInBounds_toArray, List.set_cons_zero, List.set_cons_succ, List.getElem_toArray, List.getElem_cons_zero, List.getElem_cons_succ]
                          refine wpAnyH_take (i := 7) (oi := _) (v := ?_) rfl (by kernel_rfl) (by kernel_rfl) (by kernel_rfl) (fun _ _ _ h => h) (Or.inl ⟨by rfl, ?_⟩) hS0 ?_
                          rotate_left
                          · intro W hSW
                            try go_simp
                            all_goals with_reducible rfl
                          simp only [Act.put, List.setIfInBounds_toArray, List.set_cons_zero, List.set_cons_succ, List.getElem_toArray, List.getElem_cons_zero, List.getElem_cons_succ]
                          refine wpAnyH_take (i := 8) (oi := _) (v := ?_) rfl (by kernel_rfl) (by kernel_rfl) (by kernel_rfl) (fun _ _ _ h => h) (Or.inl ⟨by rfl, ?_⟩) hS0 ?_
                          rotate_left
                          · intro W hSW
                            try go_simp
                            all_goals with_reducible rfl
                          simp only [Act.put, List.setIfInBounds_toArray, List.set_cons_zero, List.set_cons_succ, List.getElem_toArray, List.getElem_cons_zero, List.getElem_cons_succ]
                          refine wpAnyH_take (i := 9) (oi := _) (v := ?_) rfl (by kernel_rfl) (by kernel_rfl) (by kernel_rfl) (fun _ _ _ h => h) (Or.inl ⟨by rfl, ?_⟩) hS0 ?_
                          rotate_left
                          · intro W hSW
                            obtain ⟨k1, k2, k3, k4, k5⟩ := HC9.out W (hkd.transX hSW)
                            try go_simp
                            all_goals with_reducible rfl
                          simp only [Act.put, List.setIfInBounds_toArray, List.set_cons_zero, List.set_cons_succ, List.getElem_toArray, List.getElem_cons_zero, List.getElem_cons_succ]
                          refine wpAnyH_take (i := 10) (oi := _) (v := ?_) rfl (by kernel_rfl) (by kernel_rfl) (by kernel_rfl) (fun _ _ _ h => h) (Or.inl ⟨by rfl, ?_⟩) hS0 ?_
                          rotate_left
                          · intro W hSW
                            try go_simp
                            all_goals with_reducible rfl
                          simp only [Act.put, List.setIfInBounds_toArray, List.set_cons_zero, List.set_cons_succ, List.getElem_toArray, List.getElem_cons_zero, List.getElem_cons_succ]
                          refine wpAnyH_take (i := 11) (oi := _) (v := ?_) rfl (by kernel_rfl) (by kernel_rfl) (by kernel_rfl) (fun _ _ _ h => h) (Or.inl ⟨by rfl, ?_⟩) hS0 ?_
                          rotate_left
                          · intro W hSW
                            try go_simp
                            all_goals with_reducible rfl
                          simp only [Act.put, List.setIfInBounds_toArray, List.set_cons_zero, List.set_cons_succ, List.getElem_toArray, List.getElem_cons_zero, List.getElem_cons_succ]
                          refine wpAnyH_take (i := 12) (oi := _) (v := ?_) rfl (by kernel_rfl) (by kernel_rfl) (by kernel_rfl) (fun _ _ _ h => h) (Or.inl ⟨by rfl, ?_⟩) hS0 ?_
                          rotate_left
                          · intro W hSW
                            obtain ⟨k1, k2, k3, k4, k5⟩ := HC9.out W (hkd.transX hSW)
                            try go_simp
                            all_goals with_reducible rfl
                          simp only [Act.put, List.setIfInBounds_toArray, List.set_cons_zero, List.set_cons_succ, List.getElem_toArray, List.getElem_cons_zero, List.getElem_cons_succ]
                          refine wpAnyH_take (i := 13) (oi := _) (v := ?_) rfl (by kernel_rfl) (by kernel_rfl) (by kernel_rfl) (fun _ _ _ h => h) (Or.inl ⟨by rfl, ?_⟩) hS0 ?_
                          rotate_left
                          · intro W hSW
                            try go_simp
                            all_goals with_reducible rfl
                          simp only [Act.put, List.setIfInBounds_toArray, List.set_cons_zero, List.set_cons_succ, List.getElem_toArray, List.getElem_cons_zero, List.getElem_cons_succ]
                          refine wpAnyH_ready (rs := [14]) (by kernel_rfl) (by simp) (AllReadyH.cons rfl (fun K hK => ?_) AllReadyH.nil)
                          have DV := Lib.hid (HV9.out W9.drew hbd)
                          go_simp
                          go_wp2_with ((go_at_call 15; (with_reducible refine DV.out.mono ?_); rintro e wV ⟨rfl, hbV⟩))
                          have hqV := below_chain hbd hbd.size hbV
                          have hkV := Kept.of_belowX hbV
                          have hzV := hkd.transX hkV
                          refine hK.out _ _ hkV (fun _ => ?_)
                          clear hK K DV
                          refine wpAnyH_stronger (S' := KepS wV) (fun W h => hkV.transX h) _ _ _ _ ?_
                          have hSV : KepS wV wV := KepS.refl wV
                          refine wpAnyH_take (i := 15) (oi := _) (v := .bool false) rfl (by kernel_rfl) (by kernel_rfl) (by kernel_rfl) (fun _ _ _ h => h) (Or.inl ⟨by rfl, ?_⟩) hSV ?_
                          skip
                          · intro W hSW
                            try go_simp
                            all_goals first | with_reducible rfl | (simp; done) | omega | (simp; omega) | trace_state
                          simp only [Act.put, List.setIfInBounds_toArray, List.set_cons_zero, List.set_cons_succ, List.getElem_toArray, List.getElem_cons_zero, List.getElem_cons_succ]
                          refine wpAnyH_take (i := 16) (oi := _) (v := .bool false) rfl (by kernel_rfl) (by kernel_rfl) (by kernel_rfl) (fun _ _ _ h => h) (Or.inl ⟨by rfl, ?_⟩) hSV ?_
                          skip
                          · intro W hSW
                            try go_simp
                            all_goals first | with_reducible rfl | (simp; done) | omega | (simp; omega) | trace_state
                          simp only [Act.put, List.setIfInBounds_toArray, List.set_cons_zero, List.set_cons_succ, List.getElem_toArray, List.getElem_cons_zero, List.getElem_cons_succ]
                          refine wpAnyH_take (i := 17) (oi := _) (v := ?_) rfl (by kernel_rfl) (by kernel_rfl) (by kernel_rfl) (fun _ _ _ h => h) (Or.inl ⟨by rfl, ?_⟩) hSV ?_
                          rotate_left
                          · intro W hSW
                            try go_simp
                            all_goals with_reducible rfl
                          simp only [Act.put, List.setIfInBounds_toArray, List.set_cons_zero, List.set_cons_succ, List.getElem_toArray, List.getElem_cons_zero, List.getElem_cons_succ]
                          refine wpAnyH_take (i := 19) (oi := _) (v := ?_) rfl (by kernel_rfl) (by kernel_rfl) (by kernel_rfl) (fun _ _ _ h => h) (Or.inl ⟨by rfl, ?_⟩) hSV ?_
                          rotate_left
                          · intro W hSW
                            try go_simp
                            all_goals with_reducible rfl
                          simp only [Act.put, List.setIfInBounds_toArray, List.set_cons_zero, List.set_cons_succ, List.getElem_toArray, List.getElem_cons_zero, List.getElem_cons_succ]
                          refine wpAnyH_take (i := 20) (oi := _) (v := ?_) rfl (by kernel_rfl) (by kernel_rfl) (by kernel_rfl) (fun _ _ _ h => h) (Or.inl ⟨by rfl, ?_⟩) hSV ?_
                          rotate_left
                          · intro W hSW
                            try go_simp
                            all_goals with_reducible rfl
                          simp only [Act.put, List.setIfInBounds_toArray, List.set_cons_zero, List.set_cons_succ, List.getElem_toArray, List.getElem_cons_zero, List.getElem_cons_succ]
                          refine wpAnyH_take (i := 21) (oi := _) (v := ?_) rfl (by kernel_rfl) (by kernel_rfl) (by kernel_rfl) (fun _ _ _ h => h) (Or.inl ⟨by rfl, ?_⟩) hSV ?_
                          rotate_left
                          · intro W hSW
                            obtain ⟨k1, k2, k3, k4, k5⟩ := HC9.out W (hzV.transX hSW)
                            try go_simp
                            all_goals with_reducible rfl
                          simp only [Act.put, List.setIfInBounds_toArray, List.set_cons_zero, List.set_cons_succ, List.getElem_toArray, List.getElem_cons_zero, List.getElem_cons_succ]
                          refine wpAnyH_take (i := 22) (oi := _) (v := ?_) rfl (by kernel_rfl) (by kernel_rfl) (by kernel_rfl) (fun _ _ _ h => h) (Or.inl ⟨by rfl, ?_⟩) hSV ?_
                          rotate_left
                          · intro W hSW
                            obtain ⟨u0, u1, u2, u3, u4, u5, u6, u7, u8, u9⟩ := HU9.out W (hzV.transX hSW)
                            try go_simp
                            all_goals with_reducible rfl
                          simp only [Act.put, List.setIfInBounds_toArray, List.set_cons_zero, List.set_cons_succ, List.getElem_toArray, List.getElem_cons_zero, List.getElem_cons_succ]
                          refine wpAnyH_take (i := 23) (oi := _) (v := ?_) rfl (by kernel_rfl) (by kernel_rfl) (by kernel_rfl) (fun _ _ _ h => h) (Or.inl ⟨by rfl, ?_⟩) hSV ?_
                          rotate_left
                          · intro W hSW
                            try go_simp
                            all_goals with_reducible rfl
                          simp only [Act.put, List.setIfInBounds_toArray, List.set_cons_zero, List.set_cons_succ, List.getElem_toArray, List.getElem_cons_zero, List.getElem_cons_succ]
                          refine wpAnyH_ready (rs := [18]) (by kernel_rfl) (by simp) (AllReadyH.cons rfl (fun K hK => ?_) AllReadyH.nil)
                          have DZ := Lib.hid (HB9.out wV hqV)
                          go_simp
                          go_wp2_with ((go_at_call 26; (with_reducible refine DZ.out.mono ?_); rintro e wZ ⟨z, lz, rfl, hz0, AZ, hz1, hz2, hz3, hbZ⟩))
                          have hqZ := below_chain hqV hqV.size hbZ
                          have hkZ := Kept.of_belowX hbZ
                          have hzZ := hzV.transX hkZ
                          refine hK.out _ _ hkZ (fun _ => ?_)
                          clear hK K DZ
                          refine wpAnyH_stronger (S' := KepS wZ) (fun W h => hkZ.transX h) _ _ _ _ ?_
                          have hSZ : KepS wZ wZ := KepS.refl wZ
                          refine wpAnyH_ready (rs := [24]) (by kernel_rfl) (by simp) (AllReadyH.cons rfl (fun K hK => ?_) AllReadyH.nil)
                          have DU := Lib.hid (HU8.out _ _ wZ AZ hz0 hqZ)
                          go_simp
                          go_wp2_with ((go_at_call 25; (with_reducible refine DU.out.mono ?_); rintro e wU ⟨rfl, ⟨R3, kz, AU⟩, hkU⟩))
                          have hzU := hzZ.transX hkU
                          refine hK.out _ _ hkU (fun _ => ?_)
                          clear hK K DU
                          refine wpAnyH_stronger (S' := KepS wU) (fun W h => hkU.transX h) _ _ _ _ ?_
                          have hSU : KepS wU wU := KepS.refl wU
                          refine wpAnyH_take (i := 25) (oi := _) (v := .bool false) rfl (by kernel_rfl) (by kernel_rfl) (by kernel_rfl) (fun _ _ _ h => h) (Or.inl ⟨by rfl, ?_⟩) hSU ?_
                          skip
                          · intro W hSW
                            try go_simp
                            all_goals first | with_reducible rfl | (simp; done) | omega | (simp; omega) | trace_state
                          simp only [Act.put, List.setIfInBounds_toArray, List.set_cons_zero, List.set_cons_succ, List.getElem_toArray, List.getElem_cons_zero, List.getElem_cons_succ]
                          refine wpAnyH_take (i := 26) (oi := _) (v := .bool false) rfl (by kernel_rfl) (by kernel_rfl) (by kernel_rfl) (fun _ _ _ h => h) (Or.inl ⟨by rfl, ?_⟩) hSU ?_
                          skip
                          · intro W hSW
                            try go_simp
                            all_goals first | with_reducible rfl | (simp; done) | omega | (simp; omega) | trace_state
                          simp only [Act.put, List.setIfInBounds_toArray, List.set_cons_zero, List.set_cons_succ, List.getElem_toArray, List.getElem_cons_zero, List.getElem_cons_succ]
                          refine wpAnyH_done (by kernel_rfl) ?_ _
                          have hzz := BQ9.out.trans (Below.mono hqZ BQ9.out.size)
                          have hfin : LSK w b1 m1 b2 m2 g7 (2000000 + 3 * j) w0 wU := ⟨HRE.out R wU _ ((HBR.out.up hzz).aside AU hz1 hz2 hz3) ((Kept.of_belowX hzz).transX hkU), HY.out.k.transX ((Kept.of_belowX hzz).transX hkU)⟩
                          clear hzz AZ AU hz0 hz1 hz2 hz3 hbV hqV hkV hzV hSV hbZ hqZ hkZ hzZ hSZ hkU hzU hSU hS0 hbd hkd HC9 HU9 HV9 HB9 HU8 HBR BQ9 HKW HY HRE
                          go_wp2_with fail
                          exact ⟨⟨1, by omega, by simp, hfin⟩, by simp [intOf]⟩
                · obtain ⟨R, hR⟩ : ∃ R, R = Rb := ⟨_, rfl⟩
                  have hs : Sts w b2 m2 b1 m1 R R1 (2000000 + 3 * j) wr := by rw [hR]; exact hsts.swap
                  have HRE : Hid (∀ (R2 : List Pr) (Z : World) (N : Nat), Sts w b2 m2 b1 m1 R2 R1 N Z → Kept wr Z → LS w b1 m1 b2 m2 g7 N Z) := Lib.hid fun R2 Z N k hk => ⟨⟨_, _, k.swap⟩, hk.cell HY.out.l.x, hk.cell HY.out.l.y⟩
                  clear hsts hR hY hq hq2
                  have hkw := HK0.out.transX HY.out.k
                  obtain ⟨nn, ff, hnn, AT0⟩ := hs.at
                  have hG0 := clget_any AT0 x.m.cl (by have := HCL.out.1; omega)
                  rw [clV_got] at hG0
                  have hok0 : (gotC (getCl R x.m.cl)).ok := gotC_ok
                  have hex := expires (R := R) (id := x.m.cl)
                  have hTO := fun (la : Nat) (hla : la < 18446744073709551616) (Z : World) (hz : Below wr.heap.size wr Z) => csgot_any (AT0.up hz) x.m.cl la hla (by have := HCL.out.1; omega)
                  have hVE := fun (now : Nat) (hnow : now < 18446744073709551616) (Z : World) (hz : Below wr.heap.size wr Z) => clverify_any (AT0.up hz) x.m.cl x.m.ht now (by have := HCL.out.1; omega) (HM.out _ (Kept.refl _)).lt_ht hnow x.m.to (.slice none 0 0) [] x.m.pf.n Ap x.m.pf.ls.length cp x.m.pf (fun Y hy => ⟨_, rfl, by rw [← HPV.out]; exact (HM.out _ ((hkw.transX (Kept.of_belowX hz)).transX (Kept.of_belowX hy))).r_pf, (HM.out _ (Kept.refl _)).in_pf⟩) (Rd.nil _ _) fr (HTR.out _ (hkw.transX (Kept.of_belowX hz))).2
                  have hUD := fun (la : Nat) (hla : la < 18446744073709551616) (now : Nat) (hnow : now < 18446744073709551616) (z : Lyr) (l : List Lyr) (Z : World) (A : At Z z l R 0 Z) (h0 : z.n = 0) (hz : Kept wr Z) => clupd_any A (show z.n + 0 + 3 ≤ maxLen by rw [h0]; unfold maxLen; omega) x.m.cl (by have := HCL.out.1; omega) ({nwOf x.m with ua := la} : NwW) ⟨(nwOf_rd (HM.out _ (hkw.transX hz)) HFQ.out.m).h, (nwOf_rd (HM.out _ (hkw.transX hz)) HFQ.out.m).s, (nwOf_rd (HM.out _ (hkw.transX hz)) HFQ.out.m).t, (nwOf_rd (HM.out _ (hkw.transX hz)) HFQ.out.m).o, hla, (nwOf_rd (HM.out _ (hkw.transX hz)) HFQ.out.m).ls, (nwOf_rd (HM.out _ (hkw.transX hz)) HFQ.out.m).lt⟩ now hnow fr (HTR.out _ (hkw.transX hz)).2
                  obtain ⟨C0, hC0⟩ : ∃ C, C = gotC (getCl R x.m.cl) := ⟨_, rfl⟩
                  obtain ⟨B0, hB0⟩ : ∃ B, B = (getCl R x.m.cl).isSome := ⟨_, rfl⟩
                  rw [← hC0, ← hB0] at hG0 hex
                  rw [← hC0] at hok0
                  obtain ⟨T, hT⟩ : ∃ T, T = gotS (getCs R x.m.cl C0.la) := ⟨_, rfl⟩
                  obtain ⟨bT, hbT⟩ : ∃ q, q = (getCs R x.m.cl C0.la).isSome := ⟨_, rfl⟩
                  have hTX := hTO C0.la hok0.2.1
                  rw [← hT, ← hbT] at hTX hex
                  obtain ⟨ch0, la0, pe0, fr0⟩ := C0
                  unfold ClV.val at hG0
                  dsimp only at hG0 hex hTX hok0
                  have HG0 := Lib.hid hG0
                  have HTO := Lib.hid hTX
                  have HEX := Lib.hid hex
                  have HVE := Lib.hid hVE
                  have HUD := Lib.hid (hUD la0 hok0.2.1)
                  have HOK := Lib.hid hok0
                  have HTM : Hid (T.tm < 18446744073709551616) := Lib.hid (by rw [hT]; exact gotS_lt)
                  have HBR := Lib.hid hs
                  have HKW := Lib.hid hkw
                  clear hkw hnn AT0 hG0 hok0 hex hTO hTX hVE hUD hC0 hB0 hT hbT hs
                  obtain ⟨k1, k2, k3, k4, k5⟩ := HCF.out _ HY.out.k
                  have hix : ∀ W : World, (Instr.index 25 (.agg #[.pointer (some ⟨b1, 0, none⟩), .pointer (some ⟨b2, 0, none⟩)]) (.int .i64 1)).run Tryz.prog W = .ok (.pointer (some ⟨b2, 0, none⟩)) W := fun W => rfl
                  go_wp2_with fail
                  refine HG0.out.mono ?_
                  rintro e wA ⟨rfl, hbA⟩
                  clear k1 k2 k3 k4 k5 HG0 hix
                  have hmA := heap_alloc_new wA (.cells #[.string ch0, .int .u64 (la0 : Int), .int .u64 (pe0 : Int), .bool fr0] 50)
                  have hbA1 : Below wA.heap.size wA (wA.alloc (.cells #[.string ch0, .int .u64 (la0 : Int), .int .u64 (pe0 : Int), .bool fr0] 50)) := (Below.refl _ _).alloc (Nat.le_refl _) _
                  have HMA := Lib.hid hmA
                  have hqA := hbA.trans (hbA1.mono hbA.size)
                  have HQA := Lib.hid hqA
                  have a1 : (wA.alloc (.cells #[.string ch0, .int .u64 (la0 : Int), .int .u64 (pe0 : Int), .bool fr0] 50)).cell? ⟨wA.heap.size, 1, none⟩ = some (.int .u64 (la0 : Int)) := blk_cell hmA 1
                  obtain ⟨k1, k2, k3, k4, k5⟩ := HCF.out _ (HY.out.k.transX (Kept.of_belowX hqA))
                  clear hmA hbA1 hqA hbA
                  go_wp2_with fail
                  clear a1 k1 k2 k3 k4 k5
                  generalize wA.alloc (.cells #[.string ch0, .int .u64 (la0 : Int), .int .u64 (pe0 : Int), .bool fr0] 50) = WA at *
                  generalize wA.heap.size = gA at *
                  refine (HTO.out _ HQA.out).mono ?_
                  rintro e wB ⟨AT1, cT1, AT2, cT2, rfl, -, -, hbB⟩
                  clear HTO
                  have hmB := heap_alloc_new wB (.cells #[.int .u64 (T.tm : Int), .slice AT1 T.rt.length cT1, .slice AT2 T.nx.length cT2] 59)
                  have hbB1 : Below wB.heap.size wB (wB.alloc (.cells #[.int .u64 (T.tm : Int), .slice AT1 T.rt.length cT1, .slice AT2 T.nx.length cT2] 59)) := (Below.refl _ _).alloc (Nat.le_refl _) _
                  have hqB0 := HQA.out.trans (hbB.mono HQA.out.size)
                  have hqB := hqB0.trans (hbB1.mono hqB0.size)
                  have hkAB := (Kept.of_belowX hbB).transX (Kept.of_belowX hbB1)
                  have hmA2 := hkAB.blockP HMA.out
                  obtain ⟨wh, hwh⟩ : ∃ v : Nat, IntKind.u64.wrap ((T.tm : Int) + (pe0 : Int)) = (v : Int) ∧ v < 18446744073709551616 ∧ (¬ v < T.tm → v = T.tm + pe0) := wrap_sum HTM.out HOK.out.2.2
                  obtain ⟨hw1, hw2, hw3⟩ := hwh
                  have HW := Lib.hid (And.intro hw2 hw3)
                  have HLB : Hid (LSK w b1 m1 b2 m2 g7 (2000000 + 3 * j) w0 (wB.alloc (.cells #[.int .u64 (T.tm : Int), .slice AT1 T.rt.length cT1, .slice AT2 T.nx.length cT2] 59))) := Lib.hid ⟨HY.out.l.upL hqB, HY.out.k.transX (Kept.of_belowX hqB)⟩
                  have HQB := Lib.hid hqB
                  have HMA2 := Lib.hid hmA2
                  have HMB := Lib.hid hmB
                  have a0 := blk_cell hmA2 0
                  have a1 := blk_cell hmA2 1
                  have a2 := blk_cell hmA2 2
                  have a3 := blk_cell hmA2 3
                  have t0 := blk_cell hmB 0
                  clear hmB hbB1 hqB0 hqB hkAB hmA2 hbB HMA HQA hw2 hw3
                  cases B0 with
                  | false =>
                    have hfin := HLB.out
                    clear HEX HVE HUD HOK HTM HBR HKW HW HLB HQB HMA2 HMB HY
                    go_wp2_with fail
                    exact ⟨⟨2, by omega, by simp, hfin⟩, by simp [intOf]⟩
                  | true =>
                    cases bT with
                    | false =>
                      have hfin := HLB.out
                      clear HEX HVE HUD HOK HTM HBR HKW HW HLB HQB HMA2 HMB HY
                      go_wp2_with fail
                      exact ⟨⟨2, by omega, by simp, hfin⟩, by simp [intOf]⟩
                    | true =>
                      cases fr0 with
                      | true =>
                        have hfin := HLB.out
                        clear HEX HVE HUD HOK HTM HBR HKW HW HLB HQB HMA2 HMB HY
                        go_wp2_with fail
                        exact ⟨⟨2, by omega, by simp, hfin⟩, by simp [intOf]⟩
                      | false =>
                        by_cases hlw : wh < T.tm
                        · have hl2 : (wh : Int) < (T.tm : Int) := by omega
                          have hfin := HLB.out
                          clear HEX HVE HUD HOK HTM HBR HKW HW HLB HQB HMA2 HMB HY hlw
                          go_wp2_with fail
                          exact ⟨⟨2, by omega, by simp, hfin⟩, by simp [intOf]⟩
                        · have hl2 : ¬ (wh : Int) < (T.tm : Int) := by omega
                          have ew := HW.out.2 hlw
                          obtain ⟨hx1, hx2⟩ := HEX.out (by first | rfl | trivial) (by first | rfl | trivial) (by first | rfl | trivial)
                          rw [← ew] at hx1 hx2
                          have HX1 := Lib.hid hx1
                          have HX2 := Lib.hid hx2
                          have hrB := HRM.out _ HLB.out.k
                          have HRB := Lib.hid hrB
                          have hlt := HW.out.1
                          have HWH := Lib.hid hlt
                          clear hlt hrB hx1 hx2 ew hlw HEX HTM HW
                          go_wp2_with (with_reducible refine at_load 46 ?_; refine wpList_load_mid rfl 46 (.tmp 97) rfl g12 4 rfl ML _ HRB.out Tryz.underlying46 rfl HINM.out ?_)
                          refine (HNW.out _ HLB.out.k).mono ?_
                          rintro e wN ⟨rfl, hbN⟩
                          clear a0 a1 a2 a3 t0 HRB
                          have hkN := Kept.of_belowX hbN
                          have hmA3 := hkN.blockP HMA2.out
                          have hmN0 := heap_alloc_new wN (.cells #[.string x.m.h.ch, .int .u64 (x.m.h.ht : Int), .int .u64 (x.m.h.tm : Int), .slice Ar x.m.h.rt.length cr, .slice Av x.m.h.va.length cv, .slice An x.m.h.nx.length cn, .slice As x.m.s1.length cs, .slice Ax x.m.s3.length cx, .slice Ao x.m.t1.length co, .int .u64 (x.m.at_ : Int)] 68)
                          have hmN := heap_alloc_new wN (.cells #[.string x.m.h.ch, .int .u64 (x.m.h.ht : Int), .int .u64 (x.m.h.tm : Int), .slice Ar x.m.h.rt.length cr, .slice Av x.m.h.va.length cv, .slice An x.m.h.nx.length cn, .slice As x.m.s1.length cs, .slice Ax x.m.s3.length cx, .slice Ao x.m.t1.length co, .int .u64 (la0 : Int)] 68)
                          have hbN1 : Below wN.heap.size wN (wN.alloc (.cells #[.string x.m.h.ch, .int .u64 (x.m.h.ht : Int), .int .u64 (x.m.h.tm : Int), .slice Ar x.m.h.rt.length cr, .slice Av x.m.h.va.length cv, .slice An x.m.h.nx.length cn, .slice As x.m.s1.length cs, .slice Ax x.m.s3.length cx, .slice Ao x.m.t1.length co, .int .u64 (la0 : Int)] 68)) := (Below.refl _ _).alloc (Nat.le_refl _) _
                          have hqN0 := HQB.out.trans (hbN.mono HQB.out.size)
                          have HQN := Lib.hid (hqN0.trans (hbN1.mono hqN0.size))
                          have HMN := Lib.hid hmN
                          have hbN2 : Below wN.heap.size wN (wN.alloc (.cells #[.string x.m.h.ch, .int .u64 (x.m.h.ht : Int), .int .u64 (x.m.h.tm : Int), .slice Ar x.m.h.rt.length cr, .slice Av x.m.h.va.length cv, .slice An x.m.h.nx.length cn, .slice As x.m.s1.length cs, .slice Ax x.m.s3.length cx, .slice Ao x.m.t1.length co, .int .u64 (x.m.at_ : Int)] 68)) := (Below.refl _ _).alloc (Nat.le_refl _) _
                          have a1 : (wN.alloc (.cells #[.string x.m.h.ch, .int .u64 (x.m.h.ht : Int), .int .u64 (x.m.h.tm : Int), .slice Ar x.m.h.rt.length cr, .slice Av x.m.h.va.length cv, .slice An x.m.h.nx.length cn, .slice As x.m.s1.length cs, .slice Ax x.m.s3.length cx, .slice Ao x.m.t1.length co, .int .u64 (x.m.at_ : Int)] 68)).cell? ⟨gA, 1, none⟩ = some (.int .u64 (la0 : Int)) := blk_cell ((Kept.of_belowX hbN2).blockP hmA3) 1
                          clear hkN hmA3 hmN0 hmN hbN1 hbN2 hqN0 hbN HMA2 HMB HLB HQB
                          go_wp2_with fail
                          clear a1
                          generalize wN.alloc (.cells #[.string x.m.h.ch, .int .u64 (x.m.h.ht : Int), .int .u64 (x.m.h.tm : Int), .slice Ar x.m.h.rt.length cr, .slice Av x.m.h.va.length cv, .slice An x.m.h.nx.length cn, .slice As x.m.s1.length cs, .slice Ax x.m.s3.length cx, .slice Ao x.m.t1.length co, .int .u64 (la0 : Int)] 68) = W9 at *
                          generalize wN.heap.size = gU at *
                          have hdw : Below W9.heap.size W9 W9.drew := (Below.refl _ _).drew
                          have BQ9 := Lib.hid (HQN.out.trans (hdw.mono HQN.out.size))
                          have HC9 := Lib.hid (fun (Z : World) (hz : Kept W9.drew Z) => HCF.out Z (HY.out.k.transX ((Kept.of_belowX BQ9.out).transX hz)))
                          have HU9 : Hid (∀ Z, Kept W9.drew Z → Z.cell? ⟨gU, 0, none⟩ = some (.string x.m.h.ch) ∧ Z.cell? ⟨gU, 1, none⟩ = some (.int .u64 (x.m.h.ht : Int)) ∧ Z.cell? ⟨gU, 2, none⟩ = some (.int .u64 (x.m.h.tm : Int)) ∧ Z.cell? ⟨gU, 3, none⟩ = some (.slice Ar x.m.h.rt.length cr) ∧ Z.cell? ⟨gU, 4, none⟩ = some (.slice Av x.m.h.va.length cv) ∧ Z.cell? ⟨gU, 5, none⟩ = some (.slice An x.m.h.nx.length cn) ∧ Z.cell? ⟨gU, 6, none⟩ = some (.slice As x.m.s1.length cs) ∧ Z.cell? ⟨gU, 7, none⟩ = some (.slice Ax x.m.s3.length cx) ∧ Z.cell? ⟨gU, 8, none⟩ = some (.slice Ao x.m.t1.length co) ∧ Z.cell? ⟨gU, 9, none⟩ = some (.int .u64 (la0 : Int))) := Lib.hid fun Z hz => ⟨blk_cell (((Kept.of_belowX hdw).transX hz).blockP HMN.out) 0, blk_cell (((Kept.of_belowX hdw).transX hz).blockP HMN.out) 1, blk_cell (((Kept.of_belowX hdw).transX hz).blockP HMN.out) 2, blk_cell (((Kept.of_belowX hdw).transX hz).blockP HMN.out) 3, blk_cell (((Kept.of_belowX hdw).transX hz).blockP HMN.out) 4, blk_cell (((Kept.of_belowX hdw).transX hz).blockP HMN.out) 5, blk_cell (((Kept.of_belowX hdw).transX hz).blockP HMN.out) 6, blk_cell (((Kept.of_belowX hdw).transX hz).blockP HMN.out) 7, blk_cell (((Kept.of_belowX hdw).transX hz).blockP HMN.out) 8, blk_cell (((Kept.of_belowX hdw).transX hz).blockP HMN.out) 9⟩
                          have HV9 : Hid (∀ Z, Below W9.drew.heap.size W9.drew Z → Calls Tryz.prog 15 #[.pointer (some ⟨b2, 0, none⟩), .string x.m.cl, .int .u64 (x.m.ht : Int), .string x.m.to, .slice none 0 0, .agg #[.int .i64 x.m.pf.n, .slice Ap x.m.pf.ls.length cp], .int .u64 (wh : Int)] Z fun e w' => e = .returned (.int .i64 103) ∧ Below Z.heap.size Z w') := Lib.hid (fun Z hz => by
                have h := HVE.out wh HWH.out Z (BQ9.out.trans (hz.mono BQ9.out.size))
                rw [HX1.out] at h
                exact h)
                          have HB9 := Lib.hid (fun (Z : World) (hz : Below W9.drew.heap.size W9.drew Z) => (HBR.out.up (BQ9.out.trans (hz.mono BQ9.out.size))).brn_any)
                          have HU8 : Hid (∀ (z : Lyr) (l : List Lyr) (Z : World), At Z z l R 0 Z → z.n = 0 → Below W9.drew.heap.size W9.drew Z → Calls Tryz.prog 25 #[.pointer (some ⟨z.b, 0, none⟩), .string x.m.cl, .agg #[.string x.m.h.ch, .int .u64 (x.m.h.ht : Int), .int .u64 (x.m.h.tm : Int), .slice Ar x.m.h.rt.length cr, .slice Av x.m.h.va.length cv, .slice An x.m.h.nx.length cn, .slice As x.m.s1.length cs, .slice Ax x.m.s3.length cx, .slice Ao x.m.t1.length co, .int .u64 (la0 : Int)], .int .u64 (wh : Int)] Z fun e w' => e = .returned (.int .i64 103) ∧ (∃ R3 k, At Z z l R3 k w') ∧ Kept Z w') := Lib.hid (fun z l Z A h0 hz => by
                have h := HUD.out wh HWH.out z l Z A h0 (Kept.of_belowX (BQ9.out.trans (hz.mono BQ9.out.size)))
                rw [HUV.out la0, HX2.out _ rfl] at h
                exact h.mono fun e w' ⟨h1, h2, h3⟩ => ⟨h1, ⟨_, _, h2⟩, h3⟩)
                          have hbd : Below W9.drew.heap.size W9.drew W9.drew := Below.refl _ _
                          have hkd := Kept.refl W9.drew
                          clear hdw HVE HUD HX1 HX2 HWH HOK HQN HMN
                          refine wp_region_held_drew (S := KepS W9.drew) (by kernel_rfl) (KepS.refl _) (fun hS0 => ?_)
                          refine wpAnyH_take (i := 0) (oi := _) (v := ?_) rfl (by kernel_rfl) (by kernel_rfl) (by kernel_rfl) (fun _ _ _ h => h) (Or.inl ⟨by rfl, ?_⟩) hS0 ?_
                          rotate_left
                          · intro W hSW
                            try go_simp
                            all_goals with_reducible rfl
                          simp only [Act.put, List.setIfInBounds_toArray, List.set_cons_zero, List.set_cons_succ, List.getElem_toArray, List.getElem_cons_zero, List.getElem_cons_succ]
                          refine wpAnyH_take (i := 1) (oi := _) (v := ?_) rfl (by kernel_rfl) (by kernel_rfl) (by kernel_rfl) (fun _ _ _ h => h) (Or.inl ⟨by rfl, ?_⟩) hS0 ?_
                          rotate_left
                          · intro W hSW
                            try go_simp
                            all_goals with_reducible rfl
                          simp only [Act.put, List.setIfInBounds_toArray, List.set_cons_zero, List.set_cons_succ, List.getElem_toArray, List.getElem_cons_zero, List.getElem_cons_succ]
                          refine wpAnyH_take (i := 2) (oi := _) (v := ?_) rfl (by kernel_rfl) (by kernel_rfl) (by kernel_rfl) (fun _ _ _ h => h) (Or.inl ⟨by rfl, ?_⟩) hS0 ?_
                          rotate_left
                          · intro W hSW
                            try go_simp
                            all_goals with_reducible rfl
                          simp only [Act.put, List.setIfInBounds_toArray, List.set_cons_zero, List.set_cons_succ, List.getElem_toArray, List.getElem_cons_zero, List.getElem_cons_succ]
                          refine wpAnyH_take (i := 3) (oi := _) (v := ?_) rfl (by kernel_rfl) (by kernel_rfl) (by kernel_rfl) (fun _ _ _ h => h) (Or.inl ⟨by rfl, ?_⟩) hS0 ?_
                          rotate_left
                          · intro W hSW
                            obtain ⟨k1, k2, k3, k4, k5⟩ := HC9.out W (hkd.transX hSW)
                            try go_simp
                            all_goals with_reducible rfl
                          simp only [Act.put, List.setIfInBounds_toArray, List.set_cons_zero, List.set_cons_succ, List.getElem_toArray, List.getElem_cons_zero, List.getElem_cons_succ]
                          refine wpAnyH_take (i := 4) (oi := _) (v := ?_) rfl (by kernel_rfl) (by kernel_rfl) (by kernel_rfl) (fun _ _ _ h => h) (Or.inl ⟨by rfl, ?_⟩) hS0 ?_
                          rotate_left
                          · intro W hSW
                            try go_simp
                            all_goals with_reducible rfl
                          simp only [Act.put, List.setIfInBounds_toArray, List.set_cons_zero, List.set_cons_succ, List.getElem_toArray, List.getElem_cons_zero, List.getElem_cons_succ]
                          refine wpAnyH_take (i := 5) (oi := _) (v := ?_) rfl (by kernel_rfl) (by kernel_rfl) (by kernel_rfl) (fun _ _ _ h => h) (Or.inl ⟨by rfl, ?_⟩) hS0 ?_
                          rotate_left
                          · intro W hSW
                            try go_simp
                            all_goals with_reducible rfl
                          simp only [Act.put, List.setIfInBounds_toArray, List.set_cons_zero, List.set_cons_succ, List.getElem_toArray, List.getElem_cons_zero, List.getElem_cons_succ]
                          refine wpAnyH_take (i := 6) (oi := _) (v := ?_) rfl (by kernel_rfl) (by kernel_rfl) (by kernel_rfl) (fun _ _ _ h => h) (Or.inl ⟨by rfl, ?_⟩) hS0 ?_
                          rotate_left
                          · intro W hSW
                            obtain ⟨k1, k2, k3, k4, k5⟩ := HC9.out W (hkd.transX hSW)
                            try go_simp
                            all_goals with_reducible rfl
                          simp only [Act.put, List.setIfInBounds_toArray, List.set_cons_zero, List.set_cons_succ, List.getElem_toArray, List.getElem_cons_zero, List.getElem_cons_succ]
                          refine wpAnyH_take (i := 7) (oi := _) (v := ?_) rfl (by kernel_rfl) (by kernel_rfl) (by kernel_rfl) (fun _ _ _ h => h) (Or.inl ⟨by rfl, ?_⟩) hS0 ?_
                          rotate_left
                          · intro W hSW
                            try go_simp
                            all_goals with_reducible rfl
                          simp only [Act.put, List.setIfInBounds_toArray, List.set_cons_zero, List.set_cons_succ, List.getElem_toArray, List.getElem_cons_zero, List.getElem_cons_succ]
                          refine wpAnyH_take (i := 8) (oi := _) (v := ?_) rfl (by kernel_rfl) (by kernel_rfl) (by kernel_rfl) (fun _ _ _ h => h) (Or.inl ⟨by rfl, ?_⟩) hS0 ?_
                          rotate_left
                          · intro W hSW
                            try go_simp
                            all_goals with_reducible rfl
                          simp only [Act.put, List.setIfInBounds_toArray, List.set_cons_zero, List.set_cons_succ, List.getElem_toArray, List.getElem_cons_zero, List.getElem_cons_succ]
                          refine wpAnyH_take (i := 9) (oi := _) (v := ?_) rfl (by kernel_rfl) (by kernel_rfl) (by kernel_rfl) (fun _ _ _ h => h) (Or.inl ⟨by rfl, ?_⟩) hS0 ?_
                          rotate_left
                          · intro W hSW
                            obtain ⟨k1, k2, k3, k4, k5⟩ := HC9.out W (hkd.transX hSW)
                            try go_simp
                            all_goals with_reducible rfl
                          simp only [Act.put, List.setIfInBounds_toArray, List.set_cons_zero, List.set_cons_succ, List.getElem_toArray, List.getElem_cons_zero, List.getElem_cons_succ]
                          refine wpAnyH_take (i := 10) (oi := _) (v := ?_) rfl (by kernel_rfl) (by kernel_rfl) (by kernel_rfl) (fun _ _ _ h => h) (Or.inl ⟨by rfl, ?_⟩) hS0 ?_
                          rotate_left
                          · intro W hSW
                            try go_simp
                            all_goals with_reducible rfl
                          simp only [Act.put, List.setIfInBounds_toArray, List.set_cons_zero, List.set_cons_succ, List.getElem_toArray, List.getElem_cons_zero, List.getElem_cons_succ]
                          refine wpAnyH_take (i := 11) (oi := _) (v := ?_) rfl (by kernel_rfl) (by kernel_rfl) (by kernel_rfl) (fun _ _ _ h => h) (Or.inl ⟨by rfl, ?_⟩) hS0 ?_
                          rotate_left
                          · intro W hSW
                            try go_simp
                            all_goals with_reducible rfl
                          simp only [Act.put, List.setIfInBounds_toArray, List.set_cons_zero, List.set_cons_succ, List.getElem_toArray, List.getElem_cons_zero, List.getElem_cons_succ]
                          refine wpAnyH_take (i := 12) (oi := _) (v := ?_) rfl (by kernel_rfl) (by kernel_rfl) (by kernel_rfl) (fun _ _ _ h => h) (Or.inl ⟨by rfl, ?_⟩) hS0 ?_
                          rotate_left
                          · intro W hSW
                            obtain ⟨k1, k2, k3, k4, k5⟩ := HC9.out W (hkd.transX hSW)
                            try go_simp
                            all_goals with_reducible rfl
                          simp only [Act.put, List.setIfInBounds_toArray, List.set_cons_zero, List.set_cons_succ, List.getElem_toArray, List.getElem_cons_zero, List.getElem_cons_succ]
                          refine wpAnyH_take (i := 13) (oi := _) (v := ?_) rfl (by kernel_rfl) (by kernel_rfl) (by kernel_rfl) (fun _ _ _ h => h) (Or.inl ⟨by rfl, ?_⟩) hS0 ?_
                          rotate_left
                          · intro W hSW
                            try go_simp
                            all_goals with_reducible rfl
                          simp only [Act.put, List.setIfInBounds_toArray, List.set_cons_zero, List.set_cons_succ, List.getElem_toArray, List.getElem_cons_zero, List.getElem_cons_succ]
                          refine wpAnyH_ready (rs := [14]) (by kernel_rfl) (by simp) (AllReadyH.cons rfl (fun K hK => ?_) AllReadyH.nil)
                          have DV := Lib.hid (HV9.out W9.drew hbd)
                          go_simp
                          go_wp2_with ((go_at_call 15; (with_reducible refine DV.out.mono ?_); rintro e wV ⟨rfl, hbV⟩))
                          have hqV := below_chain hbd hbd.size hbV
                          have hkV := Kept.of_belowX hbV
                          have hzV := hkd.transX hkV
                          refine hK.out _ _ hkV (fun _ => ?_)
                          clear hK K DV
                          refine wpAnyH_stronger (S' := KepS wV) (fun W h => hkV.transX h) _ _ _ _ ?_
                          have hSV : KepS wV wV := KepS.refl wV
                          refine wpAnyH_take (i := 15) (oi := _) (v := .bool false) rfl (by kernel_rfl) (by kernel_rfl) (by kernel_rfl) (fun _ _ _ h => h) (Or.inl ⟨by rfl, ?_⟩) hSV ?_
                          skip
                          · intro W hSW
                            try go_simp
                            all_goals first | with_reducible rfl | (simp; done) | omega | (simp; omega) | trace_state
                          simp only [Act.put, List.setIfInBounds_toArray, List.set_cons_zero, List.set_cons_succ, List.getElem_toArray, List.getElem_cons_zero, List.getElem_cons_succ]
                          refine wpAnyH_take (i := 16) (oi := _) (v := .bool false) rfl (by kernel_rfl) (by kernel_rfl) (by kernel_rfl) (fun _ _ _ h => h) (Or.inl ⟨by rfl, ?_⟩) hSV ?_
                          skip
                          · intro W hSW
                            try go_simp
                            all_goals first | with_reducible rfl | (simp; done) | omega | (simp; omega) | trace_state
                          simp only [Act.put, List.setIfInBounds_toArray, List.set_cons_zero, List.set_cons_succ, List.getElem_toArray, List.getElem_cons_zero, List.getElem_cons_succ]
                          refine wpAnyH_take (i := 17) (oi := _) (v := ?_) rfl (by kernel_rfl) (by kernel_rfl) (by kernel_rfl) (fun _ _ _ h => h) (Or.inl ⟨by rfl, ?_⟩) hSV ?_
                          rotate_left
                          · intro W hSW
                            try go_simp
                            all_goals with_reducible rfl
                          simp only [Act.put, List.setIfInBounds_toArray, List.set_cons_zero, List.set_cons_succ, List.getElem_toArray, List.getElem_cons_zero, List.getElem_cons_succ]
                          refine wpAnyH_take (i := 19) (oi := _) (v := ?_) rfl (by kernel_rfl) (by kernel_rfl) (by kernel_rfl) (fun _ _ _ h => h) (Or.inl ⟨by rfl, ?_⟩) hSV ?_
                          rotate_left
                          · intro W hSW
                            try go_simp
                            all_goals with_reducible rfl
                          simp only [Act.put, List.setIfInBounds_toArray, List.set_cons_zero, List.set_cons_succ, List.getElem_toArray, List.getElem_cons_zero, List.getElem_cons_succ]
                          refine wpAnyH_take (i := 20) (oi := _) (v := ?_) rfl (by kernel_rfl) (by kernel_rfl) (by kernel_rfl) (fun _ _ _ h => h) (Or.inl ⟨by rfl, ?_⟩) hSV ?_
                          rotate_left
                          · intro W hSW
                            try go_simp
                            all_goals with_reducible rfl
                          simp only [Act.put, List.setIfInBounds_toArray, List.set_cons_zero, List.set_cons_succ, List.getElem_toArray, List.getElem_cons_zero, List.getElem_cons_succ]
                          refine wpAnyH_take (i := 21) (oi := _) (v := ?_) rfl (by kernel_rfl) (by kernel_rfl) (by kernel_rfl) (fun _ _ _ h => h) (Or.inl ⟨by rfl, ?_⟩) hSV ?_
                          rotate_left
                          · intro W hSW
                            obtain ⟨k1, k2, k3, k4, k5⟩ := HC9.out W (hzV.transX hSW)
                            try go_simp
                            all_goals with_reducible rfl
                          simp only [Act.put, List.setIfInBounds_toArray, List.set_cons_zero, List.set_cons_succ, List.getElem_toArray, List.getElem_cons_zero, List.getElem_cons_succ]
                          refine wpAnyH_take (i := 22) (oi := _) (v := ?_) rfl (by kernel_rfl) (by kernel_rfl) (by kernel_rfl) (fun _ _ _ h => h) (Or.inl ⟨by rfl, ?_⟩) hSV ?_
                          rotate_left
                          · intro W hSW
                            obtain ⟨u0, u1, u2, u3, u4, u5, u6, u7, u8, u9⟩ := HU9.out W (hzV.transX hSW)
                            try go_simp
                            all_goals with_reducible rfl
                          simp only [Act.put, List.setIfInBounds_toArray, List.set_cons_zero, List.set_cons_succ, List.getElem_toArray, List.getElem_cons_zero, List.getElem_cons_succ]
                          refine wpAnyH_take (i := 23) (oi := _) (v := ?_) rfl (by kernel_rfl) (by kernel_rfl) (by kernel_rfl) (fun _ _ _ h => h) (Or.inl ⟨by rfl, ?_⟩) hSV ?_
                          rotate_left
                          · intro W hSW
                            try go_simp
                            all_goals with_reducible rfl
                          simp only [Act.put, List.setIfInBounds_toArray, List.set_cons_zero, List.set_cons_succ, List.getElem_toArray, List.getElem_cons_zero, List.getElem_cons_succ]
                          refine wpAnyH_ready (rs := [18]) (by kernel_rfl) (by simp) (AllReadyH.cons rfl (fun K hK => ?_) AllReadyH.nil)
                          have DZ := Lib.hid (HB9.out wV hqV)
                          go_simp
                          go_wp2_with ((go_at_call 26; (with_reducible refine DZ.out.mono ?_); rintro e wZ ⟨z, lz, rfl, hz0, AZ, hz1, hz2, hz3, hbZ⟩))
                          have hqZ := below_chain hqV hqV.size hbZ
                          have hkZ := Kept.of_belowX hbZ
                          have hzZ := hzV.transX hkZ
                          refine hK.out _ _ hkZ (fun _ => ?_)
                          clear hK K DZ
                          refine wpAnyH_stronger (S' := KepS wZ) (fun W h => hkZ.transX h) _ _ _ _ ?_
                          have hSZ : KepS wZ wZ := KepS.refl wZ
                          refine wpAnyH_ready (rs := [24]) (by kernel_rfl) (by simp) (AllReadyH.cons rfl (fun K hK => ?_) AllReadyH.nil)
                          have DU := Lib.hid (HU8.out _ _ wZ AZ hz0 hqZ)
                          go_simp
                          go_wp2_with ((go_at_call 25; (with_reducible refine DU.out.mono ?_); rintro e wU ⟨rfl, ⟨R3, kz, AU⟩, hkU⟩))
                          have hzU := hzZ.transX hkU
                          refine hK.out _ _ hkU (fun _ => ?_)
                          clear hK K DU
                          refine wpAnyH_stronger (S' := KepS wU) (fun W h => hkU.transX h) _ _ _ _ ?_
                          have hSU : KepS wU wU := KepS.refl wU
                          refine wpAnyH_take (i := 25) (oi := _) (v := .bool false) rfl (by kernel_rfl) (by kernel_rfl) (by kernel_rfl) (fun _ _ _ h => h) (Or.inl ⟨by rfl, ?_⟩) hSU ?_
                          skip
                          · intro W hSW
                            try go_simp
                            all_goals first | with_reducible rfl | (simp; done) | omega | (simp; omega) | trace_state
                          simp only [Act.put, List.setIfInBounds_toArray, List.set_cons_zero, List.set_cons_succ, List.getElem_toArray, List.getElem_cons_zero, List.getElem_cons_succ]
                          refine wpAnyH_take (i := 26) (oi := _) (v := .bool false) rfl (by kernel_rfl) (by kernel_rfl) (by kernel_rfl) (fun _ _ _ h => h) (Or.inl ⟨by rfl, ?_⟩) hSU ?_
                          skip
                          · intro W hSW
                            try go_simp
                            all_goals first | with_reducible rfl | (simp; done) | omega | (simp; omega) | trace_state
                          simp only [Act.put, List.setIfInBounds_toArray, List.set_cons_zero, List.set_cons_succ, List.getElem_toArray, List.getElem_cons_zero, List.getElem_cons_succ]
                          refine wpAnyH_done (by kernel_rfl) ?_ _
                          have hzz := BQ9.out.trans (Below.mono hqZ BQ9.out.size)
                          have hfin : LSK w b1 m1 b2 m2 g7 (2000000 + 3 * j) w0 wU := ⟨HRE.out R wU _ ((HBR.out.up hzz).aside AU hz1 hz2 hz3) ((Kept.of_belowX hzz).transX hkU), HY.out.k.transX ((Kept.of_belowX hzz).transX hkU)⟩
                          clear hzz AZ AU hz0 hz1 hz2 hz3 hbV hqV hkV hzV hSV hbZ hqZ hkZ hzZ hSZ hkU hzU hSU hS0 hbd hkd HC9 HU9 HV9 HB9 HU8 HBR BQ9 HKW HY HRE
                          go_wp2_with fail
                          exact ⟨⟨2, by omega, by simp, hfin⟩, by simp [intOf]⟩
              · have hq3 : q = 2 := by omega
                subst hq3
                have hfin := hY.l
                clear hY HY hq2
                go_wp2_with fail
                exact ⟨⟨k + 1, by omega, by simp, hfin⟩, by simp [intOf]; omega⟩
          · have hjn : k = j := by omega
            have i2 : ¬ (k : Int) < (j : Int) := by omega
            subst hjn
            have hqf := HX0.bel
            clear HX0
            go_wp2_with fail
            go_ret
            exact ⟨rfl, hqf⟩
end Go.Proofs.YtmphegeiclgjbaaGreatDoor
