
/- The law: news that are taken had a quorum of the set that their header names, and that set was the one that was next, or a third of that one voted, too. -/
import Derived.Test.YtmphegeiclgjbaaGreatDoorClnG1
import Derived.Test.YtmphegeiclgjbaaGreatDoorClnM5
import Derived.Test.YtmphegeiclgjbaaGreatDoorMsgV
namespace Go.Proofs.YtmphegeiclgjbaaGreatDoor
set_option maxRecDepth 100000
open Go Go.RowKit
set_option linter.unusedVariables false
theorem rd_asT {w : World} {B : Nat} {v : Value} {l m : List UInt8} (h : Rd w B v l) (e : l = m) : Rd w B v m := e ▸ h
set_option maxHeartbeats 64000000 in
theorem cltrusts_law (w : World) (v1 v2 v3 : Value) (ps1 ps2 : List Pr) (xs : List StepV) (h1 : RdP w w.heap.size v1 ps1) (h2 : RdP w w.heap.size v2 ps2) (n1 : ∀ p ∈ ps1, p.1.size ≤ maxLen) (n2 : ∀ p ∈ ps2, p.1.size ≤ maxLen) (l1 : ps1.length ≤ 2000000) (l2 : ps2.length ≤ 2000000)
    (hx : RdSt w v3 xs) (hf : ∀ x ∈ xs, x.fine) (lx : xs.length ≤ 2000000) (hT : Pows w) (fr : TypeId × Nat × Nat) (hk : w.heap[0]? = some (.cells kVals fr.1 fr.2)) :
    Calls Tryz.prog 4 #[v1, v2, v3] w fun e w' => e = .returned (.bool true) ∧ Below w.heap.size w w' := by
  have HS := Lib.hid (clstores_any w v1 v2 ps1 ps2 h1 h2 n1 n2 l1 l2)
  have HFX : Hid (∀ Z, Below w.heap.size w Z → Calls Tryz.prog 12 #[] Z fun e w' => e = .returned (.bool true) ∧ Below Z.heap.size Z w') := Lib.hid fun Z hz => clfixed_any Z fr ((hz.block _ (blk_lt hk)).trans hk)
  have HX := Lib.hid (fun (Z : World) (hz : Kept w Z) => hx.keptM hz)
  have HFI := Lib.hid hf
  have HTB : Hid (∀ Z, Kept w Z → Pows Z ∧ Z.heap[0]? = some (.cells kVals fr.1 fr.2)) := Lib.hid fun Z hz => ⟨hT.kept hz, hz.blockP hk⟩
  obtain ⟨A1, c1, rfl⟩ : ∃ A c, v1 = .slice A ps1.length c := by obtain ⟨A, c, h, _⟩ := h1; exact ⟨A, c, h⟩
  obtain ⟨A2, c2, rfl⟩ : ∃ A c, v2 = .slice A ps2.length c := by obtain ⟨A, c, h, _⟩ := h2; exact ⟨A, c, h⟩
  obtain ⟨A3, c3, rfl⟩ : ∃ A c, v3 = .slice A xs.length c := by obtain ⟨A, c, h, _⟩ := hx; exact ⟨A, c, h⟩
  obtain ⟨n, hn⟩ : ∃ n, n = xs.length := ⟨_, rfl⟩
  rw [← hn] at HX ⊢
  have HN : Hid (n = xs.length ∧ n ≤ 2000000) := Lib.hid ⟨hn, by rw [hn]; exact lx⟩
  clear h1 h2 n1 n2 l1 l2 hx hf lx hT hk hn
  go_enter Tryz.func4, Tryz.ntmps4
  go_wp2_with fail
  refine HS.out.mono ?_
  rintro e w1 ⟨p1, p2, ok, rfl, hb1, hok⟩
  have HBL : Hid (∀ Z, Z = w1.alloc (.cells #[.pointer p1, .pointer p2] 25) → Below w.heap.size w Z) := Lib.hid fun Z e => by rw [e]; exact hb1.trans (((Below.refl _ _).alloc (Nat.le_refl _) _).mono hb1.size)
  have HUP : Hid (∀ (Z : World) (b m b' m' : Nat) (R R' : List Pr) (N : Nat), Z = w1.alloc (.cells #[.pointer p1, .pointer p2] 25) → Sts w b m b' m' R R' N w1 → Sts w b m b' m' R R' N Z) := Lib.hid fun Z b m b' m' R R' N e h => by rw [e]; exact h.up ((Below.refl _ _).alloc (Nat.le_refl _) _)
  have HRG := Lib.hid (heap_alloc_new w1 (.cells #[.pointer p1, .pointer p2] 25))
  have HOK := Lib.hid hok
  clear HS hb1 hok
  go_wp2_with fail
  generalize w1.alloc (.cells #[.pointer p1, .pointer p2] 25) = wB at *
  generalize w1.heap.size = g7 at *
  have hqB := HBL.out _ rfl
  refine (HFX.out _ hqB).mono ?_
  rintro e w4 ⟨rfl, hb4⟩
  have hq4 : Below w.heap.size w w4 := hqB.trans (hb4.mono hqB.size)
  cases ok with
  | false =>
    clear HBL HUP HRG HOK hqB hb4
    go_wp2_with fail
    refine (HFX.out _ hq4).mono ?_
    rintro e w5 ⟨rfl, hb5⟩
    have hq5 : Below w.heap.size w w5 := hq4.trans (hb5.mono hq4.size)
    clear hq4 hb5
    go_wp2_with fail
    go_ret
    exact ⟨rfl, hq5⟩
  | true =>
    obtain ⟨b1, m1, b2, m2, rfl, rfl, hst, hn1, hn2⟩ := HOK.out rfl
    have HL : Hid (LS w b1 m1 b2 m2 g7 2000000 w4) := Lib.hid (by
      have hs := (HUP.out _ _ _ _ _ _ _ _ rfl hst).up hb4
      have hk4 := Kept.of_belowX hb4
      exact ⟨⟨_, _, hs⟩, hk4.cell (blk_cell HRG.out 0), hk4.cell (blk_cell HRG.out 1)⟩)
    clear HBL HUP HRG HOK hqB hb4 hst hn1 hn2 hq4 HFX
    go_wp2_with fail
    go_loopw [35] (fun i Z => ∃ j : Nat, j ≤ n ∧ i = .int .i64 (j : Int) ∧ LS w b1 m1 b2 m2 g7 (2000000 + 3 * j) Z)
      (fun i _ => n - (intOf i).toNat)
    case atStart => exact ⟨0, by omega, rfl, HL.out⟩
    case round => as_aux_lemma =>
      clear HL
      obtain ⟨j, hj, rfl, HX0⟩ := hrel
      by_cases hlt : j < n
      · have hkr := Kept.of_belowX HX0.bel
        have HTR := Lib.hid (fun (Z : World) (hz : Kept wr Z) => HTB.out _ (hkr.transX hz))
        obtain ⟨A', c', e', hrd, hcell⟩ := HX.out _ hkr
        have hjl : j < xs.length := by have := HN.out.1; omega
        obtain ⟨g, o, hA', -, hcl⟩ := hcell (by omega)
        injection e' with e1 e2 e3
        subst e1 e3
        subst hA'
        have hck := hcl j hjl
        have hmem : xs[j] ∈ xs := List.getElem_mem hjl
        have hm0 := hrd _ hmem
        have hfn := HFI.out _ hmem
        generalize xs[j] = x at *
        have HM := Lib.hid (fun (Z : World) (hz : Kept wr Z) => hm0.keptM hz)
        have HFQ := Lib.hid hfn
        have HJ : Hid (2000000 + 3 * j + 3 ≤ 100000000 ∧ 2000000 + 3 * j + 3 = 2000000 + 3 * (j + 1)) := Lib.hid (by have := HN.out.2; omega)
        obtain ⟨SL, hSL⟩ : ∃ L : List Value, L = x.cells := ⟨_, rfl⟩
        rw [← hSL] at hck
        have hl66 : SL.length = 66 := by rw [hSL]; rfl
        have hrng : wr.rangeAt g (o + j * 66) SL := fun i u hu => hck i u (by have := (List.getElem?_eq_some_iff.1 hu).1; omega) hu
        have HRNG := Lib.hid hrng
        have HINF : Hid ((Tryz.prog.info? 48).map (·.size) = some SL.length) := Lib.hid (by rw [hl66]; kernel_rfl)
        have HONE : Hid (SL.toArray.all (·.oneCell') = true) := Lib.hid (by rw [hSL]; exact x.one hm0)
        have HSL := Lib.hid hSL
        have hz66 : Array.size Tryz.zeroCells48 = 66 := by kernel_rfl
        have HTH : Hid ((wr.alloc (.cells Tryz.zeroCells48 48)).there wr.heap.size 0 SL.toArray.size) := Lib.hid (there_new _ _ _ _ (by rw [hz66]; simp [hl66]))
        have hrg0 := range_new wr (Tryz.zeroCells48) 48 SL (by rw [hz66, hl66]; exact Nat.le_refl _)
        have hb0 := below_new wr (Tryz.zeroCells48) 48 SL
        obtain ⟨i, b, m, b', m', R, R', hi, hi2, hs, hcb, hre⟩ := HX0.pick _ (and1i x.on)
        have hs0 := hs.up hb0
        have hk0 := Kept.of_belowX hb0
        have k0 := range_cellT hrg0 0 (.int .i64 x.on) (by rw [hSL]; rfl)
        have k11 := range_cellT hrg0 11 (.string x.m.cl) (by rw [hSL]; rfl)
        have kb := hk0.cell hcb
        have hj9 : n ≤ 2000000 := HN.out.2
        have j1 : (0 : Int) ≤ (j : Int) := by omega
        have j2 : (j : Int) < (n : Int) := by omega
        have i1 : (0 : Int) ≤ (i : Int) := by omega
        have i2 : (i : Int) < 2 := by omega
        have HR0 := Lib.hid (And.intro hs0 (And.intro hk0 (And.intro hrg0 hb0)))
        have HRE := Lib.hid hre
        have HKB := Lib.hid (fun (Z : World) (hz : Kept wr Z) => hz.cell hcb)
        clear hz66 hck hcl hcell hrd hmem hm0 hfn hl66 hrng hSL hrg0 hb0 hs0 hk0 hs hcb hre HX0 hkr e2
        go_wp2_with (first
          | (with_reducible refine at_load 48 ?_; refine wpList_load_mid rfl 48 (.tmp 37) rfl g (o + j * 66) rfl SL _ HRNG.out Tryz.underlying48 rfl HINF.out ?_)
          | (with_reducible refine at_store 48 ?_; refine wpList_store_mid rfl 48 (.tmp 10) (.tmp 38) rfl wr.heap.size 0 SL.toArray rfl rfl HTH.out (by have := HINF.out; simpa using this) HONE.out ?_))
        try simp only [List.toList_toArray]
        clear k0 k11 kb
        obtain ⟨hs0, hk0, hrg0, hb0⟩ := HR0.out
        generalize (wr.alloc (.cells Tryz.zeroCells48 48)).setCells wr.heap.size 0 SL = w0 at *
        obtain ⟨ML, hML⟩ : ∃ L : List Value, L = x.m.cells := ⟨_, rfl⟩
        have HML := Lib.hid hML
        have hSM : SL = .int .i64 x.on :: .int .u64 (x.self : Int) :: .int .u64 (x.now : Int) :: .string x.sg :: ML := by rw [HSL.out, hML]; rfl
        have hone2 := HONE.out
        rw [hSM] at hone2
        have HON2 : Hid (ML.toArray.all (·.oneCell') = true) := Lib.hid (by simpa [Value.oneCell'] using hone2)
        have HINM : Hid ((Tryz.prog.info? 46).map (·.size) = some ML.length) := Lib.hid (by rw [hML]; kernel_rfl)
        have hl62 : ML.length = 62 := by rw [hML]; rfl
        have hrM : w0.rangeAt wr.heap.size 4 ML := fun q v hv => by
          have h := hrg0 (q + 4) v (by rw [hSM]; exact hv)
          rwa [Nat.zero_add, Nat.add_comm] at h
        have HRM := Lib.hid (fun (Z : World) (hz : Kept w0 Z) => (show Z.rangeAt wr.heap.size 4 ML from fun q v hv => hz.cell (hrM q v hv)))
        have HC7 := Lib.hid (fun (Z : World) (hz : Kept w0 Z) => And.intro (hz.cell (range_cellT hrg0 0 (.int .i64 x.on) (by rw [HSL.out]; rfl))) (hz.cell (HKB.out w0 hk0)))
        have HK0 := Lib.hid (And.intro hk0 hrg0)
        have HS0 := Lib.hid hs0
        have hbd : Below w0.heap.size w0 w0.drew := (Below.refl _ _).drew
        have hkd := Kept.of_belowX hbd
        have HTM : Hid ((w0.drew.alloc (.cells #[.int .i64 0, .string ⟨#[]⟩, .string ⟨#[]⟩, .int .u64 0, .int .u64 0, .int .u64 0, .int .u64 0, .string ⟨#[]⟩, .string ⟨#[]⟩, .string ⟨#[]⟩, .string ⟨#[]⟩, .string ⟨#[]⟩, .string ⟨#[]⟩, .string ⟨#[]⟩, .string ⟨#[]⟩, .string ⟨#[]⟩, .bool false, .string ⟨#[]⟩, .int .u64 0, .int .u64 0, .slice none 0 0, .slice none 0 0, .slice none 0 0, .string ⟨#[]⟩, .int .u64 0, .int .u64 0, .slice none 0 0, .slice none 0 0, .slice none 0 0, .slice none 0 0, .slice none 0 0, .slice none 0 0, .slice none 0 0, .slice none 0 0, .int .u64 0, .int .u64 0, .int .u64 0, .int .u64 0, .string ⟨#[]⟩, .string ⟨#[]⟩, .int .u64 0, .slice none 0 0, .int .u64 0, .int .u64 0, .slice none 0 0, .int .i64 0, .slice none 0 0, .int .u64 0, .string ⟨#[]⟩, .int .u64 0, .int .u64 0, .int .u64 0, .int .u64 0, .int .u64 0, .int .u64 0, .int .u64 0, .int .u64 0, .int .u64 0, .int .u64 0, .int .u64 0, .int .u64 0, .slice none 0 0] 46)).there w0.drew.heap.size 0 ML.toArray.size) := Lib.hid (there_new _ _ _ _ (by simp [hl62]))
        clear hML hSM hone2 hl62 hrM hk0 hrg0 hs0 hb0 HR0 HTH HRNG HONE
        generalize wr.heap.size = g10 at *
        refine wp_region_held_drew (S := KepS w0.drew) (by kernel_rfl) (KepS.refl _) (fun hS0 => ?_)
        generalize w0.drew = wd at *
        refine wpAnyH_take (i := 0) (oi := _) (v := ?_) rfl (by kernel_rfl) (by kernel_rfl) (by kernel_rfl) (fun _ _ _ h => h) (Or.inl ⟨by rfl, ?_⟩) hS0 ?_
        rotate_left
        · intro W hSW
          try go_simp
          all_goals with_reducible rfl
        simp only [Act.put, List.setIfInBounds_toArray, List.set_cons_zero, List.set_cons_succ, List.getElem_toArray, List.getElem_cons_zero, List.getElem_cons_succ]
        refine wpAnyH_take (i := 1) (oi := _) (v := ?_) rfl (by kernel_rfl) (by kernel_rfl) (by kernel_rfl) (fun _ _ _ h => h) (Or.inl ⟨by rfl, ?_⟩) hS0 ?_
        rotate_left
        · intro W hSW
          obtain ⟨k0, kb⟩ := HC7.out W (hkd.transX hSW)
          try go_simp
          all_goals with_reducible rfl
        simp only [Act.put, List.setIfInBounds_toArray, List.set_cons_zero, List.set_cons_succ, List.getElem_toArray, List.getElem_cons_zero, List.getElem_cons_succ]
        refine wpAnyH_take (i := 2) (oi := _) (v := ?_) rfl (by kernel_rfl) (by kernel_rfl) (by kernel_rfl) (fun _ _ _ h => h) (Or.inl ⟨by rfl, ?_⟩) hS0 ?_
        rotate_left
        · intro W hSW
          obtain ⟨k0, kb⟩ := HC7.out W (hkd.transX hSW)
          try go_simp
          all_goals with_reducible rfl
        simp only [Act.put, List.setIfInBounds_toArray, List.set_cons_zero, List.set_cons_succ, List.getElem_toArray, List.getElem_cons_zero, List.getElem_cons_succ]
        refine wpAnyH_take (i := 3) (oi := _) (v := ?_) rfl (by kernel_rfl) (by kernel_rfl) (by kernel_rfl) (fun _ _ _ h => h) (Or.inl ⟨by rfl, ?_⟩) hS0 ?_
        rotate_left
        · intro W hSW
          obtain ⟨k0, kb⟩ := HC7.out W (hkd.transX hSW)
          try go_simp
          all_goals with_reducible rfl
        simp only [Act.put, List.setIfInBounds_toArray, List.set_cons_zero, List.set_cons_succ, List.getElem_toArray, List.getElem_cons_zero, List.getElem_cons_succ]
        refine wpAnyH_take (i := 4) (oi := _) (v := ?_) rfl (by kernel_rfl) (by kernel_rfl) (by kernel_rfl) (fun _ _ _ h => h) (Or.inl ⟨by rfl, ?_⟩) hS0 ?_
        rotate_left
        · intro W hSW
          obtain ⟨k0, kb⟩ := HC7.out W (hkd.transX hSW)
          try go_simp
          all_goals with_reducible rfl
        simp only [Act.put, List.setIfInBounds_toArray, List.set_cons_zero, List.set_cons_succ, List.getElem_toArray, List.getElem_cons_zero, List.getElem_cons_succ]
        refine wpAnyH_take (i := 5) (oi := _) (v := ?_) rfl (by kernel_rfl) (by kernel_rfl) (by kernel_rfl) (fun _ _ _ h => h) (Or.inl ⟨by rfl, ?_⟩) hS0 ?_
        rotate_left
        · intro W hSW
          try go_simp
          all_goals with_reducible rfl
        simp only [Act.put, List.setIfInBounds_toArray, List.set_cons_zero, List.set_cons_succ, List.getElem_toArray, List.getElem_cons_zero, List.getElem_cons_succ]
        refine wpAnyH_take (i := 6) (oi := _) (v := .agg ML.toArray) rfl (by kernel_rfl) (by kernel_rfl) (by kernel_rfl) (fun _ _ _ h => h) (yieldsIf_load_mid (by rfl) 46 (.tmp 44) rfl g10 4 rfl ML _ (fun W h => HRM.out W (hkd.transX h)) Tryz.underlying46 rfl HINM.out) hS0 ?_
        simp only [Act.put, List.setIfInBounds_toArray, List.set_cons_zero, List.set_cons_succ, List.getElem_toArray, List.getElem_cons_zero, List.getElem_cons_succ]
        refine wpAnyH_ready (rs := [7]) (by kernel_rfl) (by simp) (AllReadyH.cons rfl (fun K hK => ?_) AllReadyH.nil)
        go_simp
        have hS1 : KepS wd (wd.alloc (.cells #[.int .i64 0, .string ⟨#[]⟩, .string ⟨#[]⟩, .int .u64 0, .int .u64 0, .int .u64 0, .int .u64 0, .string ⟨#[]⟩, .string ⟨#[]⟩, .string ⟨#[]⟩, .string ⟨#[]⟩, .string ⟨#[]⟩, .string ⟨#[]⟩, .string ⟨#[]⟩, .string ⟨#[]⟩, .string ⟨#[]⟩, .bool false, .string ⟨#[]⟩, .int .u64 0, .int .u64 0, .slice none 0 0, .slice none 0 0, .slice none 0 0, .string ⟨#[]⟩, .int .u64 0, .int .u64 0, .slice none 0 0, .slice none 0 0, .slice none 0 0, .slice none 0 0, .slice none 0 0, .slice none 0 0, .slice none 0 0, .slice none 0 0, .int .u64 0, .int .u64 0, .int .u64 0, .int .u64 0, .string ⟨#[]⟩, .string ⟨#[]⟩, .int .u64 0, .slice none 0 0, .int .u64 0, .int .u64 0, .slice none 0 0, .int .i64 0, .slice none 0 0, .int .u64 0, .string ⟨#[]⟩, .int .u64 0, .int .u64 0, .int .u64 0, .int .u64 0, .int .u64 0, .int .u64 0, .int .u64 0, .int .u64 0, .int .u64 0, .int .u64 0, .int .u64 0, .int .u64 0, .slice none 0 0] 46)) := Kept.of_belowX ((Below.refl _ _).alloc (Nat.le_refl _) _)
        refine hK.out _ _ hS1 (fun _ => ?_)
        clear hK K
        refine wpAnyH_take (i := 8) (oi := _) (v := ?_) rfl (by kernel_rfl) (by kernel_rfl) (by kernel_rfl) (fun _ _ _ h => h) (Or.inl ⟨by rfl, ?_⟩) hS1 ?_
        rotate_left
        · intro W hSW
          try go_simp
          all_goals with_reducible rfl
        simp only [Act.put, List.setIfInBounds_toArray, List.set_cons_zero, List.set_cons_succ, List.getElem_toArray, List.getElem_cons_zero, List.getElem_cons_succ]
        refine wpAnyH_ready (rs := [9]) (by kernel_rfl) (by simp) (AllReadyH.cons rfl (fun K hK => ?_) AllReadyH.nil)
        rw [if_pos (by rfl)]
        refine wp_store_mid 46 (.tmp 12) (.tmp 45) rfl wd.heap.size 0 ML.toArray rfl rfl HTM.out (by have := HINM.out; simpa using this) HON2.out ?_
        try simp only [List.toList_toArray]
        have hbS0 := below_new wd #[.int .i64 0, .string ⟨#[]⟩, .string ⟨#[]⟩, .int .u64 0, .int .u64 0, .int .u64 0, .int .u64 0, .string ⟨#[]⟩, .string ⟨#[]⟩, .string ⟨#[]⟩, .string ⟨#[]⟩, .string ⟨#[]⟩, .string ⟨#[]⟩, .string ⟨#[]⟩, .string ⟨#[]⟩, .string ⟨#[]⟩, .bool false, .string ⟨#[]⟩, .int .u64 0, .int .u64 0, .slice none 0 0, .slice none 0 0, .slice none 0 0, .string ⟨#[]⟩, .int .u64 0, .int .u64 0, .slice none 0 0, .slice none 0 0, .slice none 0 0, .slice none 0 0, .slice none 0 0, .slice none 0 0, .slice none 0 0, .slice none 0 0, .int .u64 0, .int .u64 0, .int .u64 0, .int .u64 0, .string ⟨#[]⟩, .string ⟨#[]⟩, .int .u64 0, .slice none 0 0, .int .u64 0, .int .u64 0, .slice none 0 0, .int .i64 0, .slice none 0 0, .int .u64 0, .string ⟨#[]⟩, .int .u64 0, .int .u64 0, .int .u64 0, .int .u64 0, .int .u64 0, .int .u64 0, .int .u64 0, .int .u64 0, .int .u64 0, .int .u64 0, .int .u64 0, .int .u64 0, .slice none 0 0] 46 ML
        refine hK.out _ _ (show KepS wd _ from Kept.of_belowX hbS0) (fun _ => ?_)
        clear hK K hS0 hS1
        refine wpAnyH_done (by kernel_rfl) ?_ _
        have hrS0 := range_new wd #[.int .i64 0, .string ⟨#[]⟩, .string ⟨#[]⟩, .int .u64 0, .int .u64 0, .int .u64 0, .int .u64 0, .string ⟨#[]⟩, .string ⟨#[]⟩, .string ⟨#[]⟩, .string ⟨#[]⟩, .string ⟨#[]⟩, .string ⟨#[]⟩, .string ⟨#[]⟩, .string ⟨#[]⟩, .string ⟨#[]⟩, .bool false, .string ⟨#[]⟩, .int .u64 0, .int .u64 0, .slice none 0 0, .slice none 0 0, .slice none 0 0, .string ⟨#[]⟩, .int .u64 0, .int .u64 0, .slice none 0 0, .slice none 0 0, .slice none 0 0, .slice none 0 0, .slice none 0 0, .slice none 0 0, .slice none 0 0, .slice none 0 0, .int .u64 0, .int .u64 0, .int .u64 0, .int .u64 0, .string ⟨#[]⟩, .string ⟨#[]⟩, .int .u64 0, .slice none 0 0, .int .u64 0, .int .u64 0, .slice none 0 0, .int .i64 0, .slice none 0 0, .int .u64 0, .string ⟨#[]⟩, .int .u64 0, .int .u64 0, .int .u64 0, .int .u64 0, .int .u64 0, .int .u64 0, .int .u64 0, .int .u64 0, .int .u64 0, .int .u64 0, .int .u64 0, .int .u64 0, .slice none 0 0] 46 ML (by rw [HML.out]; exact Nat.le_refl _)
        have hbS := hbd.trans (hbS0.mono hbd.size)
        have HBS0 := Lib.hid hbS
        have HRS0 := Lib.hid hrS0
        clear hbS0 hrS0 hbS hbd hkd HTM HON2 HINM HRM HC7 HKB
        generalize (wd.alloc (.cells #[.int .i64 0, .string ⟨#[]⟩, .string ⟨#[]⟩, .int .u64 0, .int .u64 0, .int .u64 0, .int .u64 0, .string ⟨#[]⟩, .string ⟨#[]⟩, .string ⟨#[]⟩, .string ⟨#[]⟩, .string ⟨#[]⟩, .string ⟨#[]⟩, .string ⟨#[]⟩, .string ⟨#[]⟩, .string ⟨#[]⟩, .bool false, .string ⟨#[]⟩, .int .u64 0, .int .u64 0, .slice none 0 0, .slice none 0 0, .slice none 0 0, .string ⟨#[]⟩, .int .u64 0, .int .u64 0, .slice none 0 0, .slice none 0 0, .slice none 0 0, .slice none 0 0, .slice none 0 0, .slice none 0 0, .slice none 0 0, .slice none 0 0, .int .u64 0, .int .u64 0, .int .u64 0, .int .u64 0, .string ⟨#[]⟩, .string ⟨#[]⟩, .int .u64 0, .slice none 0 0, .int .u64 0, .int .u64 0, .slice none 0 0, .int .i64 0, .slice none 0 0, .int .u64 0, .string ⟨#[]⟩, .int .u64 0, .int .u64 0, .int .u64 0, .int .u64 0, .int .u64 0, .int .u64 0, .int .u64 0, .int .u64 0, .int .u64 0, .int .u64 0, .int .u64 0, .int .u64 0, .slice none 0 0] 46)).setCells wd.heap.size 0 ML = wS at *
        generalize wd.heap.size = g12 at *
        obtain ⟨nn, ff, hnn, AT0⟩ := HS0.out.at
        have AS := AT0.up HBS0.out
        have hkS := HK0.out.1.transX (Kept.of_belowX HBS0.out)
        have hm1 := HM.out _ (Kept.refl _)
        obtain ⟨Av, cv, hva⟩ := hm1.r_h.v.form
        obtain ⟨As, cs, hvs⟩ := hm1.r_s1.form
        obtain ⟨Ax, cx, hvx⟩ := hm1.r_s3.form
        obtain ⟨Ao, co, hvo⟩ := hm1.r_t1.form
        have HPV := Lib.hid (And.intro hva (And.intro hvs (And.intro hvx hvo)))
        have HCF : Hid (∀ Z, Kept wS Z → Z.cell? ⟨g12, 0, none⟩ = some (.int .i64 x.m.kd) ∧ Z.cell? ⟨g12, 7, none⟩ = some (.string x.m.cl) ∧ Z.cell? ⟨g12, 18, none⟩ = some (.int .u64 (x.m.h.ht : Int)) ∧ Z.cell? ⟨g12, 21, none⟩ = some (.slice Av x.m.h.va.length cv) ∧ Z.cell? ⟨g12, 29, none⟩ = some (.slice As x.m.s1.length cs) ∧ Z.cell? ⟨g12, 31, none⟩ = some (.slice Ax x.m.s3.length cx) ∧ Z.cell? ⟨g12, 32, none⟩ = some (.slice Ao x.m.t1.length co) ∧ Z.cell? ⟨g12, 36, none⟩ = some (.int .u64 (x.m.at_ : Int))) := Lib.hid fun Z hz => ⟨hz.cell (range_cellT HRS0.out 0 _ (by rw [HML.out]; rfl)), hz.cell (range_cellT HRS0.out 7 _ (by rw [HML.out]; rfl)), hz.cell (range_cellT HRS0.out 18 _ (by rw [HML.out]; rfl)), by rw [← hva]; exact hz.cell (range_cellT HRS0.out 21 _ (by rw [HML.out]; rfl)), by rw [← hvs]; exact hz.cell (range_cellT HRS0.out 29 _ (by rw [HML.out]; rfl)), by rw [← hvx]; exact hz.cell (range_cellT HRS0.out 31 _ (by rw [HML.out]; rfl)), by rw [← hvo]; exact hz.cell (range_cellT HRS0.out 32 _ (by rw [HML.out]; rfl)), hz.cell (range_cellT HRS0.out 36 _ (by rw [HML.out]; rfl))⟩
        have hcl : x.m.cl.size ≤ 1048576 := HFQ.out.m.t _ (by simp [MsgV.texts])
        have hTA := csgot_any AS x.m.cl x.m.at_ hm1.lt_at_ (by omega)
        have hTO := fun (Z : World) (hz : Below wS.heap.size wS Z) => csgot_any (AS.up hz) x.m.cl x.m.h.ht hm1.r_h.ht (by omega)
        have hTN := fun (Q : List Pr) (k : Nat) (Z : World) (h : At w0 ⟨b, m, nn, ff⟩ [] Q k Z) => csgot_any h x.m.cl x.m.h.ht hm1.r_h.ht (by omega)
        have hcs := trusts_cases (R := R) (x := x) hm1.r_h.tm
        have hST := fun (Z : World) (hz : Below wS.heap.size wS Z) => clstep_any (AS.up hz) (show nn + 0 + 3 ≤ maxLen by have := HJ.out.1; unfold maxLen; omega) x (HM.out _ (hkS.transX (Kept.of_belowX hz))) HFQ.out (HTR.out _ (hkS.transX (Kept.of_belowX hz))).1 fr (HTR.out _ (hkS.transX (Kept.of_belowX hz))).2
        obtain ⟨⟨E, R2⟩, hU⟩ : ∃ p, p = stepM14 R x := ⟨_, rfl⟩
        rw [← HSL.out, ← hU] at hST
        rw [← hU] at hcs
        dsimp only at hST hcs hTA hTO hTN
        obtain ⟨T, hT⟩ : ∃ T, T = gotS (getCs R x.m.cl x.m.at_) := ⟨_, rfl⟩
        obtain ⟨bT, hbT⟩ : ∃ q, q = (getCs R x.m.cl x.m.at_).isSome := ⟨_, rfl⟩
        obtain ⟨O, hO⟩ : ∃ T, T = gotS (getCs R x.m.cl x.m.h.ht) := ⟨_, rfl⟩
        obtain ⟨bO, hbO⟩ : ∃ q, q = (getCs R x.m.cl x.m.h.ht).isSome := ⟨_, rfl⟩
        obtain ⟨N, hN⟩ : ∃ T, T = gotS (getCs R2 x.m.cl x.m.h.ht) := ⟨_, rfl⟩
        obtain ⟨bN, hbN⟩ : ∃ q, q = (getCs R2 x.m.cl x.m.h.ht).isSome := ⟨_, rfl⟩
        have hF1 : x.m.kd = 3 → bO = true → N = O ∧ bN = true := fun h3 h => by
          have e := (hcs h3).1 (hbO.symm.trans h)
          rw [hN, hbN, e, hO]
          exact ⟨rfl, hbO.symm.trans h⟩
        have hF2 := fun h3 => (hcs h3).2
        rw [← hbO, ← hbN, ← hbT, ← hT] at hF2
        rw [← hT, ← hbT] at hTA
        rw [← hO, ← hbO] at hTO
        have hTN2 := hTN R2
        rw [← hN, ← hbN] at hTN2
        have HF1 := Lib.hid hF1
        have HF2 := Lib.hid hF2
        have HTA := Lib.hid hTA
        have HTO := Lib.hid hTO
        have HTN := Lib.hid hTN2
        have HST := Lib.hid hST
        have HRA := Lib.hid (fun (Z : World) (hz : Kept w0 Z) => range_kept HK0.out.2 hz)
        have HNN := Lib.hid hnn
        have HKS := Lib.hid hkS
        have HUA := Lib.hid (wrap_one x.m.at_ hm1.lt_at_)
        obtain ⟨k1, k2, k3, k4, k5, k6, k7, k8⟩ := HCF.out _ (Kept.refl _)
        clear hm1 hva hvs hvx hvo hcl hTA hTO hTN hTN2 hcs hST hU hT hbT hO hbO hN hbN hF1 hF2 AT0 AS hkS hnn
        go_wp2_with fail
        refine HTA.out.mono ?_
        rintro e w2 ⟨AT1, cT1, AT2, cT2, rfl, hr1, hr2, hb2⟩
        clear k1 k2 k3 k4 k5 k6 k7 k8 HTA
        have hmT := heap_alloc_new w2 (.cells #[.int .u64 (T.tm : Int), .slice AT1 T.rt.length cT1, .slice AT2 T.nx.length cT2] 59)
        have hbT1 : Below w2.heap.size w2 (w2.alloc (.cells #[.int .u64 (T.tm : Int), .slice AT1 T.rt.length cT1, .slice AT2 T.nx.length cT2] 59)) := (Below.refl _ _).alloc (Nat.le_refl _) _
        have HMT := Lib.hid (And.intro hmT ((Kept.of_belowX hbT1).rd hr2))
        have HB2 := Lib.hid (hb2.trans (hbT1.mono hb2.size))
        obtain ⟨k1, k2, k3, k4, k5, k6, k7, k8⟩ := HCF.out _ (Kept.of_belowX HB2.out)
        clear hmT hbT1 hr1 hr2 hb2
        go_wp2_with fail
        generalize w2.alloc (.cells #[.int .u64 (T.tm : Int), .slice AT1 T.rt.length cT1, .slice AT2 T.nx.length cT2] 59) = W2 at *
        generalize w2.heap.size = gT at *
        refine (HTO.out _ HB2.out).mono ?_
        rintro e w3 ⟨AO1, cO1, AO2, cO2, rfl, hr1, hr2, hb3⟩
        clear k1 k2 k3 k4 k5 k6 k7 k8 HTO
        have hmO := heap_alloc_new w3 (.cells #[.int .u64 (O.tm : Int), .slice AO1 O.rt.length cO1, .slice AO2 O.nx.length cO2] 59)
        have hbO1 : Below w3.heap.size w3 (w3.alloc (.cells #[.int .u64 (O.tm : Int), .slice AO1 O.rt.length cO1, .slice AO2 O.nx.length cO2] 59)) := (Below.refl _ _).alloc (Nat.le_refl _) _
        have hkO1 := Kept.of_belowX hbO1
        have HMO := Lib.hid (And.intro hmO (And.intro (hkO1.rd hr1) (hkO1.rd hr2)))
        have hb23 := HB2.out.trans (hb3.mono HB2.out.size)
        have HB3 := Lib.hid (hb23.trans (hbO1.mono hb23.size))
        have HK23 := Lib.hid ((Kept.of_belowX hb3).transX hkO1)
        have HKA3 := Lib.hid ((Kept.of_belowX HBS0.out).transX (Kept.of_belowX HB3.out))
        clear hmO hbO1 hkO1 hr1 hr2 hb3 hb23
        go_wp2_with (with_reducible refine at_load 48 ?_; refine wpList_load_mid rfl 48 (.tmp 10) rfl g10 0 rfl SL _ (HRA.out _ HKA3.out) Tryz.underlying48 rfl HINF.out ?_)
        generalize w3.alloc (.cells #[.int .u64 (O.tm : Int), .slice AO1 O.rt.length cO1, .slice AO2 O.nx.length cO2] 59) = W3 at *
        generalize w3.heap.size = gO at *
        refine (HST.out _ HB3.out).mono ?_
        rintro e w4 ⟨rfl, A4, hk4⟩
        have HK34 := Lib.hid hk4
        have HKS4 := Lib.hid ((Kept.of_belowX HB3.out).transX hk4)
        have HN4 := Lib.hid (HTN.out _ _ A4)
        have HA4 := Lib.hid (HS0.out.step HNN.out A4)
        obtain ⟨k1, k2, k3, k4, k5, k6, k7, k8⟩ := HCF.out _ HKS4.out
        clear A4 hk4 HST HTN HNN HS0 HRA HKA3
        go_wp2_with fail
        refine HN4.out.mono ?_
        rintro e w5 ⟨AN1, cN1, AN2, cN2, rfl, hr1, hr2, hb5⟩
        clear k1 k2 k3 k4 k5 k6 k7 k8 HN4
        have hmN := heap_alloc_new w5 (.cells #[.int .u64 (N.tm : Int), .slice AN1 N.rt.length cN1, .slice AN2 N.nx.length cN2] 59)
        have hbN1 : Below w5.heap.size w5 (w5.alloc (.cells #[.int .u64 (N.tm : Int), .slice AN1 N.rt.length cN1, .slice AN2 N.nx.length cN2] 59)) := (Below.refl _ _).alloc (Nat.le_refl _) _
        have hkN1 := Kept.of_belowX hbN1
        have hk5 := Kept.of_belowX hb5
        have HR1 := Lib.hid (And.intro (hkN1.rd hr1) (hkN1.rd hr2))
        have HKS5 := Lib.hid (HKS4.out.transX (hk5.transX hkN1))
        have HK35 := Lib.hid (HK34.out.transX (hk5.transX hkN1))
        have HK25 := Lib.hid (HK23.out.transX HK35.out)
        have hlc : ∀ (l : List UInt8), ∃ S : ByteArray, ∀ (Z : World) (v : Value), Rd Z Z.heap.size v l → (convert 32 9 v).run Tryz.prog Z = .ok (.string S) Z := fun l => ⟨⟨l.toArray⟩, fun Z v h => run_str Tryz.underlying32 Tryz.underlying5 Tryz.isString h⟩
        have HLC := Lib.hid hlc
        have HLS : Hid (∀ Z, Below w5.heap.size w5 Z → LS w b1 m1 b2 m2 g7 (2000000 + 3 * (j + 1)) Z) := Lib.hid (fun Z hz => HRE.out R2 Z _ (by
          have h := (HA4.out.up hb5).up hz
          have e : 2000000 + 3 * j + (0 + 3) = 2000000 + 3 * (j + 1) := by omega
          rw [← e]; exact h) ((HKS.out.transX HKS4.out).transX (hk5.transX (Kept.of_belowX hz))))
        have HBN := Lib.hid hbN1
        have HLX : Hid (∀ Z, Below (w5.alloc (.cells #[.int .u64 (N.tm : Int), .slice AN1 N.rt.length cN1, .slice AN2 N.nx.length cN2] 59)).heap.size (w5.alloc (.cells #[.int .u64 (N.tm : Int), .slice AN1 N.rt.length cN1, .slice AN2 N.nx.length cN2] 59)) Z → LS w b1 m1 b2 m2 g7 (2000000 + 3 * (j + 1)) Z) := Lib.hid fun Z hz => HLS.out Z (hbN1.trans (hz.mono hbN1.size))
        have HCB : Hid (∀ Z, Kept (w5.alloc (.cells #[.int .u64 (N.tm : Int), .slice AN1 N.rt.length cN1, .slice AN2 N.nx.length cN2] 59)) Z → Z.cell? ⟨gT, 2, none⟩ = some (.slice AT2 T.nx.length cT2) ∧ Z.cell? ⟨gO, 0, none⟩ = some (.int .u64 (O.tm : Int)) ∧ Z.cell? ⟨gO, 1, none⟩ = some (.slice AO1 O.rt.length cO1) ∧ Z.cell? ⟨gO, 2, none⟩ = some (.slice AO2 O.nx.length cO2)
            ∧ Z.cell? ⟨w5.heap.size, 0, none⟩ = some (.int .u64 (N.tm : Int)) ∧ Z.cell? ⟨w5.heap.size, 1, none⟩ = some (.slice AN1 N.rt.length cN1) ∧ Z.cell? ⟨w5.heap.size, 2, none⟩ = some (.slice AN2 N.nx.length cN2)) := Lib.hid fun Z hz =>
          ⟨blk_cell ((HK25.out.transX hz).blockP HMT.out.1) 2, blk_cell ((HK35.out.transX hz).blockP HMO.out.1) 0, blk_cell ((HK35.out.transX hz).blockP HMO.out.1) 1, blk_cell ((HK35.out.transX hz).blockP HMO.out.1) 2, blk_cell (hz.blockP hmN) 0, blk_cell (hz.blockP hmN) 1, blk_cell (hz.blockP hmN) 2⟩
        have HRX := Lib.hid (fun (Z : World) (hz : Kept (w5.alloc (.cells #[.int .u64 (N.tm : Int), .slice AN1 N.rt.length cN1, .slice AN2 N.nx.length cN2] 59)) Z) => And.intro ((HK25.out.transX hz).rd HMT.out.2) (And.intro ((HK35.out.transX hz).rd HMO.out.2.1) ((HK35.out.transX hz).rd HMO.out.2.2)))
        have HKW := Lib.hid (HKS.out.transX HKS5.out)
        obtain ⟨k1, k2, k3, k4, k5, k6, k7, k8⟩ := HCF.out _ HKS5.out
        obtain ⟨r1, r2, r3, r4, r5, r6, r7⟩ := HCB.out _ (Kept.refl _)
        clear hmN hbN1 hkN1 hk5 hr1 hr2 hb5 hlc HA4 HKS4 HK34 HK23 HK35 HK25 HMT HMO HKS HRE HJ HINF HSL HML HRS0 HBS0 HK0 HB2 HB3
        have HMK := Lib.hid (fun (Z : World) (hz : Kept (w5.alloc (.cells #[.int .u64 (N.tm : Int), .slice AN1 N.rt.length cN1, .slice AN2 N.nx.length cN2] 59)) Z) => HM.out _ (HKW.out.transX hz))
        have HTK := Lib.hid (fun (Z : World) (hz : Kept (w5.alloc (.cells #[.int .u64 (N.tm : Int), .slice AN1 N.rt.length cN1, .slice AN2 N.nx.length cN2] 59)) Z) => (HTR.out _ (HKW.out.transX hz)).2)
        have HCK := Lib.hid (fun (Z : World) (hz : Kept (w5.alloc (.cells #[.int .u64 (N.tm : Int), .slice AN1 N.rt.length cN1, .slice AN2 N.nx.length cN2] 59)) Z) => HCF.out _ (HKS5.out.transX hz))
        clear HM HTR HKW HCF HKS5
        generalize hkd3 : x.m.kd = kd at *
        by_cases k3 : kd = 3
        rotate_left
        · have q3 : (kd != 3) = true := by simpa using k3
          have hfin := HLS.out _ HBN.out
          clear HF1 HF2 HLX HLS HBN HCB HRX HMK HTK HCK HPV HFQ HR1 HUA HLC k3 hkd3
          go_wp2_with fail
          exact ⟨⟨j + 1, by omega, by simp, hfin⟩, by simp [intOf]; omega⟩
        subst k3
        clear hkd3
        have HF3 := Lib.hid (HF2.out rfl)
        have HF4 := Lib.hid (HF1.out rfl)
        clear HF1 HF2
        cases bO with
        | false =>
          by_cases hE : E = 0
          · subst hE
            obtain ⟨hbt, hbn, hvh, hqu, hlt9, hlk⟩ := HF3.out.2 rfl
            subst hbt
            subst hbn
            have q9 : ¬ ((x.m.h.ht : Int) ≤ (x.m.at_ : Int)) := by omega
            have HLK := Lib.hid hlk
            have HVH := Lib.hid hvh
            have HQU := Lib.hid hqu
            have HLN : Hid (x.m.s1.length ≤ 1048576 ∧ x.m.s3.length ≤ 1048576) := Lib.hid ⟨HFQ.out.m.l _ (by simp [MsgV.lens]), HFQ.out.m.l _ (by simp [MsgV.lens])⟩
            clear hlk hvh hqu hlt9 HF3 HF4 HFQ
            go_wp2_with fail
            clear r1 r2 r3 r4 r5 r6 r7 k1 k2 k3 k4 k5 k6 k7 k8
            generalize w5.alloc (.cells #[.int .u64 (N.tm : Int), .slice AN1 N.rt.length cN1, .slice AN2 N.nx.length cN2] 59) = W5 at *
            generalize w5.heap.size = gN at *
            have hdw : Below W5.heap.size W5 W5.drew := (Below.refl _ _).drew
            have hkw := Kept.of_belowX hdw
            have HDW := Lib.hid (And.intro hdw hkw)
            have HC8 := Lib.hid (fun (Z : World) (hz : Kept W5.drew Z) => HCK.out Z (hkw.transX hz))
            have HB8 := Lib.hid (fun (Z : World) (hz : Kept W5.drew Z) => (HCB.out Z (hkw.transX hz)).1)
            have HT8 := Lib.hid (fun (Z : World) (hz : Kept W5.drew Z) => (HRX.out Z (hkw.transX hz)).1)
            have HV8 : Hid (∀ Z, Kept W5.drew Z → Rd Z Z.heap.size (.slice Av x.m.h.va.length cv) x.m.h.va) := Lib.hid (fun Z hz => by rw [← HPV.out.1]; exact (HMK.out Z (hkw.transX hz)).r_h.v)
            have HH1 : Hid (∀ Z, Below W5.drew.heap.size W5.drew Z → Calls Tryz.prog 18 #[.slice As x.m.s1.length cs] Z fun e w' => ∃ v', e = .returned v' ∧ Own w' Z.heap.size v' x.m.h.va ∧ Below Z.heap.size Z w') := Lib.hid (fun Z hz => by
            have hkz := hkw.transX (Kept.of_belowX hz)
            have h := hashV_any x.m.vs1 x.m.s1 Z (HMK.out Z hkz).r_s1 HLN.out.1 fr (HTK.out Z hkz)
            rw [HPV.out.2.1] at h
            rw [← HVH.out]
            exact h)
            have HX1 : Hid (∀ Z, Below W5.drew.heap.size W5.drew Z → Calls Tryz.prog 19 #[.slice As x.m.s1.length cs, .slice Ao x.m.t1.length co] Z fun e w' => e = .returned (.bool true) ∧ Below Z.heap.size Z w') := Lib.hid (fun Z hz => by
            have hkz := hkw.transX (Kept.of_belowX hz)
            have h := quorum_any x.m.vs1 x.m.vt1 x.m.s1 x.m.t1 Z (HMK.out Z hkz).r_s1 (HMK.out Z hkz).r_t1
            rw [HPV.out.2.1, HPV.out.2.2.2, HQU.out] at h
            exact h)
            obtain ⟨SH, hsh⟩ := HLC.out x.m.h.va
            have HCH := Lib.hid hsh
            have hbd : Below W5.drew.heap.size W5.drew W5.drew := Below.refl _ _
            have hkd := Kept.refl W5.drew
            have hk0 := Kept.refl W5.drew
            clear hsh hdw hkw HCK HCB HRX HR1
            refine wp_region_held_drew (S := KepS W5.drew) (by kernel_rfl) (KepS.refl _) (fun hS0 => ?_)
            refine wpAnyH_take (i := 0) (oi := _) (v := ?_) rfl (by kernel_rfl) (by kernel_rfl) (by kernel_rfl) (fun _ _ _ h => h) (Or.inl ⟨by rfl, ?_⟩) hS0 ?_
            rotate_left
            · intro W hSW
              try go_simp
              all_goals with_reducible rfl
            simp only [Act.put, List.setIfInBounds_toArray, List.set_cons_zero, List.set_cons_succ, List.getElem_toArray, List.getElem_cons_zero, List.getElem_cons_succ]
            refine wpAnyH_take (i := 1) (oi := _) (v := .bool false) rfl (by kernel_rfl) (by kernel_rfl) (by kernel_rfl) (fun _ _ _ h => h) (Or.inl ⟨by rfl, ?_⟩) hS0 ?_
            skip
            · intro W hSW
              try go_simp
              all_goals first | with_reducible rfl | (simp; done) | omega | (simp; omega) | trace_state
            simp only [Act.put, List.setIfInBounds_toArray, List.set_cons_zero, List.set_cons_succ, List.getElem_toArray, List.getElem_cons_zero, List.getElem_cons_succ]
            refine wpAnyH_take (i := 2) (oi := _) (v := .bool false) rfl (by kernel_rfl) (by kernel_rfl) (by kernel_rfl) (fun _ _ _ h => h) (Or.inl ⟨by rfl, ?_⟩) hS0 ?_
            skip
            · intro W hSW
              try go_simp
              all_goals first | with_reducible rfl | (simp; done) | omega | (simp; omega) | trace_state
            simp only [Act.put, List.setIfInBounds_toArray, List.set_cons_zero, List.set_cons_succ, List.getElem_toArray, List.getElem_cons_zero, List.getElem_cons_succ]
            refine wpAnyH_take (i := 3) (oi := _) (v := ?_) rfl (by kernel_rfl) (by kernel_rfl) (by kernel_rfl) (fun _ _ _ h => h) (Or.inl ⟨by rfl, ?_⟩) hS0 ?_
            rotate_left
            · intro W hSW
              try go_simp
              all_goals with_reducible rfl
            simp only [Act.put, List.setIfInBounds_toArray, List.set_cons_zero, List.set_cons_succ, List.getElem_toArray, List.getElem_cons_zero, List.getElem_cons_succ]
            refine wpAnyH_take (i := 4) (oi := _) (v := .bool false) rfl (by kernel_rfl) (by kernel_rfl) (by kernel_rfl) (fun _ _ _ h => h) (Or.inl ⟨by rfl, ?_⟩) hS0 ?_
            skip
            · intro W hSW
              try go_simp
              all_goals first | with_reducible rfl | (simp; done) | omega | (simp; omega) | trace_state
            simp only [Act.put, List.setIfInBounds_toArray, List.set_cons_zero, List.set_cons_succ, List.getElem_toArray, List.getElem_cons_zero, List.getElem_cons_succ]
            refine wpAnyH_take (i := 5) (oi := _) (v := .bool false) rfl (by kernel_rfl) (by kernel_rfl) (by kernel_rfl) (fun _ _ _ h => h) (Or.inl ⟨by rfl, ?_⟩) hS0 ?_
            skip
            · intro W hSW
              try go_simp
              all_goals first | with_reducible rfl | (simp; done) | omega | (simp; omega) | trace_state
            simp only [Act.put, List.setIfInBounds_toArray, List.set_cons_zero, List.set_cons_succ, List.getElem_toArray, List.getElem_cons_zero, List.getElem_cons_succ]
            refine wpAnyH_take (i := 6) (oi := _) (v := .bool false) rfl (by kernel_rfl) (by kernel_rfl) (by kernel_rfl) (fun _ _ _ h => h) (Or.inl ⟨by rfl, ?_⟩) hS0 ?_
            skip
            · intro W hSW
              try go_simp
              all_goals first | with_reducible rfl | (simp; done) | omega | (simp; omega) | trace_state
            simp only [Act.put, List.setIfInBounds_toArray, List.set_cons_zero, List.set_cons_succ, List.getElem_toArray, List.getElem_cons_zero, List.getElem_cons_succ]
            refine wpAnyH_take (i := 7) (oi := _) (v := ?_) rfl (by kernel_rfl) (by kernel_rfl) (by kernel_rfl) (fun _ _ _ h => h) (Or.inl ⟨by rfl, ?_⟩) hS0 ?_
            rotate_left
            · intro W hSW
              try go_simp
              all_goals with_reducible rfl
            simp only [Act.put, List.setIfInBounds_toArray, List.set_cons_zero, List.set_cons_succ, List.getElem_toArray, List.getElem_cons_zero, List.getElem_cons_succ]
            refine wpAnyH_take (i := 8) (oi := _) (v := ?_) rfl (by kernel_rfl) (by kernel_rfl) (by kernel_rfl) (fun _ _ _ h => h) (Or.inl ⟨by rfl, ?_⟩) hS0 ?_
            rotate_left
            · intro W hSW
              obtain ⟨k1, k2, k3, k4, k5, k6, k7, k8⟩ := HC8.out W (hk0.transX (hkd.transX hSW))
              try go_simp
              all_goals with_reducible rfl
            simp only [Act.put, List.setIfInBounds_toArray, List.set_cons_zero, List.set_cons_succ, List.getElem_toArray, List.getElem_cons_zero, List.getElem_cons_succ]
            refine wpAnyH_take (i := 11) (oi := _) (v := ?_) rfl (by kernel_rfl) (by kernel_rfl) (by kernel_rfl) (fun _ _ _ h => h) (Or.inl ⟨by rfl, ?_⟩) hS0 ?_
            rotate_left
            · intro W hSW
              try go_simp
              all_goals with_reducible rfl
            simp only [Act.put, List.setIfInBounds_toArray, List.set_cons_zero, List.set_cons_succ, List.getElem_toArray, List.getElem_cons_zero, List.getElem_cons_succ]
            refine wpAnyH_take (i := 12) (oi := _) (v := ?_) rfl (by kernel_rfl) (by kernel_rfl) (by kernel_rfl) (fun _ _ _ h => h) (Or.inl ⟨by rfl, ?_⟩) hS0 ?_
            rotate_left
            · intro W hSW
              try go_simp
              all_goals with_reducible rfl
            simp only [Act.put, List.setIfInBounds_toArray, List.set_cons_zero, List.set_cons_succ, List.getElem_toArray, List.getElem_cons_zero, List.getElem_cons_succ]
            refine wpAnyH_take (i := 13) (oi := _) (v := ?_) rfl (by kernel_rfl) (by kernel_rfl) (by kernel_rfl) (fun _ _ _ h => h) (Or.inl ⟨by rfl, ?_⟩) hS0 ?_
            rotate_left
            · intro W hSW
              obtain ⟨k1, k2, k3, k4, k5, k6, k7, k8⟩ := HC8.out W (hk0.transX (hkd.transX hSW))
              try go_simp
              all_goals with_reducible rfl
            simp only [Act.put, List.setIfInBounds_toArray, List.set_cons_zero, List.set_cons_succ, List.getElem_toArray, List.getElem_cons_zero, List.getElem_cons_succ]
            refine wpAnyH_take (i := 14) (oi := _) (v := ?_) rfl (by kernel_rfl) (by kernel_rfl) (by kernel_rfl) (fun _ _ _ h => h) (Or.inl ⟨by rfl, ?_⟩) hS0 ?_
            rotate_left
            · intro W hSW
              have cw := HCH.out W _ (HV8.out W (hkd.transX hSW))
              try go_simp
              all_goals with_reducible rfl
            simp only [Act.put, List.setIfInBounds_toArray, List.set_cons_zero, List.set_cons_succ, List.getElem_toArray, List.getElem_cons_zero, List.getElem_cons_succ]
            refine wpAnyH_ready (rs := [9]) (by kernel_rfl) (by simp) (AllReadyH.cons rfl (fun K hK => ?_) AllReadyH.nil)
            have DH := Lib.hid (HH1.out W5.drew hbd)
            go_simp
            go_wp2_with ((go_at_call 18; (with_reducible refine DH.out.mono ?_); rintro e wH ⟨vH, rfl, hoH, hbH⟩))
            have hqH := below_chain hbd hbd.size hbH
            have hkH := Kept.of_belowX hbH
            have hzH := hkd.transX hkH
            refine hK.out _ _ hkH (fun _ => ?_)
            clear hK K DH
            refine wpAnyH_stronger (S' := KepS wH) (fun W h => hkH.transX h) _ _ _ _ ?_
            have hSH : KepS wH wH := KepS.refl wH
            refine wpAnyH_take (i := 10) (oi := _) (v := ?_) rfl (by kernel_rfl) (by kernel_rfl) (by kernel_rfl) (fun _ _ _ h => h) (Or.inl ⟨by rfl, ?_⟩) hSH ?_
            rotate_left
            · intro W hSW
              have cw := HCH.out W _ (hSW.rd hoH.rd)
              try go_simp
              all_goals with_reducible rfl
            simp only [Act.put, List.setIfInBounds_toArray, List.set_cons_zero, List.set_cons_succ, List.getElem_toArray, List.getElem_cons_zero, List.getElem_cons_succ]
            refine wpAnyH_take (i := 15) (oi := _) (v := .bool false) rfl (by kernel_rfl) (by kernel_rfl) (by kernel_rfl) (fun _ _ _ h => h) (Or.inl ⟨by rfl, ?_⟩) hSH ?_
            skip
            · intro W hSW
              try go_simp
              all_goals first | with_reducible rfl | (simp; done) | omega | (simp; omega) | trace_state
            simp only [Act.put, List.setIfInBounds_toArray, List.set_cons_zero, List.set_cons_succ, List.getElem_toArray, List.getElem_cons_zero, List.getElem_cons_succ]
            refine wpAnyH_take (i := 16) (oi := _) (v := .bool false) rfl (by kernel_rfl) (by kernel_rfl) (by kernel_rfl) (fun _ _ _ h => h) (Or.inl ⟨by rfl, ?_⟩) hSH ?_
            skip
            · intro W hSW
              try go_simp
              all_goals first | with_reducible rfl | (simp; done) | omega | (simp; omega) | trace_state
            simp only [Act.put, List.setIfInBounds_toArray, List.set_cons_zero, List.set_cons_succ, List.getElem_toArray, List.getElem_cons_zero, List.getElem_cons_succ]
            refine wpAnyH_take (i := 17) (oi := _) (v := .bool false) rfl (by kernel_rfl) (by kernel_rfl) (by kernel_rfl) (fun _ _ _ h => h) (Or.inl ⟨by rfl, ?_⟩) hSH ?_
            skip
            · intro W hSW
              try go_simp
              all_goals first | with_reducible rfl | (simp; done) | omega | (simp; omega) | trace_state
            simp only [Act.put, List.setIfInBounds_toArray, List.set_cons_zero, List.set_cons_succ, List.getElem_toArray, List.getElem_cons_zero, List.getElem_cons_succ]
            refine wpAnyH_take (i := 18) (oi := _) (v := ?_) rfl (by kernel_rfl) (by kernel_rfl) (by kernel_rfl) (fun _ _ _ h => h) (Or.inl ⟨by rfl, ?_⟩) hSH ?_
            rotate_left
            · intro W hSW
              try go_simp
              all_goals with_reducible rfl
            simp only [Act.put, List.setIfInBounds_toArray, List.set_cons_zero, List.set_cons_succ, List.getElem_toArray, List.getElem_cons_zero, List.getElem_cons_succ]
            refine wpAnyH_take (i := 19) (oi := _) (v := ?_) rfl (by kernel_rfl) (by kernel_rfl) (by kernel_rfl) (fun _ _ _ h => h) (Or.inl ⟨by rfl, ?_⟩) hSH ?_
            rotate_left
            · intro W hSW
              obtain ⟨k1, k2, k3, k4, k5, k6, k7, k8⟩ := HC8.out W (hk0.transX (hzH.transX hSW))
              try go_simp
              all_goals with_reducible rfl
            simp only [Act.put, List.setIfInBounds_toArray, List.set_cons_zero, List.set_cons_succ, List.getElem_toArray, List.getElem_cons_zero, List.getElem_cons_succ]
            refine wpAnyH_take (i := 20) (oi := _) (v := ?_) rfl (by kernel_rfl) (by kernel_rfl) (by kernel_rfl) (fun _ _ _ h => h) (Or.inl ⟨by rfl, ?_⟩) hSH ?_
            rotate_left
            · intro W hSW
              try go_simp
              all_goals with_reducible rfl
            simp only [Act.put, List.setIfInBounds_toArray, List.set_cons_zero, List.set_cons_succ, List.getElem_toArray, List.getElem_cons_zero, List.getElem_cons_succ]
            refine wpAnyH_take (i := 21) (oi := _) (v := ?_) rfl (by kernel_rfl) (by kernel_rfl) (by kernel_rfl) (fun _ _ _ h => h) (Or.inl ⟨by rfl, ?_⟩) hSH ?_
            rotate_left
            · intro W hSW
              obtain ⟨k1, k2, k3, k4, k5, k6, k7, k8⟩ := HC8.out W (hk0.transX (hzH.transX hSW))
              try go_simp
              all_goals with_reducible rfl
            simp only [Act.put, List.setIfInBounds_toArray, List.set_cons_zero, List.set_cons_succ, List.getElem_toArray, List.getElem_cons_zero, List.getElem_cons_succ]
            refine wpAnyH_ready (rs := [22]) (by kernel_rfl) (by simp) (AllReadyH.cons rfl (fun K hK => ?_) AllReadyH.nil)
            have DQ := Lib.hid (HX1.out wH hqH)
            go_simp
            go_wp2_with ((go_at_call 19; (with_reducible refine DQ.out.mono ?_); rintro e wQ ⟨rfl, hbQ⟩))
            have hqQ := below_chain hqH hqH.size hbQ
            have hkQ := Kept.of_belowX hbQ
            have hzQ := hzH.transX hkQ
            refine hK.out _ _ hkQ (fun _ => ?_)
            clear hK K DQ
            refine wpAnyH_stronger (S' := KepS wQ) (fun W h => hkQ.transX h) _ _ _ _ ?_
            have hSQ : KepS wQ wQ := KepS.refl wQ
            refine wpAnyH_take (i := 23) (oi := _) (v := .bool false) rfl (by kernel_rfl) (by kernel_rfl) (by kernel_rfl) (fun _ _ _ h => h) (Or.inl ⟨by rfl, ?_⟩) hSQ ?_
            skip
            · intro W hSW
              try go_simp
              all_goals first | with_reducible rfl | (simp; done) | omega | (simp; omega) | trace_state
            simp only [Act.put, List.setIfInBounds_toArray, List.set_cons_zero, List.set_cons_succ, List.getElem_toArray, List.getElem_cons_zero, List.getElem_cons_succ]
            refine wpAnyH_take (i := 24) (oi := _) (v := .bool false) rfl (by kernel_rfl) (by kernel_rfl) (by kernel_rfl) (fun _ _ _ h => h) (Or.inl ⟨by rfl, ?_⟩) hSQ ?_
            skip
            · intro W hSW
              try go_simp
              all_goals first | with_reducible rfl | (simp; done) | omega | (simp; omega) | trace_state
            simp only [Act.put, List.setIfInBounds_toArray, List.set_cons_zero, List.set_cons_succ, List.getElem_toArray, List.getElem_cons_zero, List.getElem_cons_succ]
            refine wpAnyH_take (i := 25) (oi := _) (v := .bool false) rfl (by kernel_rfl) (by kernel_rfl) (by kernel_rfl) (fun _ _ _ h => h) (Or.inl ⟨by rfl, ?_⟩) hSQ ?_
            skip
            · intro W hSW
              try go_simp
              all_goals first | with_reducible rfl | (simp; done) | omega | (simp; omega) | trace_state
            simp only [Act.put, List.setIfInBounds_toArray, List.set_cons_zero, List.set_cons_succ, List.getElem_toArray, List.getElem_cons_zero, List.getElem_cons_succ]
            refine wpAnyH_take (i := 26) (oi := _) (v := ?_) rfl (by kernel_rfl) (by kernel_rfl) (by kernel_rfl) (fun _ _ _ h => h) (Or.inl ⟨by rfl, ?_⟩) hSQ ?_
            rotate_left
            · intro W hSW
              try go_simp
              all_goals with_reducible rfl
            simp only [Act.put, List.setIfInBounds_toArray, List.set_cons_zero, List.set_cons_succ, List.getElem_toArray, List.getElem_cons_zero, List.getElem_cons_succ]
            refine wpAnyH_take (i := 27) (oi := _) (v := ?_) rfl (by kernel_rfl) (by kernel_rfl) (by kernel_rfl) (fun _ _ _ h => h) (Or.inl ⟨by rfl, ?_⟩) hSQ ?_
            rotate_left
            · intro W hSW
              try go_simp
              all_goals with_reducible rfl
            simp only [Act.put, List.setIfInBounds_toArray, List.set_cons_zero, List.set_cons_succ, List.getElem_toArray, List.getElem_cons_zero, List.getElem_cons_succ]
            refine wpAnyH_take (i := 28) (oi := _) (v := ?_) rfl (by kernel_rfl) (by kernel_rfl) (by kernel_rfl) (fun _ _ _ h => h) (Or.inl ⟨by rfl, ?_⟩) hSQ ?_
            rotate_left
            · intro W hSW
              obtain ⟨k1, k2, k3, k4, k5, k6, k7, k8⟩ := HC8.out W (hk0.transX (hzQ.transX hSW))
              try go_simp
              all_goals with_reducible rfl
            simp only [Act.put, List.setIfInBounds_toArray, List.set_cons_zero, List.set_cons_succ, List.getElem_toArray, List.getElem_cons_zero, List.getElem_cons_succ]
            refine wpAnyH_take (i := 29) (oi := _) (v := ?_) rfl (by kernel_rfl) (by kernel_rfl) (by kernel_rfl) (fun _ _ _ h => h) (Or.inl ⟨by rfl, ?_⟩) hSQ ?_
            rotate_left
            · intro W hSW
              try go_simp
              all_goals with_reducible rfl
            simp only [Act.put, List.setIfInBounds_toArray, List.set_cons_zero, List.set_cons_succ, List.getElem_toArray, List.getElem_cons_zero, List.getElem_cons_succ]
            refine wpAnyH_take (i := 30) (oi := _) (v := ?_) rfl (by kernel_rfl) (by kernel_rfl) (by kernel_rfl) (fun _ _ _ h => h) (Or.inl ⟨by rfl, ?_⟩) hSQ ?_
            rotate_left
            · intro W hSW
              obtain ⟨k1, k2, k3, k4, k5, k6, k7, k8⟩ := HC8.out W (hk0.transX (hzQ.transX hSW))
              try go_simp
              all_goals with_reducible rfl
            simp only [Act.put, List.setIfInBounds_toArray, List.set_cons_zero, List.set_cons_succ, List.getElem_toArray, List.getElem_cons_zero, List.getElem_cons_succ]
            refine wpAnyH_take (i := 31) (oi := _) (v := .bool false) rfl (by kernel_rfl) (by kernel_rfl) (by kernel_rfl) (fun _ _ _ h => h) (Or.inl ⟨by rfl, ?_⟩) hSQ ?_
            skip
            · intro W hSW
              try go_simp
              all_goals first | with_reducible rfl | (simp; done) | omega | (simp; omega) | trace_state
            simp only [Act.put, List.setIfInBounds_toArray, List.set_cons_zero, List.set_cons_succ, List.getElem_toArray, List.getElem_cons_zero, List.getElem_cons_succ]
            refine wpAnyH_take (i := 32) (oi := _) (v := .bool false) rfl (by kernel_rfl) (by kernel_rfl) (by kernel_rfl) (fun _ _ _ h => h) (Or.inl ⟨by rfl, ?_⟩) hSQ ?_
            skip
            · intro W hSW
              try go_simp
              all_goals first | with_reducible rfl | (simp; done) | omega | (simp; omega) | trace_state
            simp only [Act.put, List.setIfInBounds_toArray, List.set_cons_zero, List.set_cons_succ, List.getElem_toArray, List.getElem_cons_zero, List.getElem_cons_succ]
            refine wpAnyH_done (by kernel_rfl) ?_ _
            have hbq := (Below.refl wQ.heap.size wQ).drew
            have BQD := Lib.hid (hqQ.trans (hbq.mono hqQ.size))
            have BKD := Lib.hid (Kept.of_belowX BQD.out)
            clear hbH hqH hkH hzH hoH hSH hbQ hqQ hkQ hzQ hSQ hS0 hbd hkd hk0 hbq HH1 HX1
            have hw1 := HUA.out
            by_cases hadj : x.m.h.ht = (x.m.at_ + 1) % 18446744073709551616
            · have hlk := linked_next HLK.out hadj
              rw [← hadj] at hw1
              have HT9 := Lib.hid (fun (Z : World) (hz : Kept W5.drew Z) => rd_asT (HT8.out Z hz) hlk.symm)
              clear hlk hadj HLK HT8 HLC
              go_wp2_with fail
              have hbd : Below wQ.drew.heap.size wQ.drew wQ.drew := Below.refl _ _
              have hkd := Kept.refl wQ.drew
              refine wp_region_held_drew (S := KepS wQ.drew) (by kernel_rfl) (KepS.refl _) (fun hS0 => ?_)
              refine wpAnyH_take (i := 0) (oi := _) (v := ?_) rfl (by kernel_rfl) (by kernel_rfl) (by kernel_rfl) (fun _ _ _ h => h) (Or.inl ⟨by rfl, ?_⟩) hS0 ?_
              rotate_left
              · intro W hSW
                try go_simp
                all_goals with_reducible rfl
              simp only [Act.put, List.setIfInBounds_toArray, List.set_cons_zero, List.set_cons_succ, List.getElem_toArray, List.getElem_cons_zero, List.getElem_cons_succ]
              refine wpAnyH_take (i := 1) (oi := _) (v := ?_) rfl (by kernel_rfl) (by kernel_rfl) (by kernel_rfl) (fun _ _ _ h => h) (Or.inl ⟨by rfl, ?_⟩) hS0 ?_
              rotate_left
              · intro W hSW
                try go_simp
                all_goals with_reducible rfl
              simp only [Act.put, List.setIfInBounds_toArray, List.set_cons_zero, List.set_cons_succ, List.getElem_toArray, List.getElem_cons_zero, List.getElem_cons_succ]
              refine wpAnyH_take (i := 2) (oi := _) (v := ?_) rfl (by kernel_rfl) (by kernel_rfl) (by kernel_rfl) (fun _ _ _ h => h) (Or.inl ⟨by rfl, ?_⟩) hS0 ?_
              rotate_left
              · intro W hSW
                obtain ⟨k1, k2, k3, k4, k5, k6, k7, k8⟩ := HC8.out W (BKD.out.transX (hkd.transX hSW))
                try go_simp
                all_goals with_reducible rfl
              simp only [Act.put, List.setIfInBounds_toArray, List.set_cons_zero, List.set_cons_succ, List.getElem_toArray, List.getElem_cons_zero, List.getElem_cons_succ]
              refine wpAnyH_take (i := 3) (oi := _) (v := ?_) rfl (by kernel_rfl) (by kernel_rfl) (by kernel_rfl) (fun _ _ _ h => h) (Or.inl ⟨by rfl, ?_⟩) hS0 ?_
              rotate_left
              · intro W hSW
                try go_simp
                all_goals with_reducible rfl
              simp only [Act.put, List.setIfInBounds_toArray, List.set_cons_zero, List.set_cons_succ, List.getElem_toArray, List.getElem_cons_zero, List.getElem_cons_succ]
              refine wpAnyH_take (i := 4) (oi := _) (v := ?_) rfl (by kernel_rfl) (by kernel_rfl) (by kernel_rfl) (fun _ _ _ h => h) (Or.inl ⟨by rfl, ?_⟩) hS0 ?_
              rotate_left
              · intro W hSW
                obtain ⟨k1, k2, k3, k4, k5, k6, k7, k8⟩ := HC8.out W (BKD.out.transX (hkd.transX hSW))
                try go_simp
                all_goals with_reducible rfl
              simp only [Act.put, List.setIfInBounds_toArray, List.set_cons_zero, List.set_cons_succ, List.getElem_toArray, List.getElem_cons_zero, List.getElem_cons_succ]
              refine wpAnyH_take (i := 5) (oi := _) (v := ?_) rfl (by kernel_rfl) (by kernel_rfl) (by kernel_rfl) (fun _ _ _ h => h) (Or.inl ⟨by rfl, ?_⟩) hS0 ?_
              rotate_left
              · intro W hSW
                try go_simp
                all_goals with_reducible rfl
              simp only [Act.put, List.setIfInBounds_toArray, List.set_cons_zero, List.set_cons_succ, List.getElem_toArray, List.getElem_cons_zero, List.getElem_cons_succ]
              refine wpAnyH_take (i := 6) (oi := _) (v := .bool true) rfl (by kernel_rfl) (by kernel_rfl) (by kernel_rfl) (fun _ _ _ h => h) (Or.inl ⟨by rfl, ?_⟩) hS0 ?_
              skip
              · intro W hSW
                try go_simp
                all_goals first | with_reducible rfl | (simp; done) | omega | (simp; omega) | trace_state
              simp only [Act.put, List.setIfInBounds_toArray, List.set_cons_zero, List.set_cons_succ, List.getElem_toArray, List.getElem_cons_zero, List.getElem_cons_succ]
              refine wpAnyH_take (i := 7) (oi := _) (v := .bool true) rfl (by kernel_rfl) (by kernel_rfl) (by kernel_rfl) (fun _ _ _ h => h) (Or.inl ⟨by rfl, ?_⟩) hS0 ?_
              skip
              · intro W hSW
                try go_simp
                all_goals first | with_reducible rfl | (simp; done) | omega | (simp; omega) | trace_state
              simp only [Act.put, List.setIfInBounds_toArray, List.set_cons_zero, List.set_cons_succ, List.getElem_toArray, List.getElem_cons_zero, List.getElem_cons_succ]
              refine wpAnyH_take (i := 8) (oi := _) (v := ?_) rfl (by kernel_rfl) (by kernel_rfl) (by kernel_rfl) (fun _ _ _ h => h) (Or.inl ⟨by rfl, ?_⟩) hS0 ?_
              rotate_left
              · intro W hSW
                try go_simp
                all_goals with_reducible rfl
              simp only [Act.put, List.setIfInBounds_toArray, List.set_cons_zero, List.set_cons_succ, List.getElem_toArray, List.getElem_cons_zero, List.getElem_cons_succ]
              refine wpAnyH_take (i := 9) (oi := _) (v := ?_) rfl (by kernel_rfl) (by kernel_rfl) (by kernel_rfl) (fun _ _ _ h => h) (Or.inl ⟨by rfl, ?_⟩) hS0 ?_
              rotate_left
              · intro W hSW
                try go_simp
                all_goals with_reducible rfl
              simp only [Act.put, List.setIfInBounds_toArray, List.set_cons_zero, List.set_cons_succ, List.getElem_toArray, List.getElem_cons_zero, List.getElem_cons_succ]
              refine wpAnyH_take (i := 10) (oi := _) (v := ?_) rfl (by kernel_rfl) (by kernel_rfl) (by kernel_rfl) (fun _ _ _ h => h) (Or.inl ⟨by rfl, ?_⟩) hS0 ?_
              rotate_left
              · intro W hSW
                obtain ⟨k1, k2, k3, k4, k5, k6, k7, k8⟩ := HC8.out W (BKD.out.transX (hkd.transX hSW))
                try go_simp
                all_goals with_reducible rfl
              simp only [Act.put, List.setIfInBounds_toArray, List.set_cons_zero, List.set_cons_succ, List.getElem_toArray, List.getElem_cons_zero, List.getElem_cons_succ]
              refine wpAnyH_take (i := 11) (oi := _) (v := ?_) rfl (by kernel_rfl) (by kernel_rfl) (by kernel_rfl) (fun _ _ _ h => h) (Or.inl ⟨by rfl, ?_⟩) hS0 ?_
              rotate_left
              · intro W hSW
                have cw := HCH.out W _ (HV8.out W (BKD.out.transX (hkd.transX hSW)))
                try go_simp
                all_goals with_reducible rfl
              simp only [Act.put, List.setIfInBounds_toArray, List.set_cons_zero, List.set_cons_succ, List.getElem_toArray, List.getElem_cons_zero, List.getElem_cons_succ]
              refine wpAnyH_take (i := 12) (oi := _) (v := ?_) rfl (by kernel_rfl) (by kernel_rfl) (by kernel_rfl) (fun _ _ _ h => h) (Or.inl ⟨by rfl, ?_⟩) hS0 ?_
              rotate_left
              · intro W hSW
                try go_simp
                all_goals with_reducible rfl
              simp only [Act.put, List.setIfInBounds_toArray, List.set_cons_zero, List.set_cons_succ, List.getElem_toArray, List.getElem_cons_zero, List.getElem_cons_succ]
              refine wpAnyH_take (i := 13) (oi := _) (v := ?_) rfl (by kernel_rfl) (by kernel_rfl) (by kernel_rfl) (fun _ _ _ h => h) (Or.inl ⟨by rfl, ?_⟩) hS0 ?_
              rotate_left
              · intro W hSW
                obtain r1 := HB8.out W (BKD.out.transX (hkd.transX hSW))
                try go_simp
                all_goals with_reducible rfl
              simp only [Act.put, List.setIfInBounds_toArray, List.set_cons_zero, List.set_cons_succ, List.getElem_toArray, List.getElem_cons_zero, List.getElem_cons_succ]
              refine wpAnyH_take (i := 14) (oi := _) (v := ?_) rfl (by kernel_rfl) (by kernel_rfl) (by kernel_rfl) (fun _ _ _ h => h) (Or.inl ⟨by rfl, ?_⟩) hS0 ?_
              rotate_left
              · intro W hSW
                have cw := HCH.out W _ (HT9.out W (BKD.out.transX (hkd.transX hSW)))
                try go_simp
                all_goals with_reducible rfl
              simp only [Act.put, List.setIfInBounds_toArray, List.set_cons_zero, List.set_cons_succ, List.getElem_toArray, List.getElem_cons_zero, List.getElem_cons_succ]
              refine wpAnyH_take (i := 15) (oi := _) (v := .bool false) rfl (by kernel_rfl) (by kernel_rfl) (by kernel_rfl) (fun _ _ _ h => h) (Or.inl ⟨by rfl, ?_⟩) hS0 ?_
              skip
              · intro W hSW
                try go_simp
                all_goals first | with_reducible rfl | (simp; done) | omega | (simp; omega) | trace_state
              simp only [Act.put, List.setIfInBounds_toArray, List.set_cons_zero, List.set_cons_succ, List.getElem_toArray, List.getElem_cons_zero, List.getElem_cons_succ]
              refine wpAnyH_take (i := 16) (oi := _) (v := .bool false) rfl (by kernel_rfl) (by kernel_rfl) (by kernel_rfl) (fun _ _ _ h => h) (Or.inl ⟨by rfl, ?_⟩) hS0 ?_
              skip
              · intro W hSW
                try go_simp
                all_goals first | with_reducible rfl | (simp; done) | omega | (simp; omega) | trace_state
              simp only [Act.put, List.setIfInBounds_toArray, List.set_cons_zero, List.set_cons_succ, List.getElem_toArray, List.getElem_cons_zero, List.getElem_cons_succ]
              refine wpAnyH_take (i := 17) (oi := _) (v := .bool false) rfl (by kernel_rfl) (by kernel_rfl) (by kernel_rfl) (fun _ _ _ h => h) (Or.inl ⟨by rfl, ?_⟩) hS0 ?_
              skip
              · intro W hSW
                try go_simp
                all_goals first | with_reducible rfl | (simp; done) | omega | (simp; omega) | trace_state
              simp only [Act.put, List.setIfInBounds_toArray, List.set_cons_zero, List.set_cons_succ, List.getElem_toArray, List.getElem_cons_zero, List.getElem_cons_succ]
              refine wpAnyH_take (i := 18) (oi := _) (v := ?_) rfl (by kernel_rfl) (by kernel_rfl) (by kernel_rfl) (fun _ _ _ h => h) (Or.inl ⟨by rfl, ?_⟩) hS0 ?_
              rotate_left
              · intro W hSW
                try go_simp
                all_goals with_reducible rfl
              simp only [Act.put, List.setIfInBounds_toArray, List.set_cons_zero, List.set_cons_succ, List.getElem_toArray, List.getElem_cons_zero, List.getElem_cons_succ]
              refine wpAnyH_take (i := 19) (oi := _) (v := ?_) rfl (by kernel_rfl) (by kernel_rfl) (by kernel_rfl) (fun _ _ _ h => h) (Or.inl ⟨by rfl, ?_⟩) hS0 ?_
              rotate_left
              · intro W hSW
                try go_simp
                all_goals with_reducible rfl
              simp only [Act.put, List.setIfInBounds_toArray, List.set_cons_zero, List.set_cons_succ, List.getElem_toArray, List.getElem_cons_zero, List.getElem_cons_succ]
              refine wpAnyH_take (i := 20) (oi := _) (v := ?_) rfl (by kernel_rfl) (by kernel_rfl) (by kernel_rfl) (fun _ _ _ h => h) (Or.inl ⟨by rfl, ?_⟩) hS0 ?_
              rotate_left
              · intro W hSW
                obtain ⟨k1, k2, k3, k4, k5, k6, k7, k8⟩ := HC8.out W (BKD.out.transX (hkd.transX hSW))
                try go_simp
                all_goals with_reducible rfl
              simp only [Act.put, List.setIfInBounds_toArray, List.set_cons_zero, List.set_cons_succ, List.getElem_toArray, List.getElem_cons_zero, List.getElem_cons_succ]
              refine wpAnyH_take (i := 21) (oi := _) (v := ?_) rfl (by kernel_rfl) (by kernel_rfl) (by kernel_rfl) (fun _ _ _ h => h) (Or.inl ⟨by rfl, ?_⟩) hS0 ?_
              rotate_left
              · intro W hSW
                try go_simp
                all_goals with_reducible rfl
              simp only [Act.put, List.setIfInBounds_toArray, List.set_cons_zero, List.set_cons_succ, List.getElem_toArray, List.getElem_cons_zero, List.getElem_cons_succ]
              refine wpAnyH_take (i := 22) (oi := _) (v := ?_) rfl (by kernel_rfl) (by kernel_rfl) (by kernel_rfl) (fun _ _ _ h => h) (Or.inl ⟨by rfl, ?_⟩) hS0 ?_
              rotate_left
              · intro W hSW
                obtain ⟨k1, k2, k3, k4, k5, k6, k7, k8⟩ := HC8.out W (BKD.out.transX (hkd.transX hSW))
                try go_simp
                all_goals with_reducible rfl
              simp only [Act.put, List.setIfInBounds_toArray, List.set_cons_zero, List.set_cons_succ, List.getElem_toArray, List.getElem_cons_zero, List.getElem_cons_succ]
              refine wpAnyH_take (i := 23) (oi := _) (v := ?_) rfl (by kernel_rfl) (by kernel_rfl) (by kernel_rfl) (fun _ _ _ h => h) (Or.inl ⟨by rfl, ?_⟩) hS0 ?_
              rotate_left
              · intro W hSW
                try go_simp
                all_goals with_reducible rfl
              simp only [Act.put, List.setIfInBounds_toArray, List.set_cons_zero, List.set_cons_succ, List.getElem_toArray, List.getElem_cons_zero, List.getElem_cons_succ]
              refine wpAnyH_take (i := 24) (oi := _) (v := .bool false) rfl (by kernel_rfl) (by kernel_rfl) (by kernel_rfl) (fun _ _ _ h => h) (Or.inl ⟨by rfl, ?_⟩) hS0 ?_
              skip
              · intro W hSW
                try go_simp
                all_goals first | with_reducible rfl | (simp; done) | omega | (simp; omega) | trace_state
              simp only [Act.put, List.setIfInBounds_toArray, List.set_cons_zero, List.set_cons_succ, List.getElem_toArray, List.getElem_cons_zero, List.getElem_cons_succ]
              refine wpAnyH_take (i := 25) (oi := _) (v := .bool false) rfl (by kernel_rfl) (by kernel_rfl) (by kernel_rfl) (fun _ _ _ h => h) (Or.inl ⟨by rfl, ?_⟩) hS0 ?_
              skip
              · intro W hSW
                try go_simp
                all_goals first | with_reducible rfl | (simp; done) | omega | (simp; omega) | trace_state
              simp only [Act.put, List.setIfInBounds_toArray, List.set_cons_zero, List.set_cons_succ, List.getElem_toArray, List.getElem_cons_zero, List.getElem_cons_succ]
              refine wpAnyH_take (i := 26) (oi := _) (v := undef) rfl (by kernel_rfl) (by kernel_rfl) (by kernel_rfl) (fun _ _ _ h => h) (Or.inr ⟨by rfl, rfl⟩) hS0 ?_
              simp only [Act.put, List.setIfInBounds_toArray, List.set_cons_zero, List.set_cons_succ, List.getElem_toArray, List.getElem_cons_zero, List.getElem_cons_succ]
              refine wpAnyH_take (i := 27) (oi := _) (v := undef) rfl (by kernel_rfl) (by kernel_rfl) (by kernel_rfl) (fun _ _ _ h => h) (Or.inr ⟨by rfl, rfl⟩) hS0 ?_
              simp only [Act.put, List.setIfInBounds_toArray, List.set_cons_zero, List.set_cons_succ, List.getElem_toArray, List.getElem_cons_zero, List.getElem_cons_succ]
              refine wpAnyH_take (i := 28) (oi := _) (v := undef) rfl (by kernel_rfl) (by kernel_rfl) (by kernel_rfl) (fun _ _ _ h => h) (Or.inr ⟨by rfl, rfl⟩) hS0 ?_
              simp only [Act.put, List.setIfInBounds_toArray, List.set_cons_zero, List.set_cons_succ, List.getElem_toArray, List.getElem_cons_zero, List.getElem_cons_succ]
              refine wpAnyH_take (i := 29) (oi := _) (v := undef) rfl (by kernel_rfl) (by kernel_rfl) (by kernel_rfl) (fun _ _ _ h => h) (Or.inr ⟨by rfl, rfl⟩) hS0 ?_
              simp only [Act.put, List.setIfInBounds_toArray, List.set_cons_zero, List.set_cons_succ, List.getElem_toArray, List.getElem_cons_zero, List.getElem_cons_succ]
              refine wpAnyH_take (i := 30) (oi := _) (v := undef) rfl (by kernel_rfl) (by kernel_rfl) (by kernel_rfl) (fun _ _ _ h => h) (Or.inr ⟨by rfl, rfl⟩) hS0 ?_
              simp only [Act.put, List.setIfInBounds_toArray, List.set_cons_zero, List.set_cons_succ, List.getElem_toArray, List.getElem_cons_zero, List.getElem_cons_succ]
              refine wpAnyH_take (i := 31) (oi := _) (v := undef) rfl (by kernel_rfl) (by kernel_rfl) (by kernel_rfl) (fun _ _ _ h => h) (Or.inr ⟨by rfl, rfl⟩) hS0 ?_
              simp only [Act.put, List.setIfInBounds_toArray, List.set_cons_zero, List.set_cons_succ, List.getElem_toArray, List.getElem_cons_zero, List.getElem_cons_succ]
              refine wpAnyH_take (i := 32) (oi := _) (v := undef) rfl (by kernel_rfl) (by kernel_rfl) (by kernel_rfl) (fun _ _ _ h => h) (Or.inr ⟨by rfl, rfl⟩) hS0 ?_
              simp only [Act.put, List.setIfInBounds_toArray, List.set_cons_zero, List.set_cons_succ, List.getElem_toArray, List.getElem_cons_zero, List.getElem_cons_succ]
              refine wpAnyH_take (i := 33) (oi := _) (v := undef) rfl (by kernel_rfl) (by kernel_rfl) (by kernel_rfl) (fun _ _ _ h => h) (Or.inr ⟨by rfl, rfl⟩) hS0 ?_
              simp only [Act.put, List.setIfInBounds_toArray, List.set_cons_zero, List.set_cons_succ, List.getElem_toArray, List.getElem_cons_zero, List.getElem_cons_succ]
              refine wpAnyH_take (i := 34) (oi := _) (v := undef) rfl (by kernel_rfl) (by kernel_rfl) (by kernel_rfl) (fun _ _ _ h => h) (Or.inr ⟨by rfl, rfl⟩) hS0 ?_
              simp only [Act.put, List.setIfInBounds_toArray, List.set_cons_zero, List.set_cons_succ, List.getElem_toArray, List.getElem_cons_zero, List.getElem_cons_succ]
              refine wpAnyH_take (i := 35) (oi := _) (v := undef) rfl (by kernel_rfl) (by kernel_rfl) (by kernel_rfl) (fun _ _ _ h => h) (Or.inr ⟨by rfl, rfl⟩) hS0 ?_
              simp only [Act.put, List.setIfInBounds_toArray, List.set_cons_zero, List.set_cons_succ, List.getElem_toArray, List.getElem_cons_zero, List.getElem_cons_succ]
              refine wpAnyH_take (i := 36) (oi := _) (v := undef) rfl (by kernel_rfl) (by kernel_rfl) (by kernel_rfl) (fun _ _ _ h => h) (Or.inr ⟨by rfl, rfl⟩) hS0 ?_
              simp only [Act.put, List.setIfInBounds_toArray, List.set_cons_zero, List.set_cons_succ, List.getElem_toArray, List.getElem_cons_zero, List.getElem_cons_succ]
              refine wpAnyH_take (i := 37) (oi := _) (v := undef) rfl (by kernel_rfl) (by kernel_rfl) (by kernel_rfl) (fun _ _ _ h => h) (Or.inr ⟨by rfl, rfl⟩) hS0 ?_
              simp only [Act.put, List.setIfInBounds_toArray, List.set_cons_zero, List.set_cons_succ, List.getElem_toArray, List.getElem_cons_zero, List.getElem_cons_succ]
              refine wpAnyH_take (i := 38) (oi := _) (v := undef) rfl (by kernel_rfl) (by kernel_rfl) (by kernel_rfl) (fun _ _ _ h => h) (Or.inr ⟨by rfl, rfl⟩) hS0 ?_
              simp only [Act.put, List.setIfInBounds_toArray, List.set_cons_zero, List.set_cons_succ, List.getElem_toArray, List.getElem_cons_zero, List.getElem_cons_succ]
              refine wpAnyH_take (i := 39) (oi := _) (v := undef) rfl (by kernel_rfl) (by kernel_rfl) (by kernel_rfl) (fun _ _ _ h => h) (Or.inr ⟨by rfl, rfl⟩) hS0 ?_
              simp only [Act.put, List.setIfInBounds_toArray, List.set_cons_zero, List.set_cons_succ, List.getElem_toArray, List.getElem_cons_zero, List.getElem_cons_succ]
              refine wpAnyH_take (i := 40) (oi := _) (v := undef) rfl (by kernel_rfl) (by kernel_rfl) (by kernel_rfl) (fun _ _ _ h => h) (Or.inr ⟨by rfl, rfl⟩) hS0 ?_
              simp only [Act.put, List.setIfInBounds_toArray, List.set_cons_zero, List.set_cons_succ, List.getElem_toArray, List.getElem_cons_zero, List.getElem_cons_succ]
              refine wpAnyH_take (i := 41) (oi := _) (v := undef) rfl (by kernel_rfl) (by kernel_rfl) (by kernel_rfl) (fun _ _ _ h => h) (Or.inr ⟨by rfl, rfl⟩) hS0 ?_
              simp only [Act.put, List.setIfInBounds_toArray, List.set_cons_zero, List.set_cons_succ, List.getElem_toArray, List.getElem_cons_zero, List.getElem_cons_succ]
              refine wpAnyH_take (i := 42) (oi := _) (v := .bool false) rfl (by kernel_rfl) (by kernel_rfl) (by kernel_rfl) (fun _ _ _ h => h) (Or.inl ⟨by rfl, ?_⟩) hS0 ?_
              skip
              · intro W hSW
                try go_simp
                all_goals first | with_reducible rfl | (simp; done) | omega | (simp; omega) | trace_state
              simp only [Act.put, List.setIfInBounds_toArray, List.set_cons_zero, List.set_cons_succ, List.getElem_toArray, List.getElem_cons_zero, List.getElem_cons_succ]
              refine wpAnyH_take (i := 43) (oi := _) (v := .bool false) rfl (by kernel_rfl) (by kernel_rfl) (by kernel_rfl) (fun _ _ _ h => h) (Or.inl ⟨by rfl, ?_⟩) hS0 ?_
              skip
              · intro W hSW
                try go_simp
                all_goals first | with_reducible rfl | (simp; done) | omega | (simp; omega) | trace_state
              simp only [Act.put, List.setIfInBounds_toArray, List.set_cons_zero, List.set_cons_succ, List.getElem_toArray, List.getElem_cons_zero, List.getElem_cons_succ]
              refine wpAnyH_done (by kernel_rfl) ?_ _
              have hfin := HLX.out _ (HDW.out.1.trans (Below.mono (BQD.out) HDW.out.1.size))
              clear HLX HLS HBN HCH HV8 HT9 HC8 HB8 HMK HTK HPV HUA HLN HVH HQU BQD BKD HDW hbd hkd hS0 hw1 q9
              go_wp2_with fail
              exact ⟨⟨j + 1, by omega, by simp, hfin⟩, by simp [intOf]; omega⟩
            · obtain ⟨hv3, ht3⟩ := linked_far HLK.out hadj
              have z1 : ((x.m.h.ht : Int) == (((x.m.at_ + 1) % 18446744073709551616 : Nat) : Int)) = false := by simp only [beq_eq_false_iff_ne]; omega
              have z2 : ((x.m.h.ht : Int) != (((x.m.at_ + 1) % 18446744073709551616 : Nat) : Int)) = true := by simp only [bne_iff_ne]; omega
              have HH3 : Hid (∀ Z, Below W5.drew.heap.size W5.drew Z → Calls Tryz.prog 18 #[.slice Ax x.m.s3.length cx] Z fun e w' => ∃ v', e = .returned v' ∧ Own w' Z.heap.size v' T.nx ∧ Below Z.heap.size Z w') := Lib.hid (fun Z hz => by
              have hkz := HDW.out.2.transX (Kept.of_belowX hz)
              have h := hashV_any x.m.vs3 x.m.s3 Z (HMK.out Z hkz).r_s3 HLN.out.2 fr (HTK.out Z hkz)
              rw [HPV.out.2.2.1] at h
              rw [← hv3]
              exact h)
              have HT3 : Hid (∀ Z, Below W5.drew.heap.size W5.drew Z → Calls Tryz.prog 20 #[.slice Ax x.m.s3.length cx, .slice Ao x.m.t1.length co] Z fun e w' => e = .returned (.bool true) ∧ Below Z.heap.size Z w') := Lib.hid (fun Z hz => by
              have hkz := HDW.out.2.transX (Kept.of_belowX hz)
              have h := third_any x.m.vs3 x.m.vt1 x.m.s3 x.m.t1 Z (HMK.out Z hkz).r_s3 (HMK.out Z hkz).r_t1
              rw [HPV.out.2.2.1, HPV.out.2.2.2, ht3] at h
              exact h)
              obtain ⟨SX, hsx⟩ := HLC.out T.nx
              have HCX := Lib.hid hsx
              generalize (x.m.at_ + 1) % 18446744073709551616 = uu at *
              clear hsx hv3 ht3 hadj HLK HLC HCH
              go_wp2_with fail
              have hbd : Below wQ.drew.heap.size wQ.drew wQ.drew := Below.refl _ _
              have hkd := Kept.refl wQ.drew
              refine wp_region_held_drew (S := KepS wQ.drew) (by kernel_rfl) (KepS.refl _) (fun hS0 => ?_)
              refine wpAnyH_take (i := 0) (oi := _) (v := ?_) rfl (by kernel_rfl) (by kernel_rfl) (by kernel_rfl) (fun _ _ _ h => h) (Or.inl ⟨by rfl, ?_⟩) hS0 ?_
              rotate_left
              · intro W hSW
                try go_simp
                all_goals with_reducible rfl
              simp only [Act.put, List.setIfInBounds_toArray, List.set_cons_zero, List.set_cons_succ, List.getElem_toArray, List.getElem_cons_zero, List.getElem_cons_succ]
              refine wpAnyH_take (i := 1) (oi := _) (v := ?_) rfl (by kernel_rfl) (by kernel_rfl) (by kernel_rfl) (fun _ _ _ h => h) (Or.inl ⟨by rfl, ?_⟩) hS0 ?_
              rotate_left
              · intro W hSW
                try go_simp
                all_goals with_reducible rfl
              simp only [Act.put, List.setIfInBounds_toArray, List.set_cons_zero, List.set_cons_succ, List.getElem_toArray, List.getElem_cons_zero, List.getElem_cons_succ]
              refine wpAnyH_take (i := 2) (oi := _) (v := ?_) rfl (by kernel_rfl) (by kernel_rfl) (by kernel_rfl) (fun _ _ _ h => h) (Or.inl ⟨by rfl, ?_⟩) hS0 ?_
              rotate_left
              · intro W hSW
                obtain ⟨k1, k2, k3, k4, k5, k6, k7, k8⟩ := HC8.out W (BKD.out.transX (hkd.transX hSW))
                try go_simp
                all_goals with_reducible rfl
              simp only [Act.put, List.setIfInBounds_toArray, List.set_cons_zero, List.set_cons_succ, List.getElem_toArray, List.getElem_cons_zero, List.getElem_cons_succ]
              refine wpAnyH_take (i := 3) (oi := _) (v := ?_) rfl (by kernel_rfl) (by kernel_rfl) (by kernel_rfl) (fun _ _ _ h => h) (Or.inl ⟨by rfl, ?_⟩) hS0 ?_
              rotate_left
              · intro W hSW
                try go_simp
                all_goals with_reducible rfl
              simp only [Act.put, List.setIfInBounds_toArray, List.set_cons_zero, List.set_cons_succ, List.getElem_toArray, List.getElem_cons_zero, List.getElem_cons_succ]
              refine wpAnyH_take (i := 4) (oi := _) (v := ?_) rfl (by kernel_rfl) (by kernel_rfl) (by kernel_rfl) (fun _ _ _ h => h) (Or.inl ⟨by rfl, ?_⟩) hS0 ?_
              rotate_left
              · intro W hSW
                obtain ⟨k1, k2, k3, k4, k5, k6, k7, k8⟩ := HC8.out W (BKD.out.transX (hkd.transX hSW))
                try go_simp
                all_goals with_reducible rfl
              simp only [Act.put, List.setIfInBounds_toArray, List.set_cons_zero, List.set_cons_succ, List.getElem_toArray, List.getElem_cons_zero, List.getElem_cons_succ]
              refine wpAnyH_take (i := 5) (oi := _) (v := ?_) rfl (by kernel_rfl) (by kernel_rfl) (by kernel_rfl) (fun _ _ _ h => h) (Or.inl ⟨by rfl, ?_⟩) hS0 ?_
              rotate_left
              · intro W hSW
                try go_simp
                all_goals with_reducible rfl
              simp only [Act.put, List.setIfInBounds_toArray, List.set_cons_zero, List.set_cons_succ, List.getElem_toArray, List.getElem_cons_zero, List.getElem_cons_succ]
              refine wpAnyH_take (i := 6) (oi := _) (v := .bool false) rfl (by kernel_rfl) (by kernel_rfl) (by kernel_rfl) (fun _ _ _ h => h) (Or.inl ⟨by rfl, ?_⟩) hS0 ?_
              skip
              · intro W hSW
                try go_simp
                all_goals first | with_reducible rfl | (simp; done) | omega | (simp; omega) | trace_state
              simp only [Act.put, List.setIfInBounds_toArray, List.set_cons_zero, List.set_cons_succ, List.getElem_toArray, List.getElem_cons_zero, List.getElem_cons_succ]
              refine wpAnyH_take (i := 7) (oi := _) (v := .bool false) rfl (by kernel_rfl) (by kernel_rfl) (by kernel_rfl) (fun _ _ _ h => h) (Or.inl ⟨by rfl, ?_⟩) hS0 ?_
              skip
              · intro W hSW
                try go_simp
                all_goals first | with_reducible rfl | (simp; done) | omega | (simp; omega) | trace_state
              simp only [Act.put, List.setIfInBounds_toArray, List.set_cons_zero, List.set_cons_succ, List.getElem_toArray, List.getElem_cons_zero, List.getElem_cons_succ]
              refine wpAnyH_take (i := 8) (oi := _) (v := undef) rfl (by kernel_rfl) (by kernel_rfl) (by kernel_rfl) (fun _ _ _ h => h) (Or.inr ⟨by rfl, rfl⟩) hS0 ?_
              simp only [Act.put, List.setIfInBounds_toArray, List.set_cons_zero, List.set_cons_succ, List.getElem_toArray, List.getElem_cons_zero, List.getElem_cons_succ]
              refine wpAnyH_take (i := 9) (oi := _) (v := undef) rfl (by kernel_rfl) (by kernel_rfl) (by kernel_rfl) (fun _ _ _ h => h) (Or.inr ⟨by rfl, rfl⟩) hS0 ?_
              simp only [Act.put, List.setIfInBounds_toArray, List.set_cons_zero, List.set_cons_succ, List.getElem_toArray, List.getElem_cons_zero, List.getElem_cons_succ]
              refine wpAnyH_take (i := 10) (oi := _) (v := undef) rfl (by kernel_rfl) (by kernel_rfl) (by kernel_rfl) (fun _ _ _ h => h) (Or.inr ⟨by rfl, rfl⟩) hS0 ?_
              simp only [Act.put, List.setIfInBounds_toArray, List.set_cons_zero, List.set_cons_succ, List.getElem_toArray, List.getElem_cons_zero, List.getElem_cons_succ]
              refine wpAnyH_take (i := 11) (oi := _) (v := undef) rfl (by kernel_rfl) (by kernel_rfl) (by kernel_rfl) (fun _ _ _ h => h) (Or.inr ⟨by rfl, rfl⟩) hS0 ?_
              simp only [Act.put, List.setIfInBounds_toArray, List.set_cons_zero, List.set_cons_succ, List.getElem_toArray, List.getElem_cons_zero, List.getElem_cons_succ]
              refine wpAnyH_take (i := 12) (oi := _) (v := undef) rfl (by kernel_rfl) (by kernel_rfl) (by kernel_rfl) (fun _ _ _ h => h) (Or.inr ⟨by rfl, rfl⟩) hS0 ?_
              simp only [Act.put, List.setIfInBounds_toArray, List.set_cons_zero, List.set_cons_succ, List.getElem_toArray, List.getElem_cons_zero, List.getElem_cons_succ]
              refine wpAnyH_take (i := 13) (oi := _) (v := undef) rfl (by kernel_rfl) (by kernel_rfl) (by kernel_rfl) (fun _ _ _ h => h) (Or.inr ⟨by rfl, rfl⟩) hS0 ?_
              simp only [Act.put, List.setIfInBounds_toArray, List.set_cons_zero, List.set_cons_succ, List.getElem_toArray, List.getElem_cons_zero, List.getElem_cons_succ]
              refine wpAnyH_take (i := 14) (oi := _) (v := undef) rfl (by kernel_rfl) (by kernel_rfl) (by kernel_rfl) (fun _ _ _ h => h) (Or.inr ⟨by rfl, rfl⟩) hS0 ?_
              simp only [Act.put, List.setIfInBounds_toArray, List.set_cons_zero, List.set_cons_succ, List.getElem_toArray, List.getElem_cons_zero, List.getElem_cons_succ]
              refine wpAnyH_take (i := 15) (oi := _) (v := undef) rfl (by kernel_rfl) (by kernel_rfl) (by kernel_rfl) (fun _ _ _ h => h) (Or.inr ⟨by rfl, rfl⟩) hS0 ?_
              simp only [Act.put, List.setIfInBounds_toArray, List.set_cons_zero, List.set_cons_succ, List.getElem_toArray, List.getElem_cons_zero, List.getElem_cons_succ]
              refine wpAnyH_take (i := 16) (oi := _) (v := .bool false) rfl (by kernel_rfl) (by kernel_rfl) (by kernel_rfl) (fun _ _ _ h => h) (Or.inl ⟨by rfl, ?_⟩) hS0 ?_
              skip
              · intro W hSW
                try go_simp
                all_goals first | with_reducible rfl | (simp; done) | omega | (simp; omega) | trace_state
              simp only [Act.put, List.setIfInBounds_toArray, List.set_cons_zero, List.set_cons_succ, List.getElem_toArray, List.getElem_cons_zero, List.getElem_cons_succ]
              refine wpAnyH_take (i := 17) (oi := _) (v := .bool false) rfl (by kernel_rfl) (by kernel_rfl) (by kernel_rfl) (fun _ _ _ h => h) (Or.inl ⟨by rfl, ?_⟩) hS0 ?_
              skip
              · intro W hSW
                try go_simp
                all_goals first | with_reducible rfl | (simp; done) | omega | (simp; omega) | trace_state
              simp only [Act.put, List.setIfInBounds_toArray, List.set_cons_zero, List.set_cons_succ, List.getElem_toArray, List.getElem_cons_zero, List.getElem_cons_succ]
              refine wpAnyH_take (i := 18) (oi := _) (v := ?_) rfl (by kernel_rfl) (by kernel_rfl) (by kernel_rfl) (fun _ _ _ h => h) (Or.inl ⟨by rfl, ?_⟩) hS0 ?_
              rotate_left
              · intro W hSW
                try go_simp
                all_goals with_reducible rfl
              simp only [Act.put, List.setIfInBounds_toArray, List.set_cons_zero, List.set_cons_succ, List.getElem_toArray, List.getElem_cons_zero, List.getElem_cons_succ]
              refine wpAnyH_take (i := 19) (oi := _) (v := ?_) rfl (by kernel_rfl) (by kernel_rfl) (by kernel_rfl) (fun _ _ _ h => h) (Or.inl ⟨by rfl, ?_⟩) hS0 ?_
              rotate_left
              · intro W hSW
                try go_simp
                all_goals with_reducible rfl
              simp only [Act.put, List.setIfInBounds_toArray, List.set_cons_zero, List.set_cons_succ, List.getElem_toArray, List.getElem_cons_zero, List.getElem_cons_succ]
              refine wpAnyH_take (i := 20) (oi := _) (v := ?_) rfl (by kernel_rfl) (by kernel_rfl) (by kernel_rfl) (fun _ _ _ h => h) (Or.inl ⟨by rfl, ?_⟩) hS0 ?_
              rotate_left
              · intro W hSW
                obtain ⟨k1, k2, k3, k4, k5, k6, k7, k8⟩ := HC8.out W (BKD.out.transX (hkd.transX hSW))
                try go_simp
                all_goals with_reducible rfl
              simp only [Act.put, List.setIfInBounds_toArray, List.set_cons_zero, List.set_cons_succ, List.getElem_toArray, List.getElem_cons_zero, List.getElem_cons_succ]
              refine wpAnyH_take (i := 21) (oi := _) (v := ?_) rfl (by kernel_rfl) (by kernel_rfl) (by kernel_rfl) (fun _ _ _ h => h) (Or.inl ⟨by rfl, ?_⟩) hS0 ?_
              rotate_left
              · intro W hSW
                try go_simp
                all_goals with_reducible rfl
              simp only [Act.put, List.setIfInBounds_toArray, List.set_cons_zero, List.set_cons_succ, List.getElem_toArray, List.getElem_cons_zero, List.getElem_cons_succ]
              refine wpAnyH_take (i := 22) (oi := _) (v := ?_) rfl (by kernel_rfl) (by kernel_rfl) (by kernel_rfl) (fun _ _ _ h => h) (Or.inl ⟨by rfl, ?_⟩) hS0 ?_
              rotate_left
              · intro W hSW
                obtain ⟨k1, k2, k3, k4, k5, k6, k7, k8⟩ := HC8.out W (BKD.out.transX (hkd.transX hSW))
                try go_simp
                all_goals with_reducible rfl
              simp only [Act.put, List.setIfInBounds_toArray, List.set_cons_zero, List.set_cons_succ, List.getElem_toArray, List.getElem_cons_zero, List.getElem_cons_succ]
              refine wpAnyH_take (i := 23) (oi := _) (v := ?_) rfl (by kernel_rfl) (by kernel_rfl) (by kernel_rfl) (fun _ _ _ h => h) (Or.inl ⟨by rfl, ?_⟩) hS0 ?_
              rotate_left
              · intro W hSW
                try go_simp
                all_goals with_reducible rfl
              simp only [Act.put, List.setIfInBounds_toArray, List.set_cons_zero, List.set_cons_succ, List.getElem_toArray, List.getElem_cons_zero, List.getElem_cons_succ]
              refine wpAnyH_take (i := 24) (oi := _) (v := .bool true) rfl (by kernel_rfl) (by kernel_rfl) (by kernel_rfl) (fun _ _ _ h => h) (Or.inl ⟨by rfl, ?_⟩) hS0 ?_
              skip
              · intro W hSW
                try go_simp
                all_goals first | with_reducible rfl | (simp; done) | omega | (simp; omega) | trace_state
              simp only [Act.put, List.setIfInBounds_toArray, List.set_cons_zero, List.set_cons_succ, List.getElem_toArray, List.getElem_cons_zero, List.getElem_cons_succ]
              refine wpAnyH_take (i := 25) (oi := _) (v := .bool true) rfl (by kernel_rfl) (by kernel_rfl) (by kernel_rfl) (fun _ _ _ h => h) (Or.inl ⟨by rfl, ?_⟩) hS0 ?_
              skip
              · intro W hSW
                try go_simp
                all_goals first | with_reducible rfl | (simp; done) | omega | (simp; omega) | trace_state
              simp only [Act.put, List.setIfInBounds_toArray, List.set_cons_zero, List.set_cons_succ, List.getElem_toArray, List.getElem_cons_zero, List.getElem_cons_succ]
              refine wpAnyH_take (i := 26) (oi := _) (v := ?_) rfl (by kernel_rfl) (by kernel_rfl) (by kernel_rfl) (fun _ _ _ h => h) (Or.inl ⟨by rfl, ?_⟩) hS0 ?_
              rotate_left
              · intro W hSW
                try go_simp
                all_goals with_reducible rfl
              simp only [Act.put, List.setIfInBounds_toArray, List.set_cons_zero, List.set_cons_succ, List.getElem_toArray, List.getElem_cons_zero, List.getElem_cons_succ]
              refine wpAnyH_take (i := 27) (oi := _) (v := ?_) rfl (by kernel_rfl) (by kernel_rfl) (by kernel_rfl) (fun _ _ _ h => h) (Or.inl ⟨by rfl, ?_⟩) hS0 ?_
              rotate_left
              · intro W hSW
                obtain ⟨k1, k2, k3, k4, k5, k6, k7, k8⟩ := HC8.out W (BKD.out.transX (hkd.transX hSW))
                try go_simp
                all_goals with_reducible rfl
              simp only [Act.put, List.setIfInBounds_toArray, List.set_cons_zero, List.set_cons_succ, List.getElem_toArray, List.getElem_cons_zero, List.getElem_cons_succ]
              refine wpAnyH_take (i := 30) (oi := _) (v := ?_) rfl (by kernel_rfl) (by kernel_rfl) (by kernel_rfl) (fun _ _ _ h => h) (Or.inl ⟨by rfl, ?_⟩) hS0 ?_
              rotate_left
              · intro W hSW
                try go_simp
                all_goals with_reducible rfl
              simp only [Act.put, List.setIfInBounds_toArray, List.set_cons_zero, List.set_cons_succ, List.getElem_toArray, List.getElem_cons_zero, List.getElem_cons_succ]
              refine wpAnyH_take (i := 31) (oi := _) (v := ?_) rfl (by kernel_rfl) (by kernel_rfl) (by kernel_rfl) (fun _ _ _ h => h) (Or.inl ⟨by rfl, ?_⟩) hS0 ?_
              rotate_left
              · intro W hSW
                obtain r1 := HB8.out W (BKD.out.transX (hkd.transX hSW))
                try go_simp
                all_goals with_reducible rfl
              simp only [Act.put, List.setIfInBounds_toArray, List.set_cons_zero, List.set_cons_succ, List.getElem_toArray, List.getElem_cons_zero, List.getElem_cons_succ]
              refine wpAnyH_take (i := 32) (oi := _) (v := ?_) rfl (by kernel_rfl) (by kernel_rfl) (by kernel_rfl) (fun _ _ _ h => h) (Or.inl ⟨by rfl, ?_⟩) hS0 ?_
              rotate_left
              · intro W hSW
                have cw := HCX.out W _ (HT8.out W (BKD.out.transX (hkd.transX hSW)))
                try go_simp
                all_goals with_reducible rfl
              simp only [Act.put, List.setIfInBounds_toArray, List.set_cons_zero, List.set_cons_succ, List.getElem_toArray, List.getElem_cons_zero, List.getElem_cons_succ]
              refine wpAnyH_ready (rs := [28]) (by kernel_rfl) (by simp) (AllReadyH.cons rfl (fun K hK => ?_) AllReadyH.nil)
              have DG := Lib.hid (HH3.out wQ.drew (BQD.out.trans (Below.mono hbd BQD.out.size)))
              go_simp
              go_wp2_with ((go_at_call 18; (with_reducible refine DG.out.mono ?_); rintro e wG ⟨vG, rfl, hoG, hbG⟩))
              have hqG := below_chain hbd hbd.size hbG
              have hkG := Kept.of_belowX hbG
              have hzG := hkd.transX hkG
              refine hK.out _ _ hkG (fun _ => ?_)
              clear hK K DG
              refine wpAnyH_stronger (S' := KepS wG) (fun W h => hkG.transX h) _ _ _ _ ?_
              have hSG : KepS wG wG := KepS.refl wG
              refine wpAnyH_take (i := 29) (oi := _) (v := ?_) rfl (by kernel_rfl) (by kernel_rfl) (by kernel_rfl) (fun _ _ _ h => h) (Or.inl ⟨by rfl, ?_⟩) hSG ?_
              rotate_left
              · intro W hSW
                have cw := HCX.out W _ (hSW.rd hoG.rd)
                try go_simp
                all_goals with_reducible rfl
              simp only [Act.put, List.setIfInBounds_toArray, List.set_cons_zero, List.set_cons_succ, List.getElem_toArray, List.getElem_cons_zero, List.getElem_cons_succ]
              refine wpAnyH_take (i := 33) (oi := _) (v := .bool false) rfl (by kernel_rfl) (by kernel_rfl) (by kernel_rfl) (fun _ _ _ h => h) (Or.inl ⟨by rfl, ?_⟩) hSG ?_
              skip
              · intro W hSW
                try go_simp
                all_goals first | with_reducible rfl | (simp; done) | omega | (simp; omega) | trace_state
              simp only [Act.put, List.setIfInBounds_toArray, List.set_cons_zero, List.set_cons_succ, List.getElem_toArray, List.getElem_cons_zero, List.getElem_cons_succ]
              refine wpAnyH_take (i := 34) (oi := _) (v := .bool false) rfl (by kernel_rfl) (by kernel_rfl) (by kernel_rfl) (fun _ _ _ h => h) (Or.inl ⟨by rfl, ?_⟩) hSG ?_
              skip
              · intro W hSW
                try go_simp
                all_goals first | with_reducible rfl | (simp; done) | omega | (simp; omega) | trace_state
              simp only [Act.put, List.setIfInBounds_toArray, List.set_cons_zero, List.set_cons_succ, List.getElem_toArray, List.getElem_cons_zero, List.getElem_cons_succ]
              refine wpAnyH_take (i := 35) (oi := _) (v := ?_) rfl (by kernel_rfl) (by kernel_rfl) (by kernel_rfl) (fun _ _ _ h => h) (Or.inl ⟨by rfl, ?_⟩) hSG ?_
              rotate_left
              · intro W hSW
                try go_simp
                all_goals with_reducible rfl
              simp only [Act.put, List.setIfInBounds_toArray, List.set_cons_zero, List.set_cons_succ, List.getElem_toArray, List.getElem_cons_zero, List.getElem_cons_succ]
              refine wpAnyH_take (i := 36) (oi := _) (v := ?_) rfl (by kernel_rfl) (by kernel_rfl) (by kernel_rfl) (fun _ _ _ h => h) (Or.inl ⟨by rfl, ?_⟩) hSG ?_
              rotate_left
              · intro W hSW
                obtain ⟨k1, k2, k3, k4, k5, k6, k7, k8⟩ := HC8.out W (BKD.out.transX (hzG.transX hSW))
                try go_simp
                all_goals with_reducible rfl
              simp only [Act.put, List.setIfInBounds_toArray, List.set_cons_zero, List.set_cons_succ, List.getElem_toArray, List.getElem_cons_zero, List.getElem_cons_succ]
              refine wpAnyH_take (i := 37) (oi := _) (v := ?_) rfl (by kernel_rfl) (by kernel_rfl) (by kernel_rfl) (fun _ _ _ h => h) (Or.inl ⟨by rfl, ?_⟩) hSG ?_
              rotate_left
              · intro W hSW
                try go_simp
                all_goals with_reducible rfl
              simp only [Act.put, List.setIfInBounds_toArray, List.set_cons_zero, List.set_cons_succ, List.getElem_toArray, List.getElem_cons_zero, List.getElem_cons_succ]
              refine wpAnyH_take (i := 38) (oi := _) (v := ?_) rfl (by kernel_rfl) (by kernel_rfl) (by kernel_rfl) (fun _ _ _ h => h) (Or.inl ⟨by rfl, ?_⟩) hSG ?_
              rotate_left
              · intro W hSW
                obtain ⟨k1, k2, k3, k4, k5, k6, k7, k8⟩ := HC8.out W (BKD.out.transX (hzG.transX hSW))
                try go_simp
                all_goals with_reducible rfl
              simp only [Act.put, List.setIfInBounds_toArray, List.set_cons_zero, List.set_cons_succ, List.getElem_toArray, List.getElem_cons_zero, List.getElem_cons_succ]
              refine wpAnyH_ready (rs := [39]) (by kernel_rfl) (by simp) (AllReadyH.cons rfl (fun K hK => ?_) AllReadyH.nil)
              have DD := Lib.hid (HT3.out wG (BQD.out.trans (Below.mono hqG BQD.out.size)))
              go_simp
              go_wp2_with ((go_at_call 20; (with_reducible refine DD.out.mono ?_); rintro e wD ⟨rfl, hbD⟩))
              have hqD := below_chain hqG hqG.size hbD
              have hkD := Kept.of_belowX hbD
              have hzD := hzG.transX hkD
              refine hK.out _ _ hkD (fun _ => ?_)
              clear hK K DD
              refine wpAnyH_stronger (S' := KepS wD) (fun W h => hkD.transX h) _ _ _ _ ?_
              have hSD : KepS wD wD := KepS.refl wD
              refine wpAnyH_take (i := 40) (oi := _) (v := .bool false) rfl (by kernel_rfl) (by kernel_rfl) (by kernel_rfl) (fun _ _ _ h => h) (Or.inl ⟨by rfl, ?_⟩) hSD ?_
              skip
              · intro W hSW
                try go_simp
                all_goals first | with_reducible rfl | (simp; done) | omega | (simp; omega) | trace_state
              simp only [Act.put, List.setIfInBounds_toArray, List.set_cons_zero, List.set_cons_succ, List.getElem_toArray, List.getElem_cons_zero, List.getElem_cons_succ]
              refine wpAnyH_take (i := 41) (oi := _) (v := .bool false) rfl (by kernel_rfl) (by kernel_rfl) (by kernel_rfl) (fun _ _ _ h => h) (Or.inl ⟨by rfl, ?_⟩) hSD ?_
              skip
              · intro W hSW
                try go_simp
                all_goals first | with_reducible rfl | (simp; done) | omega | (simp; omega) | trace_state
              simp only [Act.put, List.setIfInBounds_toArray, List.set_cons_zero, List.set_cons_succ, List.getElem_toArray, List.getElem_cons_zero, List.getElem_cons_succ]
              refine wpAnyH_take (i := 42) (oi := _) (v := .bool false) rfl (by kernel_rfl) (by kernel_rfl) (by kernel_rfl) (fun _ _ _ h => h) (Or.inl ⟨by rfl, ?_⟩) hSD ?_
              skip
              · intro W hSW
                try go_simp
                all_goals first | with_reducible rfl | (simp; done) | omega | (simp; omega) | trace_state
              simp only [Act.put, List.setIfInBounds_toArray, List.set_cons_zero, List.set_cons_succ, List.getElem_toArray, List.getElem_cons_zero, List.getElem_cons_succ]
              refine wpAnyH_take (i := 43) (oi := _) (v := .bool false) rfl (by kernel_rfl) (by kernel_rfl) (by kernel_rfl) (fun _ _ _ h => h) (Or.inl ⟨by rfl, ?_⟩) hSD ?_
              skip
              · intro W hSW
                try go_simp
                all_goals first | with_reducible rfl | (simp; done) | omega | (simp; omega) | trace_state
              simp only [Act.put, List.setIfInBounds_toArray, List.set_cons_zero, List.set_cons_succ, List.getElem_toArray, List.getElem_cons_zero, List.getElem_cons_succ]
              refine wpAnyH_done (by kernel_rfl) ?_ _
              have hfin := HLX.out _ (HDW.out.1.trans (Below.mono (BQD.out.trans (Below.mono hqD BQD.out.size)) HDW.out.1.size))
              clear HLX HLS HBN HCX HV8 HT8 HC8 HB8 HMK HTK HPV HUA HLN HVH HQU BQD BKD HDW hbd hkd hS0 hw1 q9 z1 z2 HH3 HT3 hbG hqG hkG hzG hoG hSG hbD hqD hkD hzD hSD
              go_wp2_with fail
              exact ⟨⟨j + 1, by omega, by simp, hfin⟩, by simp [intOf]; omega⟩
          · have zE : (E != 0) = true := by simpa using hE
            have hbn := HF3.out.1 hE
            subst hbn
            have hfin := HLS.out _ HBN.out
            clear HF3 HF4 HLX HLS HBN HCB HRX HMK HTK HCK HPV HFQ HR1 HUA HLC hE
            go_wp2_with fail
            exact ⟨⟨j + 1, by omega, by simp, hfin⟩, by simp [intOf]; omega⟩
        | true =>
          obtain ⟨rfl, rfl⟩ := HF4.out rfl
          obtain ⟨S1, hS1⟩ := HLC.out N.rt
          obtain ⟨S2, hS2⟩ := HLC.out N.nx
          have cv1 := hS1 _ _ HR1.out.1
          have cv2 := hS2 _ _ HR1.out.2
          have cv3 := hS1 _ _ (HRX.out _ (Kept.refl _)).2.1
          have cv4 := hS2 _ _ (HRX.out _ (Kept.refl _)).2.2
          have hs1 : (S1.toList != S1.toList) = false := by simp
          have hs2 : (S2.toList != S2.toList) = false := by simp
          clear hS1 hS2
          by_cases hE : E = 0
          · subst hE
            obtain ⟨hbt, hbn, hvh, hqu, hlt9, hlk⟩ := HF3.out.2 rfl
            subst hbt
            have q9 : ¬ ((x.m.h.ht : Int) ≤ (x.m.at_ : Int)) := by omega
            have HLK := Lib.hid hlk
            have HVH := Lib.hid hvh
            have HQU := Lib.hid hqu
            have HLN : Hid (x.m.s1.length ≤ 1048576 ∧ x.m.s3.length ≤ 1048576) := Lib.hid ⟨HFQ.out.m.l _ (by simp [MsgV.lens]), HFQ.out.m.l _ (by simp [MsgV.lens])⟩
            clear hlk hvh hqu hlt9 HF3 HF4 HFQ
            go_wp2_with fail
            clear r1 r2 r3 r4 r5 r6 r7 k1 k2 k3 k4 k5 k6 k7 k8 cv1 cv2 cv3 cv4 hs1 hs2
            generalize w5.alloc (.cells #[.int .u64 (N.tm : Int), .slice AN1 N.rt.length cN1, .slice AN2 N.nx.length cN2] 59) = W5 at *
            generalize w5.heap.size = gN at *
            have hdw : Below W5.heap.size W5 W5.drew := (Below.refl _ _).drew
            have hkw := Kept.of_belowX hdw
            have HDW := Lib.hid (And.intro hdw hkw)
            have HC8 := Lib.hid (fun (Z : World) (hz : Kept W5.drew Z) => HCK.out Z (hkw.transX hz))
            have HB8 := Lib.hid (fun (Z : World) (hz : Kept W5.drew Z) => (HCB.out Z (hkw.transX hz)).1)
            have HT8 := Lib.hid (fun (Z : World) (hz : Kept W5.drew Z) => (HRX.out Z (hkw.transX hz)).1)
            have HV8 : Hid (∀ Z, Kept W5.drew Z → Rd Z Z.heap.size (.slice Av x.m.h.va.length cv) x.m.h.va) := Lib.hid (fun Z hz => by rw [← HPV.out.1]; exact (HMK.out Z (hkw.transX hz)).r_h.v)
            have HH1 : Hid (∀ Z, Below W5.drew.heap.size W5.drew Z → Calls Tryz.prog 18 #[.slice As x.m.s1.length cs] Z fun e w' => ∃ v', e = .returned v' ∧ Own w' Z.heap.size v' x.m.h.va ∧ Below Z.heap.size Z w') := Lib.hid (fun Z hz => by
            have hkz := hkw.transX (Kept.of_belowX hz)
            have h := hashV_any x.m.vs1 x.m.s1 Z (HMK.out Z hkz).r_s1 HLN.out.1 fr (HTK.out Z hkz)
            rw [HPV.out.2.1] at h
            rw [← HVH.out]
            exact h)
            have HX1 : Hid (∀ Z, Below W5.drew.heap.size W5.drew Z → Calls Tryz.prog 19 #[.slice As x.m.s1.length cs, .slice Ao x.m.t1.length co] Z fun e w' => e = .returned (.bool true) ∧ Below Z.heap.size Z w') := Lib.hid (fun Z hz => by
            have hkz := hkw.transX (Kept.of_belowX hz)
            have h := quorum_any x.m.vs1 x.m.vt1 x.m.s1 x.m.t1 Z (HMK.out Z hkz).r_s1 (HMK.out Z hkz).r_t1
            rw [HPV.out.2.1, HPV.out.2.2.2, HQU.out] at h
            exact h)
            obtain ⟨SH, hsh⟩ := HLC.out x.m.h.va
            have HCH := Lib.hid hsh
            have hbd : Below W5.drew.heap.size W5.drew W5.drew := Below.refl _ _
            have hkd := Kept.refl W5.drew
            have hk0 := Kept.refl W5.drew
            clear hsh hdw hkw HCK HCB HRX HR1
            refine wp_region_held_drew (S := KepS W5.drew) (by kernel_rfl) (KepS.refl _) (fun hS0 => ?_)
            refine wpAnyH_take (i := 0) (oi := _) (v := ?_) rfl (by kernel_rfl) (by kernel_rfl) (by kernel_rfl) (fun _ _ _ h => h) (Or.inl ⟨by rfl, ?_⟩) hS0 ?_
            rotate_left
            · intro W hSW
              try go_simp
              all_goals with_reducible rfl
            simp only [Act.put, List.setIfInBounds_toArray, List.set_cons_zero, List.set_cons_succ, List.getElem_toArray, List.getElem_cons_zero, List.getElem_cons_succ]
            refine wpAnyH_take (i := 1) (oi := _) (v := .bool false) rfl (by kernel_rfl) (by kernel_rfl) (by kernel_rfl) (fun _ _ _ h => h) (Or.inl ⟨by rfl, ?_⟩) hS0 ?_
            skip
            · intro W hSW
              try go_simp
              all_goals first | with_reducible rfl | (simp; done) | omega | (simp; omega) | trace_state
            simp only [Act.put, List.setIfInBounds_toArray, List.set_cons_zero, List.set_cons_succ, List.getElem_toArray, List.getElem_cons_zero, List.getElem_cons_succ]
            refine wpAnyH_take (i := 2) (oi := _) (v := .bool false) rfl (by kernel_rfl) (by kernel_rfl) (by kernel_rfl) (fun _ _ _ h => h) (Or.inl ⟨by rfl, ?_⟩) hS0 ?_
            skip
            · intro W hSW
              try go_simp
              all_goals first | with_reducible rfl | (simp; done) | omega | (simp; omega) | trace_state
            simp only [Act.put, List.setIfInBounds_toArray, List.set_cons_zero, List.set_cons_succ, List.getElem_toArray, List.getElem_cons_zero, List.getElem_cons_succ]
            refine wpAnyH_take (i := 3) (oi := _) (v := ?_) rfl (by kernel_rfl) (by kernel_rfl) (by kernel_rfl) (fun _ _ _ h => h) (Or.inl ⟨by rfl, ?_⟩) hS0 ?_
            rotate_left
            · intro W hSW
              try go_simp
              all_goals with_reducible rfl
            simp only [Act.put, List.setIfInBounds_toArray, List.set_cons_zero, List.set_cons_succ, List.getElem_toArray, List.getElem_cons_zero, List.getElem_cons_succ]
            refine wpAnyH_take (i := 4) (oi := _) (v := .bool false) rfl (by kernel_rfl) (by kernel_rfl) (by kernel_rfl) (fun _ _ _ h => h) (Or.inl ⟨by rfl, ?_⟩) hS0 ?_
            skip
            · intro W hSW
              try go_simp
              all_goals first | with_reducible rfl | (simp; done) | omega | (simp; omega) | trace_state
            simp only [Act.put, List.setIfInBounds_toArray, List.set_cons_zero, List.set_cons_succ, List.getElem_toArray, List.getElem_cons_zero, List.getElem_cons_succ]
            refine wpAnyH_take (i := 5) (oi := _) (v := .bool false) rfl (by kernel_rfl) (by kernel_rfl) (by kernel_rfl) (fun _ _ _ h => h) (Or.inl ⟨by rfl, ?_⟩) hS0 ?_
            skip
            · intro W hSW
              try go_simp
              all_goals first | with_reducible rfl | (simp; done) | omega | (simp; omega) | trace_state
            simp only [Act.put, List.setIfInBounds_toArray, List.set_cons_zero, List.set_cons_succ, List.getElem_toArray, List.getElem_cons_zero, List.getElem_cons_succ]
            refine wpAnyH_take (i := 6) (oi := _) (v := .bool false) rfl (by kernel_rfl) (by kernel_rfl) (by kernel_rfl) (fun _ _ _ h => h) (Or.inl ⟨by rfl, ?_⟩) hS0 ?_
            skip
            · intro W hSW
              try go_simp
              all_goals first | with_reducible rfl | (simp; done) | omega | (simp; omega) | trace_state
            simp only [Act.put, List.setIfInBounds_toArray, List.set_cons_zero, List.set_cons_succ, List.getElem_toArray, List.getElem_cons_zero, List.getElem_cons_succ]
            refine wpAnyH_take (i := 7) (oi := _) (v := ?_) rfl (by kernel_rfl) (by kernel_rfl) (by kernel_rfl) (fun _ _ _ h => h) (Or.inl ⟨by rfl, ?_⟩) hS0 ?_
            rotate_left
            · intro W hSW
              try go_simp
              all_goals with_reducible rfl
            simp only [Act.put, List.setIfInBounds_toArray, List.set_cons_zero, List.set_cons_succ, List.getElem_toArray, List.getElem_cons_zero, List.getElem_cons_succ]
            refine wpAnyH_take (i := 8) (oi := _) (v := ?_) rfl (by kernel_rfl) (by kernel_rfl) (by kernel_rfl) (fun _ _ _ h => h) (Or.inl ⟨by rfl, ?_⟩) hS0 ?_
            rotate_left
            · intro W hSW
              obtain ⟨k1, k2, k3, k4, k5, k6, k7, k8⟩ := HC8.out W (hk0.transX (hkd.transX hSW))
              try go_simp
              all_goals with_reducible rfl
            simp only [Act.put, List.setIfInBounds_toArray, List.set_cons_zero, List.set_cons_succ, List.getElem_toArray, List.getElem_cons_zero, List.getElem_cons_succ]
            refine wpAnyH_take (i := 11) (oi := _) (v := ?_) rfl (by kernel_rfl) (by kernel_rfl) (by kernel_rfl) (fun _ _ _ h => h) (Or.inl ⟨by rfl, ?_⟩) hS0 ?_
            rotate_left
            · intro W hSW
              try go_simp
              all_goals with_reducible rfl
            simp only [Act.put, List.setIfInBounds_toArray, List.set_cons_zero, List.set_cons_succ, List.getElem_toArray, List.getElem_cons_zero, List.getElem_cons_succ]
            refine wpAnyH_take (i := 12) (oi := _) (v := ?_) rfl (by kernel_rfl) (by kernel_rfl) (by kernel_rfl) (fun _ _ _ h => h) (Or.inl ⟨by rfl, ?_⟩) hS0 ?_
            rotate_left
            · intro W hSW
              try go_simp
              all_goals with_reducible rfl
            simp only [Act.put, List.setIfInBounds_toArray, List.set_cons_zero, List.set_cons_succ, List.getElem_toArray, List.getElem_cons_zero, List.getElem_cons_succ]
            refine wpAnyH_take (i := 13) (oi := _) (v := ?_) rfl (by kernel_rfl) (by kernel_rfl) (by kernel_rfl) (fun _ _ _ h => h) (Or.inl ⟨by rfl, ?_⟩) hS0 ?_
            rotate_left
            · intro W hSW
              obtain ⟨k1, k2, k3, k4, k5, k6, k7, k8⟩ := HC8.out W (hk0.transX (hkd.transX hSW))
              try go_simp
              all_goals with_reducible rfl
            simp only [Act.put, List.setIfInBounds_toArray, List.set_cons_zero, List.set_cons_succ, List.getElem_toArray, List.getElem_cons_zero, List.getElem_cons_succ]
            refine wpAnyH_take (i := 14) (oi := _) (v := ?_) rfl (by kernel_rfl) (by kernel_rfl) (by kernel_rfl) (fun _ _ _ h => h) (Or.inl ⟨by rfl, ?_⟩) hS0 ?_
            rotate_left
            · intro W hSW
              have cw := HCH.out W _ (HV8.out W (hkd.transX hSW))
              try go_simp
              all_goals with_reducible rfl
            simp only [Act.put, List.setIfInBounds_toArray, List.set_cons_zero, List.set_cons_succ, List.getElem_toArray, List.getElem_cons_zero, List.getElem_cons_succ]
            refine wpAnyH_ready (rs := [9]) (by kernel_rfl) (by simp) (AllReadyH.cons rfl (fun K hK => ?_) AllReadyH.nil)
            have DH := Lib.hid (HH1.out W5.drew hbd)
            go_simp
            go_wp2_with ((go_at_call 18; (with_reducible refine DH.out.mono ?_); rintro e wH ⟨vH, rfl, hoH, hbH⟩))
            have hqH := below_chain hbd hbd.size hbH
            have hkH := Kept.of_belowX hbH
            have hzH := hkd.transX hkH
            refine hK.out _ _ hkH (fun _ => ?_)
            clear hK K DH
            refine wpAnyH_stronger (S' := KepS wH) (fun W h => hkH.transX h) _ _ _ _ ?_
            have hSH : KepS wH wH := KepS.refl wH
            refine wpAnyH_take (i := 10) (oi := _) (v := ?_) rfl (by kernel_rfl) (by kernel_rfl) (by kernel_rfl) (fun _ _ _ h => h) (Or.inl ⟨by rfl, ?_⟩) hSH ?_
            rotate_left
            · intro W hSW
              have cw := HCH.out W _ (hSW.rd hoH.rd)
              try go_simp
              all_goals with_reducible rfl
            simp only [Act.put, List.setIfInBounds_toArray, List.set_cons_zero, List.set_cons_succ, List.getElem_toArray, List.getElem_cons_zero, List.getElem_cons_succ]
            refine wpAnyH_take (i := 15) (oi := _) (v := .bool false) rfl (by kernel_rfl) (by kernel_rfl) (by kernel_rfl) (fun _ _ _ h => h) (Or.inl ⟨by rfl, ?_⟩) hSH ?_
            skip
            · intro W hSW
              try go_simp
              all_goals first | with_reducible rfl | (simp; done) | omega | (simp; omega) | trace_state
            simp only [Act.put, List.setIfInBounds_toArray, List.set_cons_zero, List.set_cons_succ, List.getElem_toArray, List.getElem_cons_zero, List.getElem_cons_succ]
            refine wpAnyH_take (i := 16) (oi := _) (v := .bool false) rfl (by kernel_rfl) (by kernel_rfl) (by kernel_rfl) (fun _ _ _ h => h) (Or.inl ⟨by rfl, ?_⟩) hSH ?_
            skip
            · intro W hSW
              try go_simp
              all_goals first | with_reducible rfl | (simp; done) | omega | (simp; omega) | trace_state
            simp only [Act.put, List.setIfInBounds_toArray, List.set_cons_zero, List.set_cons_succ, List.getElem_toArray, List.getElem_cons_zero, List.getElem_cons_succ]
            refine wpAnyH_take (i := 17) (oi := _) (v := .bool false) rfl (by kernel_rfl) (by kernel_rfl) (by kernel_rfl) (fun _ _ _ h => h) (Or.inl ⟨by rfl, ?_⟩) hSH ?_
            skip
            · intro W hSW
              try go_simp
              all_goals first | with_reducible rfl | (simp; done) | omega | (simp; omega) | trace_state
            simp only [Act.put, List.setIfInBounds_toArray, List.set_cons_zero, List.set_cons_succ, List.getElem_toArray, List.getElem_cons_zero, List.getElem_cons_succ]
            refine wpAnyH_take (i := 18) (oi := _) (v := ?_) rfl (by kernel_rfl) (by kernel_rfl) (by kernel_rfl) (fun _ _ _ h => h) (Or.inl ⟨by rfl, ?_⟩) hSH ?_
            rotate_left
            · intro W hSW
              try go_simp
              all_goals with_reducible rfl
            simp only [Act.put, List.setIfInBounds_toArray, List.set_cons_zero, List.set_cons_succ, List.getElem_toArray, List.getElem_cons_zero, List.getElem_cons_succ]
            refine wpAnyH_take (i := 19) (oi := _) (v := ?_) rfl (by kernel_rfl) (by kernel_rfl) (by kernel_rfl) (fun _ _ _ h => h) (Or.inl ⟨by rfl, ?_⟩) hSH ?_
            rotate_left
            · intro W hSW
              obtain ⟨k1, k2, k3, k4, k5, k6, k7, k8⟩ := HC8.out W (hk0.transX (hzH.transX hSW))
              try go_simp
              all_goals with_reducible rfl
            simp only [Act.put, List.setIfInBounds_toArray, List.set_cons_zero, List.set_cons_succ, List.getElem_toArray, List.getElem_cons_zero, List.getElem_cons_succ]
            refine wpAnyH_take (i := 20) (oi := _) (v := ?_) rfl (by kernel_rfl) (by kernel_rfl) (by kernel_rfl) (fun _ _ _ h => h) (Or.inl ⟨by rfl, ?_⟩) hSH ?_
            rotate_left
            · intro W hSW
              try go_simp
              all_goals with_reducible rfl
            simp only [Act.put, List.setIfInBounds_toArray, List.set_cons_zero, List.set_cons_succ, List.getElem_toArray, List.getElem_cons_zero, List.getElem_cons_succ]
            refine wpAnyH_take (i := 21) (oi := _) (v := ?_) rfl (by kernel_rfl) (by kernel_rfl) (by kernel_rfl) (fun _ _ _ h => h) (Or.inl ⟨by rfl, ?_⟩) hSH ?_
            rotate_left
            · intro W hSW
              obtain ⟨k1, k2, k3, k4, k5, k6, k7, k8⟩ := HC8.out W (hk0.transX (hzH.transX hSW))
              try go_simp
              all_goals with_reducible rfl
            simp only [Act.put, List.setIfInBounds_toArray, List.set_cons_zero, List.set_cons_succ, List.getElem_toArray, List.getElem_cons_zero, List.getElem_cons_succ]
            refine wpAnyH_ready (rs := [22]) (by kernel_rfl) (by simp) (AllReadyH.cons rfl (fun K hK => ?_) AllReadyH.nil)
            have DQ := Lib.hid (HX1.out wH hqH)
            go_simp
            go_wp2_with ((go_at_call 19; (with_reducible refine DQ.out.mono ?_); rintro e wQ ⟨rfl, hbQ⟩))
            have hqQ := below_chain hqH hqH.size hbQ
            have hkQ := Kept.of_belowX hbQ
            have hzQ := hzH.transX hkQ
            refine hK.out _ _ hkQ (fun _ => ?_)
            clear hK K DQ
            refine wpAnyH_stronger (S' := KepS wQ) (fun W h => hkQ.transX h) _ _ _ _ ?_
            have hSQ : KepS wQ wQ := KepS.refl wQ
            refine wpAnyH_take (i := 23) (oi := _) (v := .bool false) rfl (by kernel_rfl) (by kernel_rfl) (by kernel_rfl) (fun _ _ _ h => h) (Or.inl ⟨by rfl, ?_⟩) hSQ ?_
            skip
            · intro W hSW
              try go_simp
              all_goals first | with_reducible rfl | (simp; done) | omega | (simp; omega) | trace_state
            simp only [Act.put, List.setIfInBounds_toArray, List.set_cons_zero, List.set_cons_succ, List.getElem_toArray, List.getElem_cons_zero, List.getElem_cons_succ]
            refine wpAnyH_take (i := 24) (oi := _) (v := .bool false) rfl (by kernel_rfl) (by kernel_rfl) (by kernel_rfl) (fun _ _ _ h => h) (Or.inl ⟨by rfl, ?_⟩) hSQ ?_
            skip
            · intro W hSW
              try go_simp
              all_goals first | with_reducible rfl | (simp; done) | omega | (simp; omega) | trace_state
            simp only [Act.put, List.setIfInBounds_toArray, List.set_cons_zero, List.set_cons_succ, List.getElem_toArray, List.getElem_cons_zero, List.getElem_cons_succ]
            refine wpAnyH_take (i := 25) (oi := _) (v := .bool false) rfl (by kernel_rfl) (by kernel_rfl) (by kernel_rfl) (fun _ _ _ h => h) (Or.inl ⟨by rfl, ?_⟩) hSQ ?_
            skip
            · intro W hSW
              try go_simp
              all_goals first | with_reducible rfl | (simp; done) | omega | (simp; omega) | trace_state
            simp only [Act.put, List.setIfInBounds_toArray, List.set_cons_zero, List.set_cons_succ, List.getElem_toArray, List.getElem_cons_zero, List.getElem_cons_succ]
            refine wpAnyH_take (i := 26) (oi := _) (v := ?_) rfl (by kernel_rfl) (by kernel_rfl) (by kernel_rfl) (fun _ _ _ h => h) (Or.inl ⟨by rfl, ?_⟩) hSQ ?_
            rotate_left
            · intro W hSW
              try go_simp
              all_goals with_reducible rfl
            simp only [Act.put, List.setIfInBounds_toArray, List.set_cons_zero, List.set_cons_succ, List.getElem_toArray, List.getElem_cons_zero, List.getElem_cons_succ]
            refine wpAnyH_take (i := 27) (oi := _) (v := ?_) rfl (by kernel_rfl) (by kernel_rfl) (by kernel_rfl) (fun _ _ _ h => h) (Or.inl ⟨by rfl, ?_⟩) hSQ ?_
            rotate_left
            · intro W hSW
              try go_simp
              all_goals with_reducible rfl
            simp only [Act.put, List.setIfInBounds_toArray, List.set_cons_zero, List.set_cons_succ, List.getElem_toArray, List.getElem_cons_zero, List.getElem_cons_succ]
            refine wpAnyH_take (i := 28) (oi := _) (v := ?_) rfl (by kernel_rfl) (by kernel_rfl) (by kernel_rfl) (fun _ _ _ h => h) (Or.inl ⟨by rfl, ?_⟩) hSQ ?_
            rotate_left
            · intro W hSW
              obtain ⟨k1, k2, k3, k4, k5, k6, k7, k8⟩ := HC8.out W (hk0.transX (hzQ.transX hSW))
              try go_simp
              all_goals with_reducible rfl
            simp only [Act.put, List.setIfInBounds_toArray, List.set_cons_zero, List.set_cons_succ, List.getElem_toArray, List.getElem_cons_zero, List.getElem_cons_succ]
            refine wpAnyH_take (i := 29) (oi := _) (v := ?_) rfl (by kernel_rfl) (by kernel_rfl) (by kernel_rfl) (fun _ _ _ h => h) (Or.inl ⟨by rfl, ?_⟩) hSQ ?_
            rotate_left
            · intro W hSW
              try go_simp
              all_goals with_reducible rfl
            simp only [Act.put, List.setIfInBounds_toArray, List.set_cons_zero, List.set_cons_succ, List.getElem_toArray, List.getElem_cons_zero, List.getElem_cons_succ]
            refine wpAnyH_take (i := 30) (oi := _) (v := ?_) rfl (by kernel_rfl) (by kernel_rfl) (by kernel_rfl) (fun _ _ _ h => h) (Or.inl ⟨by rfl, ?_⟩) hSQ ?_
            rotate_left
            · intro W hSW
              obtain ⟨k1, k2, k3, k4, k5, k6, k7, k8⟩ := HC8.out W (hk0.transX (hzQ.transX hSW))
              try go_simp
              all_goals with_reducible rfl
            simp only [Act.put, List.setIfInBounds_toArray, List.set_cons_zero, List.set_cons_succ, List.getElem_toArray, List.getElem_cons_zero, List.getElem_cons_succ]
            refine wpAnyH_take (i := 31) (oi := _) (v := .bool false) rfl (by kernel_rfl) (by kernel_rfl) (by kernel_rfl) (fun _ _ _ h => h) (Or.inl ⟨by rfl, ?_⟩) hSQ ?_
            skip
            · intro W hSW
              try go_simp
              all_goals first | with_reducible rfl | (simp; done) | omega | (simp; omega) | trace_state
            simp only [Act.put, List.setIfInBounds_toArray, List.set_cons_zero, List.set_cons_succ, List.getElem_toArray, List.getElem_cons_zero, List.getElem_cons_succ]
            refine wpAnyH_take (i := 32) (oi := _) (v := .bool false) rfl (by kernel_rfl) (by kernel_rfl) (by kernel_rfl) (fun _ _ _ h => h) (Or.inl ⟨by rfl, ?_⟩) hSQ ?_
            skip
            · intro W hSW
              try go_simp
              all_goals first | with_reducible rfl | (simp; done) | omega | (simp; omega) | trace_state
            simp only [Act.put, List.setIfInBounds_toArray, List.set_cons_zero, List.set_cons_succ, List.getElem_toArray, List.getElem_cons_zero, List.getElem_cons_succ]
            refine wpAnyH_done (by kernel_rfl) ?_ _
            have hbq := (Below.refl wQ.heap.size wQ).drew
            have BQD := Lib.hid (hqQ.trans (hbq.mono hqQ.size))
            have BKD := Lib.hid (Kept.of_belowX BQD.out)
            clear hbH hqH hkH hzH hoH hSH hbQ hqQ hkQ hzQ hSQ hS0 hbd hkd hk0 hbq HH1 HX1
            have hw1 := HUA.out
            by_cases hadj : x.m.h.ht = (x.m.at_ + 1) % 18446744073709551616
            · have hlk := linked_next HLK.out hadj
              rw [← hadj] at hw1
              have HT9 := Lib.hid (fun (Z : World) (hz : Kept W5.drew Z) => rd_asT (HT8.out Z hz) hlk.symm)
              clear hlk hadj HLK HT8 HLC
              go_wp2_with fail
              have hbd : Below wQ.drew.heap.size wQ.drew wQ.drew := Below.refl _ _
              have hkd := Kept.refl wQ.drew
              refine wp_region_held_drew (S := KepS wQ.drew) (by kernel_rfl) (KepS.refl _) (fun hS0 => ?_)
              refine wpAnyH_take (i := 0) (oi := _) (v := ?_) rfl (by kernel_rfl) (by kernel_rfl) (by kernel_rfl) (fun _ _ _ h => h) (Or.inl ⟨by rfl, ?_⟩) hS0 ?_
              rotate_left
              · intro W hSW
                try go_simp
                all_goals with_reducible rfl
              simp only [Act.put, List.setIfInBounds_toArray, List.set_cons_zero, List.set_cons_succ, List.getElem_toArray, List.getElem_cons_zero, List.getElem_cons_succ]
              refine wpAnyH_take (i := 1) (oi := _) (v := ?_) rfl (by kernel_rfl) (by kernel_rfl) (by kernel_rfl) (fun _ _ _ h => h) (Or.inl ⟨by rfl, ?_⟩) hS0 ?_
              rotate_left
              · intro W hSW
                try go_simp
                all_goals with_reducible rfl
              simp only [Act.put, List.setIfInBounds_toArray, List.set_cons_zero, List.set_cons_succ, List.getElem_toArray, List.getElem_cons_zero, List.getElem_cons_succ]
              refine wpAnyH_take (i := 2) (oi := _) (v := ?_) rfl (by kernel_rfl) (by kernel_rfl) (by kernel_rfl) (fun _ _ _ h => h) (Or.inl ⟨by rfl, ?_⟩) hS0 ?_
              rotate_left
              · intro W hSW
                obtain ⟨k1, k2, k3, k4, k5, k6, k7, k8⟩ := HC8.out W (BKD.out.transX (hkd.transX hSW))
                try go_simp
                all_goals with_reducible rfl
              simp only [Act.put, List.setIfInBounds_toArray, List.set_cons_zero, List.set_cons_succ, List.getElem_toArray, List.getElem_cons_zero, List.getElem_cons_succ]
              refine wpAnyH_take (i := 3) (oi := _) (v := ?_) rfl (by kernel_rfl) (by kernel_rfl) (by kernel_rfl) (fun _ _ _ h => h) (Or.inl ⟨by rfl, ?_⟩) hS0 ?_
              rotate_left
              · intro W hSW
                try go_simp
                all_goals with_reducible rfl
              simp only [Act.put, List.setIfInBounds_toArray, List.set_cons_zero, List.set_cons_succ, List.getElem_toArray, List.getElem_cons_zero, List.getElem_cons_succ]
              refine wpAnyH_take (i := 4) (oi := _) (v := ?_) rfl (by kernel_rfl) (by kernel_rfl) (by kernel_rfl) (fun _ _ _ h => h) (Or.inl ⟨by rfl, ?_⟩) hS0 ?_
              rotate_left
              · intro W hSW
                obtain ⟨k1, k2, k3, k4, k5, k6, k7, k8⟩ := HC8.out W (BKD.out.transX (hkd.transX hSW))
                try go_simp
                all_goals with_reducible rfl
              simp only [Act.put, List.setIfInBounds_toArray, List.set_cons_zero, List.set_cons_succ, List.getElem_toArray, List.getElem_cons_zero, List.getElem_cons_succ]
              refine wpAnyH_take (i := 5) (oi := _) (v := ?_) rfl (by kernel_rfl) (by kernel_rfl) (by kernel_rfl) (fun _ _ _ h => h) (Or.inl ⟨by rfl, ?_⟩) hS0 ?_
              rotate_left
              · intro W hSW
                try go_simp
                all_goals with_reducible rfl
              simp only [Act.put, List.setIfInBounds_toArray, List.set_cons_zero, List.set_cons_succ, List.getElem_toArray, List.getElem_cons_zero, List.getElem_cons_succ]
              refine wpAnyH_take (i := 6) (oi := _) (v := .bool true) rfl (by kernel_rfl) (by kernel_rfl) (by kernel_rfl) (fun _ _ _ h => h) (Or.inl ⟨by rfl, ?_⟩) hS0 ?_
              skip
              · intro W hSW
                try go_simp
                all_goals first | with_reducible rfl | (simp; done) | omega | (simp; omega) | trace_state
              simp only [Act.put, List.setIfInBounds_toArray, List.set_cons_zero, List.set_cons_succ, List.getElem_toArray, List.getElem_cons_zero, List.getElem_cons_succ]
              refine wpAnyH_take (i := 7) (oi := _) (v := .bool true) rfl (by kernel_rfl) (by kernel_rfl) (by kernel_rfl) (fun _ _ _ h => h) (Or.inl ⟨by rfl, ?_⟩) hS0 ?_
              skip
              · intro W hSW
                try go_simp
                all_goals first | with_reducible rfl | (simp; done) | omega | (simp; omega) | trace_state
              simp only [Act.put, List.setIfInBounds_toArray, List.set_cons_zero, List.set_cons_succ, List.getElem_toArray, List.getElem_cons_zero, List.getElem_cons_succ]
              refine wpAnyH_take (i := 8) (oi := _) (v := ?_) rfl (by kernel_rfl) (by kernel_rfl) (by kernel_rfl) (fun _ _ _ h => h) (Or.inl ⟨by rfl, ?_⟩) hS0 ?_
              rotate_left
              · intro W hSW
                try go_simp
                all_goals with_reducible rfl
              simp only [Act.put, List.setIfInBounds_toArray, List.set_cons_zero, List.set_cons_succ, List.getElem_toArray, List.getElem_cons_zero, List.getElem_cons_succ]
              refine wpAnyH_take (i := 9) (oi := _) (v := ?_) rfl (by kernel_rfl) (by kernel_rfl) (by kernel_rfl) (fun _ _ _ h => h) (Or.inl ⟨by rfl, ?_⟩) hS0 ?_
              rotate_left
              · intro W hSW
                try go_simp
                all_goals with_reducible rfl
              simp only [Act.put, List.setIfInBounds_toArray, List.set_cons_zero, List.set_cons_succ, List.getElem_toArray, List.getElem_cons_zero, List.getElem_cons_succ]
              refine wpAnyH_take (i := 10) (oi := _) (v := ?_) rfl (by kernel_rfl) (by kernel_rfl) (by kernel_rfl) (fun _ _ _ h => h) (Or.inl ⟨by rfl, ?_⟩) hS0 ?_
              rotate_left
              · intro W hSW
                obtain ⟨k1, k2, k3, k4, k5, k6, k7, k8⟩ := HC8.out W (BKD.out.transX (hkd.transX hSW))
                try go_simp
                all_goals with_reducible rfl
              simp only [Act.put, List.setIfInBounds_toArray, List.set_cons_zero, List.set_cons_succ, List.getElem_toArray, List.getElem_cons_zero, List.getElem_cons_succ]
              refine wpAnyH_take (i := 11) (oi := _) (v := ?_) rfl (by kernel_rfl) (by kernel_rfl) (by kernel_rfl) (fun _ _ _ h => h) (Or.inl ⟨by rfl, ?_⟩) hS0 ?_
              rotate_left
              · intro W hSW
                have cw := HCH.out W _ (HV8.out W (BKD.out.transX (hkd.transX hSW)))
                try go_simp
                all_goals with_reducible rfl
              simp only [Act.put, List.setIfInBounds_toArray, List.set_cons_zero, List.set_cons_succ, List.getElem_toArray, List.getElem_cons_zero, List.getElem_cons_succ]
              refine wpAnyH_take (i := 12) (oi := _) (v := ?_) rfl (by kernel_rfl) (by kernel_rfl) (by kernel_rfl) (fun _ _ _ h => h) (Or.inl ⟨by rfl, ?_⟩) hS0 ?_
              rotate_left
              · intro W hSW
                try go_simp
                all_goals with_reducible rfl
              simp only [Act.put, List.setIfInBounds_toArray, List.set_cons_zero, List.set_cons_succ, List.getElem_toArray, List.getElem_cons_zero, List.getElem_cons_succ]
              refine wpAnyH_take (i := 13) (oi := _) (v := ?_) rfl (by kernel_rfl) (by kernel_rfl) (by kernel_rfl) (fun _ _ _ h => h) (Or.inl ⟨by rfl, ?_⟩) hS0 ?_
              rotate_left
              · intro W hSW
                obtain r1 := HB8.out W (BKD.out.transX (hkd.transX hSW))
                try go_simp
                all_goals with_reducible rfl
              simp only [Act.put, List.setIfInBounds_toArray, List.set_cons_zero, List.set_cons_succ, List.getElem_toArray, List.getElem_cons_zero, List.getElem_cons_succ]
              refine wpAnyH_take (i := 14) (oi := _) (v := ?_) rfl (by kernel_rfl) (by kernel_rfl) (by kernel_rfl) (fun _ _ _ h => h) (Or.inl ⟨by rfl, ?_⟩) hS0 ?_
              rotate_left
              · intro W hSW
                have cw := HCH.out W _ (HT9.out W (BKD.out.transX (hkd.transX hSW)))
                try go_simp
                all_goals with_reducible rfl
              simp only [Act.put, List.setIfInBounds_toArray, List.set_cons_zero, List.set_cons_succ, List.getElem_toArray, List.getElem_cons_zero, List.getElem_cons_succ]
              refine wpAnyH_take (i := 15) (oi := _) (v := .bool false) rfl (by kernel_rfl) (by kernel_rfl) (by kernel_rfl) (fun _ _ _ h => h) (Or.inl ⟨by rfl, ?_⟩) hS0 ?_
              skip
              · intro W hSW
                try go_simp
                all_goals first | with_reducible rfl | (simp; done) | omega | (simp; omega) | trace_state
              simp only [Act.put, List.setIfInBounds_toArray, List.set_cons_zero, List.set_cons_succ, List.getElem_toArray, List.getElem_cons_zero, List.getElem_cons_succ]
              refine wpAnyH_take (i := 16) (oi := _) (v := .bool false) rfl (by kernel_rfl) (by kernel_rfl) (by kernel_rfl) (fun _ _ _ h => h) (Or.inl ⟨by rfl, ?_⟩) hS0 ?_
              skip
              · intro W hSW
                try go_simp
                all_goals first | with_reducible rfl | (simp; done) | omega | (simp; omega) | trace_state
              simp only [Act.put, List.setIfInBounds_toArray, List.set_cons_zero, List.set_cons_succ, List.getElem_toArray, List.getElem_cons_zero, List.getElem_cons_succ]
              refine wpAnyH_take (i := 17) (oi := _) (v := .bool false) rfl (by kernel_rfl) (by kernel_rfl) (by kernel_rfl) (fun _ _ _ h => h) (Or.inl ⟨by rfl, ?_⟩) hS0 ?_
              skip
              · intro W hSW
                try go_simp
                all_goals first | with_reducible rfl | (simp; done) | omega | (simp; omega) | trace_state
              simp only [Act.put, List.setIfInBounds_toArray, List.set_cons_zero, List.set_cons_succ, List.getElem_toArray, List.getElem_cons_zero, List.getElem_cons_succ]
              refine wpAnyH_take (i := 18) (oi := _) (v := ?_) rfl (by kernel_rfl) (by kernel_rfl) (by kernel_rfl) (fun _ _ _ h => h) (Or.inl ⟨by rfl, ?_⟩) hS0 ?_
              rotate_left
              · intro W hSW
                try go_simp
                all_goals with_reducible rfl
              simp only [Act.put, List.setIfInBounds_toArray, List.set_cons_zero, List.set_cons_succ, List.getElem_toArray, List.getElem_cons_zero, List.getElem_cons_succ]
              refine wpAnyH_take (i := 19) (oi := _) (v := ?_) rfl (by kernel_rfl) (by kernel_rfl) (by kernel_rfl) (fun _ _ _ h => h) (Or.inl ⟨by rfl, ?_⟩) hS0 ?_
              rotate_left
              · intro W hSW
                try go_simp
                all_goals with_reducible rfl
              simp only [Act.put, List.setIfInBounds_toArray, List.set_cons_zero, List.set_cons_succ, List.getElem_toArray, List.getElem_cons_zero, List.getElem_cons_succ]
              refine wpAnyH_take (i := 20) (oi := _) (v := ?_) rfl (by kernel_rfl) (by kernel_rfl) (by kernel_rfl) (fun _ _ _ h => h) (Or.inl ⟨by rfl, ?_⟩) hS0 ?_
              rotate_left
              · intro W hSW
                obtain ⟨k1, k2, k3, k4, k5, k6, k7, k8⟩ := HC8.out W (BKD.out.transX (hkd.transX hSW))
                try go_simp
                all_goals with_reducible rfl
              simp only [Act.put, List.setIfInBounds_toArray, List.set_cons_zero, List.set_cons_succ, List.getElem_toArray, List.getElem_cons_zero, List.getElem_cons_succ]
              refine wpAnyH_take (i := 21) (oi := _) (v := ?_) rfl (by kernel_rfl) (by kernel_rfl) (by kernel_rfl) (fun _ _ _ h => h) (Or.inl ⟨by rfl, ?_⟩) hS0 ?_
              rotate_left
              · intro W hSW
                try go_simp
                all_goals with_reducible rfl
              simp only [Act.put, List.setIfInBounds_toArray, List.set_cons_zero, List.set_cons_succ, List.getElem_toArray, List.getElem_cons_zero, List.getElem_cons_succ]
              refine wpAnyH_take (i := 22) (oi := _) (v := ?_) rfl (by kernel_rfl) (by kernel_rfl) (by kernel_rfl) (fun _ _ _ h => h) (Or.inl ⟨by rfl, ?_⟩) hS0 ?_
              rotate_left
              · intro W hSW
                obtain ⟨k1, k2, k3, k4, k5, k6, k7, k8⟩ := HC8.out W (BKD.out.transX (hkd.transX hSW))
                try go_simp
                all_goals with_reducible rfl
              simp only [Act.put, List.setIfInBounds_toArray, List.set_cons_zero, List.set_cons_succ, List.getElem_toArray, List.getElem_cons_zero, List.getElem_cons_succ]
              refine wpAnyH_take (i := 23) (oi := _) (v := ?_) rfl (by kernel_rfl) (by kernel_rfl) (by kernel_rfl) (fun _ _ _ h => h) (Or.inl ⟨by rfl, ?_⟩) hS0 ?_
              rotate_left
              · intro W hSW
                try go_simp
                all_goals with_reducible rfl
              simp only [Act.put, List.setIfInBounds_toArray, List.set_cons_zero, List.set_cons_succ, List.getElem_toArray, List.getElem_cons_zero, List.getElem_cons_succ]
              refine wpAnyH_take (i := 24) (oi := _) (v := .bool false) rfl (by kernel_rfl) (by kernel_rfl) (by kernel_rfl) (fun _ _ _ h => h) (Or.inl ⟨by rfl, ?_⟩) hS0 ?_
              skip
              · intro W hSW
                try go_simp
                all_goals first | with_reducible rfl | (simp; done) | omega | (simp; omega) | trace_state
              simp only [Act.put, List.setIfInBounds_toArray, List.set_cons_zero, List.set_cons_succ, List.getElem_toArray, List.getElem_cons_zero, List.getElem_cons_succ]
              refine wpAnyH_take (i := 25) (oi := _) (v := .bool false) rfl (by kernel_rfl) (by kernel_rfl) (by kernel_rfl) (fun _ _ _ h => h) (Or.inl ⟨by rfl, ?_⟩) hS0 ?_
              skip
              · intro W hSW
                try go_simp
                all_goals first | with_reducible rfl | (simp; done) | omega | (simp; omega) | trace_state
              simp only [Act.put, List.setIfInBounds_toArray, List.set_cons_zero, List.set_cons_succ, List.getElem_toArray, List.getElem_cons_zero, List.getElem_cons_succ]
              refine wpAnyH_take (i := 26) (oi := _) (v := undef) rfl (by kernel_rfl) (by kernel_rfl) (by kernel_rfl) (fun _ _ _ h => h) (Or.inr ⟨by rfl, rfl⟩) hS0 ?_
              simp only [Act.put, List.setIfInBounds_toArray, List.set_cons_zero, List.set_cons_succ, List.getElem_toArray, List.getElem_cons_zero, List.getElem_cons_succ]
              refine wpAnyH_take (i := 27) (oi := _) (v := undef) rfl (by kernel_rfl) (by kernel_rfl) (by kernel_rfl) (fun _ _ _ h => h) (Or.inr ⟨by rfl, rfl⟩) hS0 ?_
              simp only [Act.put, List.setIfInBounds_toArray, List.set_cons_zero, List.set_cons_succ, List.getElem_toArray, List.getElem_cons_zero, List.getElem_cons_succ]
              refine wpAnyH_take (i := 28) (oi := _) (v := undef) rfl (by kernel_rfl) (by kernel_rfl) (by kernel_rfl) (fun _ _ _ h => h) (Or.inr ⟨by rfl, rfl⟩) hS0 ?_
              simp only [Act.put, List.setIfInBounds_toArray, List.set_cons_zero, List.set_cons_succ, List.getElem_toArray, List.getElem_cons_zero, List.getElem_cons_succ]
              refine wpAnyH_take (i := 29) (oi := _) (v := undef) rfl (by kernel_rfl) (by kernel_rfl) (by kernel_rfl) (fun _ _ _ h => h) (Or.inr ⟨by rfl, rfl⟩) hS0 ?_
              simp only [Act.put, List.setIfInBounds_toArray, List.set_cons_zero, List.set_cons_succ, List.getElem_toArray, List.getElem_cons_zero, List.getElem_cons_succ]
              refine wpAnyH_take (i := 30) (oi := _) (v := undef) rfl (by kernel_rfl) (by kernel_rfl) (by kernel_rfl) (fun _ _ _ h => h) (Or.inr ⟨by rfl, rfl⟩) hS0 ?_
              simp only [Act.put, List.setIfInBounds_toArray, List.set_cons_zero, List.set_cons_succ, List.getElem_toArray, List.getElem_cons_zero, List.getElem_cons_succ]
              refine wpAnyH_take (i := 31) (oi := _) (v := undef) rfl (by kernel_rfl) (by kernel_rfl) (by kernel_rfl) (fun _ _ _ h => h) (Or.inr ⟨by rfl, rfl⟩) hS0 ?_
              simp only [Act.put, List.setIfInBounds_toArray, List.set_cons_zero, List.set_cons_succ, List.getElem_toArray, List.getElem_cons_zero, List.getElem_cons_succ]
              refine wpAnyH_take (i := 32) (oi := _) (v := undef) rfl (by kernel_rfl) (by kernel_rfl) (by kernel_rfl) (fun _ _ _ h => h) (Or.inr ⟨by rfl, rfl⟩) hS0 ?_
              simp only [Act.put, List.setIfInBounds_toArray, List.set_cons_zero, List.set_cons_succ, List.getElem_toArray, List.getElem_cons_zero, List.getElem_cons_succ]
              refine wpAnyH_take (i := 33) (oi := _) (v := undef) rfl (by kernel_rfl) (by kernel_rfl) (by kernel_rfl) (fun _ _ _ h => h) (Or.inr ⟨by rfl, rfl⟩) hS0 ?_
              simp only [Act.put, List.setIfInBounds_toArray, List.set_cons_zero, List.set_cons_succ, List.getElem_toArray, List.getElem_cons_zero, List.getElem_cons_succ]
              refine wpAnyH_take (i := 34) (oi := _) (v := undef) rfl (by kernel_rfl) (by kernel_rfl) (by kernel_rfl) (fun _ _ _ h => h) (Or.inr ⟨by rfl, rfl⟩) hS0 ?_
              simp only [Act.put, List.setIfInBounds_toArray, List.set_cons_zero, List.set_cons_succ, List.getElem_toArray, List.getElem_cons_zero, List.getElem_cons_succ]
              refine wpAnyH_take (i := 35) (oi := _) (v := undef) rfl (by kernel_rfl) (by kernel_rfl) (by kernel_rfl) (fun _ _ _ h => h) (Or.inr ⟨by rfl, rfl⟩) hS0 ?_
              simp only [Act.put, List.setIfInBounds_toArray, List.set_cons_zero, List.set_cons_succ, List.getElem_toArray, List.getElem_cons_zero, List.getElem_cons_succ]
              refine wpAnyH_take (i := 36) (oi := _) (v := undef) rfl (by kernel_rfl) (by kernel_rfl) (by kernel_rfl) (fun _ _ _ h => h) (Or.inr ⟨by rfl, rfl⟩) hS0 ?_
              simp only [Act.put, List.setIfInBounds_toArray, List.set_cons_zero, List.set_cons_succ, List.getElem_toArray, List.getElem_cons_zero, List.getElem_cons_succ]
              refine wpAnyH_take (i := 37) (oi := _) (v := undef) rfl (by kernel_rfl) (by kernel_rfl) (by kernel_rfl) (fun _ _ _ h => h) (Or.inr ⟨by rfl, rfl⟩) hS0 ?_
              simp only [Act.put, List.setIfInBounds_toArray, List.set_cons_zero, List.set_cons_succ, List.getElem_toArray, List.getElem_cons_zero, List.getElem_cons_succ]
              refine wpAnyH_take (i := 38) (oi := _) (v := undef) rfl (by kernel_rfl) (by kernel_rfl) (by kernel_rfl) (fun _ _ _ h => h) (Or.inr ⟨by rfl, rfl⟩) hS0 ?_
              simp only [Act.put, List.setIfInBounds_toArray, List.set_cons_zero, List.set_cons_succ, List.getElem_toArray, List.getElem_cons_zero, List.getElem_cons_succ]
              refine wpAnyH_take (i := 39) (oi := _) (v := undef) rfl (by kernel_rfl) (by kernel_rfl) (by kernel_rfl) (fun _ _ _ h => h) (Or.inr ⟨by rfl, rfl⟩) hS0 ?_
              simp only [Act.put, List.setIfInBounds_toArray, List.set_cons_zero, List.set_cons_succ, List.getElem_toArray, List.getElem_cons_zero, List.getElem_cons_succ]
              refine wpAnyH_take (i := 40) (oi := _) (v := undef) rfl (by kernel_rfl) (by kernel_rfl) (by kernel_rfl) (fun _ _ _ h => h) (Or.inr ⟨by rfl, rfl⟩) hS0 ?_
              simp only [Act.put, List.setIfInBounds_toArray, List.set_cons_zero, List.set_cons_succ, List.getElem_toArray, List.getElem_cons_zero, List.getElem_cons_succ]
              refine wpAnyH_take (i := 41) (oi := _) (v := undef) rfl (by kernel_rfl) (by kernel_rfl) (by kernel_rfl) (fun _ _ _ h => h) (Or.inr ⟨by rfl, rfl⟩) hS0 ?_
              simp only [Act.put, List.setIfInBounds_toArray, List.set_cons_zero, List.set_cons_succ, List.getElem_toArray, List.getElem_cons_zero, List.getElem_cons_succ]
              refine wpAnyH_take (i := 42) (oi := _) (v := .bool false) rfl (by kernel_rfl) (by kernel_rfl) (by kernel_rfl) (fun _ _ _ h => h) (Or.inl ⟨by rfl, ?_⟩) hS0 ?_
              skip
              · intro W hSW
                try go_simp
                all_goals first | with_reducible rfl | (simp; done) | omega | (simp; omega) | trace_state
              simp only [Act.put, List.setIfInBounds_toArray, List.set_cons_zero, List.set_cons_succ, List.getElem_toArray, List.getElem_cons_zero, List.getElem_cons_succ]
              refine wpAnyH_take (i := 43) (oi := _) (v := .bool false) rfl (by kernel_rfl) (by kernel_rfl) (by kernel_rfl) (fun _ _ _ h => h) (Or.inl ⟨by rfl, ?_⟩) hS0 ?_
              skip
              · intro W hSW
                try go_simp
                all_goals first | with_reducible rfl | (simp; done) | omega | (simp; omega) | trace_state
              simp only [Act.put, List.setIfInBounds_toArray, List.set_cons_zero, List.set_cons_succ, List.getElem_toArray, List.getElem_cons_zero, List.getElem_cons_succ]
              refine wpAnyH_done (by kernel_rfl) ?_ _
              have hfin := HLX.out _ (HDW.out.1.trans (Below.mono (BQD.out) HDW.out.1.size))
              clear HLX HLS HBN HCH HV8 HT9 HC8 HB8 HMK HTK HPV HUA HLN HVH HQU BQD BKD HDW hbd hkd hS0 hw1 q9
              go_wp2_with fail
              exact ⟨⟨j + 1, by omega, by simp, hfin⟩, by simp [intOf]; omega⟩
            · obtain ⟨hv3, ht3⟩ := linked_far HLK.out hadj
              have z1 : ((x.m.h.ht : Int) == (((x.m.at_ + 1) % 18446744073709551616 : Nat) : Int)) = false := by simp only [beq_eq_false_iff_ne]; omega
              have z2 : ((x.m.h.ht : Int) != (((x.m.at_ + 1) % 18446744073709551616 : Nat) : Int)) = true := by simp only [bne_iff_ne]; omega
              have HH3 : Hid (∀ Z, Below W5.drew.heap.size W5.drew Z → Calls Tryz.prog 18 #[.slice Ax x.m.s3.length cx] Z fun e w' => ∃ v', e = .returned v' ∧ Own w' Z.heap.size v' T.nx ∧ Below Z.heap.size Z w') := Lib.hid (fun Z hz => by
              have hkz := HDW.out.2.transX (Kept.of_belowX hz)
              have h := hashV_any x.m.vs3 x.m.s3 Z (HMK.out Z hkz).r_s3 HLN.out.2 fr (HTK.out Z hkz)
              rw [HPV.out.2.2.1] at h
              rw [← hv3]
              exact h)
              have HT3 : Hid (∀ Z, Below W5.drew.heap.size W5.drew Z → Calls Tryz.prog 20 #[.slice Ax x.m.s3.length cx, .slice Ao x.m.t1.length co] Z fun e w' => e = .returned (.bool true) ∧ Below Z.heap.size Z w') := Lib.hid (fun Z hz => by
              have hkz := HDW.out.2.transX (Kept.of_belowX hz)
              have h := third_any x.m.vs3 x.m.vt1 x.m.s3 x.m.t1 Z (HMK.out Z hkz).r_s3 (HMK.out Z hkz).r_t1
              rw [HPV.out.2.2.1, HPV.out.2.2.2, ht3] at h
              exact h)
              obtain ⟨SX, hsx⟩ := HLC.out T.nx
              have HCX := Lib.hid hsx
              generalize (x.m.at_ + 1) % 18446744073709551616 = uu at *
              clear hsx hv3 ht3 hadj HLK HLC HCH
              go_wp2_with fail
              have hbd : Below wQ.drew.heap.size wQ.drew wQ.drew := Below.refl _ _
              have hkd := Kept.refl wQ.drew
              refine wp_region_held_drew (S := KepS wQ.drew) (by kernel_rfl) (KepS.refl _) (fun hS0 => ?_)
              refine wpAnyH_take (i := 0) (oi := _) (v := ?_) rfl (by kernel_rfl) (by kernel_rfl) (by kernel_rfl) (fun _ _ _ h => h) (Or.inl ⟨by rfl, ?_⟩) hS0 ?_
              rotate_left
              · intro W hSW
                try go_simp
                all_goals with_reducible rfl
              simp only [Act.put, List.setIfInBounds_toArray, List.set_cons_zero, List.set_cons_succ, List.getElem_toArray, List.getElem_cons_zero, List.getElem_cons_succ]
              refine wpAnyH_take (i := 1) (oi := _) (v := ?_) rfl (by kernel_rfl) (by kernel_rfl) (by kernel_rfl) (fun _ _ _ h => h) (Or.inl ⟨by rfl, ?_⟩) hS0 ?_
              rotate_left
              · intro W hSW
                try go_simp
                all_goals with_reducible rfl
              simp only [Act.put, List.setIfInBounds_toArray, List.set_cons_zero, List.set_cons_succ, List.getElem_toArray, List.getElem_cons_zero, List.getElem_cons_succ]
              refine wpAnyH_take (i := 2) (oi := _) (v := ?_) rfl (by kernel_rfl) (by kernel_rfl) (by kernel_rfl) (fun _ _ _ h => h) (Or.inl ⟨by rfl, ?_⟩) hS0 ?_
              rotate_left
              · intro W hSW
                obtain ⟨k1, k2, k3, k4, k5, k6, k7, k8⟩ := HC8.out W (BKD.out.transX (hkd.transX hSW))
                try go_simp
                all_goals with_reducible rfl
              simp only [Act.put, List.setIfInBounds_toArray, List.set_cons_zero, List.set_cons_succ, List.getElem_toArray, List.getElem_cons_zero, List.getElem_cons_succ]
              refine wpAnyH_take (i := 3) (oi := _) (v := ?_) rfl (by kernel_rfl) (by kernel_rfl) (by kernel_rfl) (fun _ _ _ h => h) (Or.inl ⟨by rfl, ?_⟩) hS0 ?_
              rotate_left
              · intro W hSW
                try go_simp
                all_goals with_reducible rfl
              simp only [Act.put, List.setIfInBounds_toArray, List.set_cons_zero, List.set_cons_succ, List.getElem_toArray, List.getElem_cons_zero, List.getElem_cons_succ]
              refine wpAnyH_take (i := 4) (oi := _) (v := ?_) rfl (by kernel_rfl) (by kernel_rfl) (by kernel_rfl) (fun _ _ _ h => h) (Or.inl ⟨by rfl, ?_⟩) hS0 ?_
              rotate_left
              · intro W hSW
                obtain ⟨k1, k2, k3, k4, k5, k6, k7, k8⟩ := HC8.out W (BKD.out.transX (hkd.transX hSW))
                try go_simp
                all_goals with_reducible rfl
              simp only [Act.put, List.setIfInBounds_toArray, List.set_cons_zero, List.set_cons_succ, List.getElem_toArray, List.getElem_cons_zero, List.getElem_cons_succ]
              refine wpAnyH_take (i := 5) (oi := _) (v := ?_) rfl (by kernel_rfl) (by kernel_rfl) (by kernel_rfl) (fun _ _ _ h => h) (Or.inl ⟨by rfl, ?_⟩) hS0 ?_
              rotate_left
              · intro W hSW
                try go_simp
                all_goals with_reducible rfl
              simp only [Act.put, List.setIfInBounds_toArray, List.set_cons_zero, List.set_cons_succ, List.getElem_toArray, List.getElem_cons_zero, List.getElem_cons_succ]
              refine wpAnyH_take (i := 6) (oi := _) (v := .bool false) rfl (by kernel_rfl) (by kernel_rfl) (by kernel_rfl) (fun _ _ _ h => h) (Or.inl ⟨by rfl, ?_⟩) hS0 ?_
              skip
              · intro W hSW
                try go_simp
                all_goals first | with_reducible rfl | (simp; done) | omega | (simp; omega) | trace_state
              simp only [Act.put, List.setIfInBounds_toArray, List.set_cons_zero, List.set_cons_succ, List.getElem_toArray, List.getElem_cons_zero, List.getElem_cons_succ]
              refine wpAnyH_take (i := 7) (oi := _) (v := .bool false) rfl (by kernel_rfl) (by kernel_rfl) (by kernel_rfl) (fun _ _ _ h => h) (Or.inl ⟨by rfl, ?_⟩) hS0 ?_
              skip
              · intro W hSW
                try go_simp
                all_goals first | with_reducible rfl | (simp; done) | omega | (simp; omega) | trace_state
              simp only [Act.put, List.setIfInBounds_toArray, List.set_cons_zero, List.set_cons_succ, List.getElem_toArray, List.getElem_cons_zero, List.getElem_cons_succ]
              refine wpAnyH_take (i := 8) (oi := _) (v := undef) rfl (by kernel_rfl) (by kernel_rfl) (by kernel_rfl) (fun _ _ _ h => h) (Or.inr ⟨by rfl, rfl⟩) hS0 ?_
              simp only [Act.put, List.setIfInBounds_toArray, List.set_cons_zero, List.set_cons_succ, List.getElem_toArray, List.getElem_cons_zero, List.getElem_cons_succ]
              refine wpAnyH_take (i := 9) (oi := _) (v := undef) rfl (by kernel_rfl) (by kernel_rfl) (by kernel_rfl) (fun _ _ _ h => h) (Or.inr ⟨by rfl, rfl⟩) hS0 ?_
              simp only [Act.put, List.setIfInBounds_toArray, List.set_cons_zero, List.set_cons_succ, List.getElem_toArray, List.getElem_cons_zero, List.getElem_cons_succ]
              refine wpAnyH_take (i := 10) (oi := _) (v := undef) rfl (by kernel_rfl) (by kernel_rfl) (by kernel_rfl) (fun _ _ _ h => h) (Or.inr ⟨by rfl, rfl⟩) hS0 ?_
              simp only [Act.put, List.setIfInBounds_toArray, List.set_cons_zero, List.set_cons_succ, List.getElem_toArray, List.getElem_cons_zero, List.getElem_cons_succ]
              refine wpAnyH_take (i := 11) (oi := _) (v := undef) rfl (by kernel_rfl) (by kernel_rfl) (by kernel_rfl) (fun _ _ _ h => h) (Or.inr ⟨by rfl, rfl⟩) hS0 ?_
              simp only [Act.put, List.setIfInBounds_toArray, List.set_cons_zero, List.set_cons_succ, List.getElem_toArray, List.getElem_cons_zero, List.getElem_cons_succ]
              refine wpAnyH_take (i := 12) (oi := _) (v := undef) rfl (by kernel_rfl) (by kernel_rfl) (by kernel_rfl) (fun _ _ _ h => h) (Or.inr ⟨by rfl, rfl⟩) hS0 ?_
              simp only [Act.put, List.setIfInBounds_toArray, List.set_cons_zero, List.set_cons_succ, List.getElem_toArray, List.getElem_cons_zero, List.getElem_cons_succ]
              refine wpAnyH_take (i := 13) (oi := _) (v := undef) rfl (by kernel_rfl) (by kernel_rfl) (by kernel_rfl) (fun _ _ _ h => h) (Or.inr ⟨by rfl, rfl⟩) hS0 ?_
              simp only [Act.put, List.setIfInBounds_toArray, List.set_cons_zero, List.set_cons_succ, List.getElem_toArray, List.getElem_cons_zero, List.getElem_cons_succ]
              refine wpAnyH_take (i := 14) (oi := _) (v := undef) rfl (by kernel_rfl) (by kernel_rfl) (by kernel_rfl) (fun _ _ _ h => h) (Or.inr ⟨by rfl, rfl⟩) hS0 ?_
              simp only [Act.put, List.setIfInBounds_toArray, List.set_cons_zero, List.set_cons_succ, List.getElem_toArray, List.getElem_cons_zero, List.getElem_cons_succ]
              refine wpAnyH_take (i := 15) (oi := _) (v := undef) rfl (by kernel_rfl) (by kernel_rfl) (by kernel_rfl) (fun _ _ _ h => h) (Or.inr ⟨by rfl, rfl⟩) hS0 ?_
              simp only [Act.put, List.setIfInBounds_toArray, List.set_cons_zero, List.set_cons_succ, List.getElem_toArray, List.getElem_cons_zero, List.getElem_cons_succ]
              refine wpAnyH_take (i := 16) (oi := _) (v := .bool false) rfl (by kernel_rfl) (by kernel_rfl) (by kernel_rfl) (fun _ _ _ h => h) (Or.inl ⟨by rfl, ?_⟩) hS0 ?_
              skip
              · intro W hSW
                try go_simp
                all_goals first | with_reducible rfl | (simp; done) | omega | (simp; omega) | trace_state
              simp only [Act.put, List.setIfInBounds_toArray, List.set_cons_zero, List.set_cons_succ, List.getElem_toArray, List.getElem_cons_zero, List.getElem_cons_succ]
              refine wpAnyH_take (i := 17) (oi := _) (v := .bool false) rfl (by kernel_rfl) (by kernel_rfl) (by kernel_rfl) (fun _ _ _ h => h) (Or.inl ⟨by rfl, ?_⟩) hS0 ?_
              skip
              · intro W hSW
                try go_simp
                all_goals first | with_reducible rfl | (simp; done) | omega | (simp; omega) | trace_state
              simp only [Act.put, List.setIfInBounds_toArray, List.set_cons_zero, List.set_cons_succ, List.getElem_toArray, List.getElem_cons_zero, List.getElem_cons_succ]
              refine wpAnyH_take (i := 18) (oi := _) (v := ?_) rfl (by kernel_rfl) (by kernel_rfl) (by kernel_rfl) (fun _ _ _ h => h) (Or.inl ⟨by rfl, ?_⟩) hS0 ?_
              rotate_left
              · intro W hSW
                try go_simp
                all_goals with_reducible rfl
              simp only [Act.put, List.setIfInBounds_toArray, List.set_cons_zero, List.set_cons_succ, List.getElem_toArray, List.getElem_cons_zero, List.getElem_cons_succ]
              refine wpAnyH_take (i := 19) (oi := _) (v := ?_) rfl (by kernel_rfl) (by kernel_rfl) (by kernel_rfl) (fun _ _ _ h => h) (Or.inl ⟨by rfl, ?_⟩) hS0 ?_
              rotate_left
              · intro W hSW
                try go_simp
                all_goals with_reducible rfl
              simp only [Act.put, List.setIfInBounds_toArray, List.set_cons_zero, List.set_cons_succ, List.getElem_toArray, List.getElem_cons_zero, List.getElem_cons_succ]
              refine wpAnyH_take (i := 20) (oi := _) (v := ?_) rfl (by kernel_rfl) (by kernel_rfl) (by kernel_rfl) (fun _ _ _ h => h) (Or.inl ⟨by rfl, ?_⟩) hS0 ?_
              rotate_left
              · intro W hSW
                obtain ⟨k1, k2, k3, k4, k5, k6, k7, k8⟩ := HC8.out W (BKD.out.transX (hkd.transX hSW))
                try go_simp
                all_goals with_reducible rfl
              simp only [Act.put, List.setIfInBounds_toArray, List.set_cons_zero, List.set_cons_succ, List.getElem_toArray, List.getElem_cons_zero, List.getElem_cons_succ]
              refine wpAnyH_take (i := 21) (oi := _) (v := ?_) rfl (by kernel_rfl) (by kernel_rfl) (by kernel_rfl) (fun _ _ _ h => h) (Or.inl ⟨by rfl, ?_⟩) hS0 ?_
              rotate_left
              · intro W hSW
                try go_simp
                all_goals with_reducible rfl
              simp only [Act.put, List.setIfInBounds_toArray, List.set_cons_zero, List.set_cons_succ, List.getElem_toArray, List.getElem_cons_zero, List.getElem_cons_succ]
              refine wpAnyH_take (i := 22) (oi := _) (v := ?_) rfl (by kernel_rfl) (by kernel_rfl) (by kernel_rfl) (fun _ _ _ h => h) (Or.inl ⟨by rfl, ?_⟩) hS0 ?_
              rotate_left
              · intro W hSW
                obtain ⟨k1, k2, k3, k4, k5, k6, k7, k8⟩ := HC8.out W (BKD.out.transX (hkd.transX hSW))
                try go_simp
                all_goals with_reducible rfl
              simp only [Act.put, List.setIfInBounds_toArray, List.set_cons_zero, List.set_cons_succ, List.getElem_toArray, List.getElem_cons_zero, List.getElem_cons_succ]
              refine wpAnyH_take (i := 23) (oi := _) (v := ?_) rfl (by kernel_rfl) (by kernel_rfl) (by kernel_rfl) (fun _ _ _ h => h) (Or.inl ⟨by rfl, ?_⟩) hS0 ?_
              rotate_left
              · intro W hSW
                try go_simp
                all_goals with_reducible rfl
              simp only [Act.put, List.setIfInBounds_toArray, List.set_cons_zero, List.set_cons_succ, List.getElem_toArray, List.getElem_cons_zero, List.getElem_cons_succ]
              refine wpAnyH_take (i := 24) (oi := _) (v := .bool true) rfl (by kernel_rfl) (by kernel_rfl) (by kernel_rfl) (fun _ _ _ h => h) (Or.inl ⟨by rfl, ?_⟩) hS0 ?_
              skip
              · intro W hSW
                try go_simp
                all_goals first | with_reducible rfl | (simp; done) | omega | (simp; omega) | trace_state
              simp only [Act.put, List.setIfInBounds_toArray, List.set_cons_zero, List.set_cons_succ, List.getElem_toArray, List.getElem_cons_zero, List.getElem_cons_succ]
              refine wpAnyH_take (i := 25) (oi := _) (v := .bool true) rfl (by kernel_rfl) (by kernel_rfl) (by kernel_rfl) (fun _ _ _ h => h) (Or.inl ⟨by rfl, ?_⟩) hS0 ?_
              skip
              · intro W hSW
                try go_simp
                all_goals first | with_reducible rfl | (simp; done) | omega | (simp; omega) | trace_state
              simp only [Act.put, List.setIfInBounds_toArray, List.set_cons_zero, List.set_cons_succ, List.getElem_toArray, List.getElem_cons_zero, List.getElem_cons_succ]
              refine wpAnyH_take (i := 26) (oi := _) (v := ?_) rfl (by kernel_rfl) (by kernel_rfl) (by kernel_rfl) (fun _ _ _ h => h) (Or.inl ⟨by rfl, ?_⟩) hS0 ?_
              rotate_left
              · intro W hSW
                try go_simp
                all_goals with_reducible rfl
              simp only [Act.put, List.setIfInBounds_toArray, List.set_cons_zero, List.set_cons_succ, List.getElem_toArray, List.getElem_cons_zero, List.getElem_cons_succ]
              refine wpAnyH_take (i := 27) (oi := _) (v := ?_) rfl (by kernel_rfl) (by kernel_rfl) (by kernel_rfl) (fun _ _ _ h => h) (Or.inl ⟨by rfl, ?_⟩) hS0 ?_
              rotate_left
              · intro W hSW
                obtain ⟨k1, k2, k3, k4, k5, k6, k7, k8⟩ := HC8.out W (BKD.out.transX (hkd.transX hSW))
                try go_simp
                all_goals with_reducible rfl
              simp only [Act.put, List.setIfInBounds_toArray, List.set_cons_zero, List.set_cons_succ, List.getElem_toArray, List.getElem_cons_zero, List.getElem_cons_succ]
              refine wpAnyH_take (i := 30) (oi := _) (v := ?_) rfl (by kernel_rfl) (by kernel_rfl) (by kernel_rfl) (fun _ _ _ h => h) (Or.inl ⟨by rfl, ?_⟩) hS0 ?_
              rotate_left
              · intro W hSW
                try go_simp
                all_goals with_reducible rfl
              simp only [Act.put, List.setIfInBounds_toArray, List.set_cons_zero, List.set_cons_succ, List.getElem_toArray, List.getElem_cons_zero, List.getElem_cons_succ]
              refine wpAnyH_take (i := 31) (oi := _) (v := ?_) rfl (by kernel_rfl) (by kernel_rfl) (by kernel_rfl) (fun _ _ _ h => h) (Or.inl ⟨by rfl, ?_⟩) hS0 ?_
              rotate_left
              · intro W hSW
                obtain r1 := HB8.out W (BKD.out.transX (hkd.transX hSW))
                try go_simp
                all_goals with_reducible rfl
              simp only [Act.put, List.setIfInBounds_toArray, List.set_cons_zero, List.set_cons_succ, List.getElem_toArray, List.getElem_cons_zero, List.getElem_cons_succ]
              refine wpAnyH_take (i := 32) (oi := _) (v := ?_) rfl (by kernel_rfl) (by kernel_rfl) (by kernel_rfl) (fun _ _ _ h => h) (Or.inl ⟨by rfl, ?_⟩) hS0 ?_
              rotate_left
              · intro W hSW
                have cw := HCX.out W _ (HT8.out W (BKD.out.transX (hkd.transX hSW)))
                try go_simp
                all_goals with_reducible rfl
              simp only [Act.put, List.setIfInBounds_toArray, List.set_cons_zero, List.set_cons_succ, List.getElem_toArray, List.getElem_cons_zero, List.getElem_cons_succ]
              refine wpAnyH_ready (rs := [28]) (by kernel_rfl) (by simp) (AllReadyH.cons rfl (fun K hK => ?_) AllReadyH.nil)
              have DG := Lib.hid (HH3.out wQ.drew (BQD.out.trans (Below.mono hbd BQD.out.size)))
              go_simp
              go_wp2_with ((go_at_call 18; (with_reducible refine DG.out.mono ?_); rintro e wG ⟨vG, rfl, hoG, hbG⟩))
              have hqG := below_chain hbd hbd.size hbG
              have hkG := Kept.of_belowX hbG
              have hzG := hkd.transX hkG
              refine hK.out _ _ hkG (fun _ => ?_)
              clear hK K DG
              refine wpAnyH_stronger (S' := KepS wG) (fun W h => hkG.transX h) _ _ _ _ ?_
              have hSG : KepS wG wG := KepS.refl wG
              refine wpAnyH_take (i := 29) (oi := _) (v := ?_) rfl (by kernel_rfl) (by kernel_rfl) (by kernel_rfl) (fun _ _ _ h => h) (Or.inl ⟨by rfl, ?_⟩) hSG ?_
              rotate_left
              · intro W hSW
                have cw := HCX.out W _ (hSW.rd hoG.rd)
                try go_simp
                all_goals with_reducible rfl
              simp only [Act.put, List.setIfInBounds_toArray, List.set_cons_zero, List.set_cons_succ, List.getElem_toArray, List.getElem_cons_zero, List.getElem_cons_succ]
              refine wpAnyH_take (i := 33) (oi := _) (v := .bool false) rfl (by kernel_rfl) (by kernel_rfl) (by kernel_rfl) (fun _ _ _ h => h) (Or.inl ⟨by rfl, ?_⟩) hSG ?_
              skip
              · intro W hSW
                try go_simp
                all_goals first | with_reducible rfl | (simp; done) | omega | (simp; omega) | trace_state
              simp only [Act.put, List.setIfInBounds_toArray, List.set_cons_zero, List.set_cons_succ, List.getElem_toArray, List.getElem_cons_zero, List.getElem_cons_succ]
              refine wpAnyH_take (i := 34) (oi := _) (v := .bool false) rfl (by kernel_rfl) (by kernel_rfl) (by kernel_rfl) (fun _ _ _ h => h) (Or.inl ⟨by rfl, ?_⟩) hSG ?_
              skip
              · intro W hSW
                try go_simp
                all_goals first | with_reducible rfl | (simp; done) | omega | (simp; omega) | trace_state
              simp only [Act.put, List.setIfInBounds_toArray, List.set_cons_zero, List.set_cons_succ, List.getElem_toArray, List.getElem_cons_zero, List.getElem_cons_succ]
              refine wpAnyH_take (i := 35) (oi := _) (v := ?_) rfl (by kernel_rfl) (by kernel_rfl) (by kernel_rfl) (fun _ _ _ h => h) (Or.inl ⟨by rfl, ?_⟩) hSG ?_
              rotate_left
              · intro W hSW
                try go_simp
                all_goals with_reducible rfl
              simp only [Act.put, List.setIfInBounds_toArray, List.set_cons_zero, List.set_cons_succ, List.getElem_toArray, List.getElem_cons_zero, List.getElem_cons_succ]
              refine wpAnyH_take (i := 36) (oi := _) (v := ?_) rfl (by kernel_rfl) (by kernel_rfl) (by kernel_rfl) (fun _ _ _ h => h) (Or.inl ⟨by rfl, ?_⟩) hSG ?_
              rotate_left
              · intro W hSW
                obtain ⟨k1, k2, k3, k4, k5, k6, k7, k8⟩ := HC8.out W (BKD.out.transX (hzG.transX hSW))
                try go_simp
                all_goals with_reducible rfl
              simp only [Act.put, List.setIfInBounds_toArray, List.set_cons_zero, List.set_cons_succ, List.getElem_toArray, List.getElem_cons_zero, List.getElem_cons_succ]
              refine wpAnyH_take (i := 37) (oi := _) (v := ?_) rfl (by kernel_rfl) (by kernel_rfl) (by kernel_rfl) (fun _ _ _ h => h) (Or.inl ⟨by rfl, ?_⟩) hSG ?_
              rotate_left
              · intro W hSW
                try go_simp
                all_goals with_reducible rfl
              simp only [Act.put, List.setIfInBounds_toArray, List.set_cons_zero, List.set_cons_succ, List.getElem_toArray, List.getElem_cons_zero, List.getElem_cons_succ]
              refine wpAnyH_take (i := 38) (oi := _) (v := ?_) rfl (by kernel_rfl) (by kernel_rfl) (by kernel_rfl) (fun _ _ _ h => h) (Or.inl ⟨by rfl, ?_⟩) hSG ?_
              rotate_left
              · intro W hSW
                obtain ⟨k1, k2, k3, k4, k5, k6, k7, k8⟩ := HC8.out W (BKD.out.transX (hzG.transX hSW))
                try go_simp
                all_goals with_reducible rfl
              simp only [Act.put, List.setIfInBounds_toArray, List.set_cons_zero, List.set_cons_succ, List.getElem_toArray, List.getElem_cons_zero, List.getElem_cons_succ]
              refine wpAnyH_ready (rs := [39]) (by kernel_rfl) (by simp) (AllReadyH.cons rfl (fun K hK => ?_) AllReadyH.nil)
              have DD := Lib.hid (HT3.out wG (BQD.out.trans (Below.mono hqG BQD.out.size)))
              go_simp
              go_wp2_with ((go_at_call 20; (with_reducible refine DD.out.mono ?_); rintro e wD ⟨rfl, hbD⟩))
              have hqD := below_chain hqG hqG.size hbD
              have hkD := Kept.of_belowX hbD
              have hzD := hzG.transX hkD
              refine hK.out _ _ hkD (fun _ => ?_)
              clear hK K DD
              refine wpAnyH_stronger (S' := KepS wD) (fun W h => hkD.transX h) _ _ _ _ ?_
              have hSD : KepS wD wD := KepS.refl wD
              refine wpAnyH_take (i := 40) (oi := _) (v := .bool false) rfl (by kernel_rfl) (by kernel_rfl) (by kernel_rfl) (fun _ _ _ h => h) (Or.inl ⟨by rfl, ?_⟩) hSD ?_
              skip
              · intro W hSW
                try go_simp
                all_goals first | with_reducible rfl | (simp; done) | omega | (simp; omega) | trace_state
              simp only [Act.put, List.setIfInBounds_toArray, List.set_cons_zero, List.set_cons_succ, List.getElem_toArray, List.getElem_cons_zero, List.getElem_cons_succ]
              refine wpAnyH_take (i := 41) (oi := _) (v := .bool false) rfl (by kernel_rfl) (by kernel_rfl) (by kernel_rfl) (fun _ _ _ h => h) (Or.inl ⟨by rfl, ?_⟩) hSD ?_
              skip
              · intro W hSW
                try go_simp
                all_goals first | with_reducible rfl | (simp; done) | omega | (simp; omega) | trace_state
              simp only [Act.put, List.setIfInBounds_toArray, List.set_cons_zero, List.set_cons_succ, List.getElem_toArray, List.getElem_cons_zero, List.getElem_cons_succ]
              refine wpAnyH_take (i := 42) (oi := _) (v := .bool false) rfl (by kernel_rfl) (by kernel_rfl) (by kernel_rfl) (fun _ _ _ h => h) (Or.inl ⟨by rfl, ?_⟩) hSD ?_
              skip
              · intro W hSW
                try go_simp
                all_goals first | with_reducible rfl | (simp; done) | omega | (simp; omega) | trace_state
              simp only [Act.put, List.setIfInBounds_toArray, List.set_cons_zero, List.set_cons_succ, List.getElem_toArray, List.getElem_cons_zero, List.getElem_cons_succ]
              refine wpAnyH_take (i := 43) (oi := _) (v := .bool false) rfl (by kernel_rfl) (by kernel_rfl) (by kernel_rfl) (fun _ _ _ h => h) (Or.inl ⟨by rfl, ?_⟩) hSD ?_
              skip
              · intro W hSW
                try go_simp
                all_goals first | with_reducible rfl | (simp; done) | omega | (simp; omega) | trace_state
              simp only [Act.put, List.setIfInBounds_toArray, List.set_cons_zero, List.set_cons_succ, List.getElem_toArray, List.getElem_cons_zero, List.getElem_cons_succ]
              refine wpAnyH_done (by kernel_rfl) ?_ _
              have hfin := HLX.out _ (HDW.out.1.trans (Below.mono (BQD.out.trans (Below.mono hqD BQD.out.size)) HDW.out.1.size))
              clear HLX HLS HBN HCX HV8 HT8 HC8 HB8 HMK HTK HPV HUA HLN HVH HQU BQD BKD HDW hbd hkd hS0 hw1 q9 z1 z2 HH3 HT3 hbG hqG hkG hzG hoG hSG hbD hqD hkD hzD hSD
              go_wp2_with fail
              exact ⟨⟨j + 1, by omega, by simp, hfin⟩, by simp [intOf]; omega⟩
          · have zE : (E != 0) = true := by simpa using hE
            have hbn := HF3.out.1 hE
            clear hbn
            have hfin := HLS.out _ HBN.out
            clear HF3 HF4 HLX HLS HBN HCB HRX HMK HTK HCK HPV HFQ HR1 HUA HLC hE
            go_wp2_with fail
            exact ⟨⟨j + 1, by omega, by simp, hfin⟩, by simp [intOf]; omega⟩
      · have hjn : j = n := by omega
        have i2 : ¬ (j : Int) < (n : Int) := by omega
        subst hjn
        have hqf := HX0.bel
        clear HX0
        go_wp2_with fail
        go_ret
        exact ⟨rfl, hqf⟩
end Go.Proofs.YtmphegeiclgjbaaGreatDoor
