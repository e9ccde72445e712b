
/- The law StoreHistory, walked. -/
import Derived.Test.YtohnhdandkkonaaDoorStoH
import Derived.Test.YtohnhdandkkonaaDoorHeldBy
import Derived.StillTailTactics
namespace Go.Proofs.YtohnhdandkkonaaDoor
set_option maxRecDepth 100000
open Go Go.RowKit
set_option linter.unusedVariables false

/-- the store beside, in the midst -/
def HidS (B : Nat) (W : World) (ps : List Pr) (zb zm k : Nat) (y : Lyr) (P : List Pr → Prop) : Prop :=
  ∃ zn zf T, OneS B W y ⟨zb, zm, zn, zf⟩ ∧ HisI ps ⟨zb, zm, zn, zf⟩ T ∧ zn ≤ k ∧ P T
def wOther : List UInt8 := [111, 116, 104, 101, 114]

theorem wrap64_is (n : Int) (h : -9223372036854775808 ≤ n ∧ n ≤ 9223372036854775807) : wrap64 n = n := by unfold wrap64; omega
set_option maxHeartbeats 32000000 in
theorem history_law (w : World) (v vo : Value) (ps : List Pr) (ord : List Int) (key : ByteArray) (hr : RdP w w.heap.size v ps) (hnl : ∀ p ∈ ps, p.1.size ≤ maxLen) (hn1 : ps.length ≤ 2000000) (hro : RdI w w.heap.size vo ord) (hno : ord.length ≤ 2000000) (hks : key.size ≤ maxLen) (fr : TypeId × Nat × Nat) (hk : w.heap[2]? = some (.cells kVals fr.1 fr.2)) (fr2 : TypeId × Nat × Nat) (hk2 : w.heap[0]? = some (.cells kVals fr2.1 fr2.2)) :
    Calls Tryd.prog 3 #[v, vo, .string key] w fun e w' => e = .returned (.bool true) ∧ Below w.heap.size w w' := by
  have hn0 := blk_lt hk
  have hn2 := blk_lt hk2
  have HK := Lib.hid hk
  have HK2 := Lib.hid hk2
  have HNEW := Lib.hid (new_any w v ps hr hnl)
  have HRR := Lib.hid (fun (W : World) (hb : Below w.heap.size w W) => rroot_any W v ps ((hr.below hb).more hb.size) hnl fr2 ((hb.block _ hn2).trans hk2))
  obtain ⟨n, hn⟩ : ∃ n, n = ps.length := ⟨_, rfl⟩
  obtain ⟨q, hq⟩ : ∃ q, q = ord.length := ⟨_, rfl⟩
  obtain ⟨A, c, rfl, hc, hm, hp⟩ := hr
  obtain ⟨Ao, co, rfl, hco, hmo, hpo⟩ := hro
  unfold maxLen at hm hmo
  rw [← hn] at hn1 hc HNEW HRR ⊢
  rw [← hq] at hno hco ⊢
  have HN := Lib.hid hn
  have HQ := Lib.hid hq
  have HP := Lib.hid hp
  have HPO := Lib.hid hpo
  have HNL := Lib.hid hnl
  clear hn hq hp hpo hnl hk hk2
  go_enter Tryd.func3, Tryd.ntmps3
  go_wp2_with fail
  refine HNEW.out.mono ?_
  clear HNEW
  rintro e w1 ⟨hres, hb1⟩
  have HN0 := Lib.hid (new_any w1 (.slice none 0 0) [] ⟨none, 0, rfl, by simp, by simp [maxLen], fun h => absurd h (by simp)⟩ (by simp))
  rcases hres with ⟨h1, rfl⟩ | ⟨h1, y, rfl, hyb, hym, hyn, hly, hri, hp1⟩
  · clear h1
    go_wp2_with fail
    refine HN0.out.mono ?_
    rintro e w2 ⟨⟨h2, -⟩ | ⟨-, z, rfl, -, -, -, -, -, -⟩, hb2⟩
    · cases h2
    have hq2 := below_chain hb1 hb1.size hb2
    clear HN0 hb2
    go_wp2_with fail
    refine (sfixed_any w2).mono ?_
    rintro e w3 ⟨rfl, hb3⟩
    have hq3 := below_chain hq2 hq2.size hb3
    go_wp2_with fail
    refine (sfixed_any w3).mono ?_
    rintro e w4 ⟨rfl, hb4⟩
    have hq4 := below_chain hq3 hq3.size hb4
    go_wp2_with fail
    go_ret
    exact ⟨rfl, hq4⟩
  · obtain ⟨yb, ym, yn, yf⟩ := y
    have HORD := Lib.hid h1
    have HP1 := Lib.hid hp1
    have HLY := Lib.hid (And.intro hyn (And.intro hly hri))
    clear hyn hly hri hp1 hyb hym h1
    go_wp2_with fail
    refine HN0.out.mono ?_
    rintro e w2 ⟨⟨h2, -⟩ | ⟨-, z, rfl, hzb, hzm, hzn, hlz, -, hp2⟩, hb2⟩
    · cases h2
    obtain ⟨zb, zm, zn, zf⟩ := z
    have hq2 := below_chain hb1 hb1.size hb2
    have H2 : Hid (HidS w.heap.size w2 ps zb zm 0 ⟨yb, ym, yn, yf⟩ (fun _ => True)) := Lib.hid (by
      have hyl : ym < w1.heap.size := HP1.out.1.lt.2
      have h1 := hb1.size
      refine ⟨zn, zf, [], ⟨HP1.out.up hb2, hp2, ?_, ?_, hq2.size⟩, ⟨hlz.m, by simp [Rise], by simp, fun s _ => rfl⟩, Nat.le_of_eq hzn, trivial⟩
      · dsimp only at hzm; show ym ≠ zm; omega
      · dsimp only at hzm; show w.heap.size ≤ zm; omega)
    clear hzb hzm hzn hlz hp2 HN0 hb1 hb2 HP1
    go_wp2_with fail
    refine (sfixed_any w2).mono ?_
    rintro e w3 ⟨rfl, hb3⟩
    have hq3 := below_chain hq2 hq2.size hb3
    have H3 : Hid (HidS w.heap.size w3 ps zb zm 0 ⟨yb, ym, yn, yf⟩ (fun _ => True)) := Lib.hid (by obtain ⟨zn, zf, T, a, b, c, d⟩ := H2.out; exact ⟨zn, zf, T, a.up hb3, b, c, d⟩)
    clear H2 hb3 hq2
    go_wp2_with fail
    go_loopw [53] (fun iv W => ∃ k : Nat, k ≤ q ∧ iv = .int .i64 (k : Int) ∧ Below w.heap.size w W ∧ Hid (HidS w.heap.size W ps zb zm k ⟨yb, ym, yn, yf⟩ (fun _ => True)))
      (fun iv _ => q - (intOf iv).toNat)
    case atStart => exact ⟨0, Nat.zero_le _, rfl, hq3, H3⟩
    case round =>
      rename World => W
      clear hq3 H3
      obtain ⟨k, hkq, rfl, hbW, HM⟩ := hrel
      by_cases hlt : k < q
      · have hkl : k < ord.length := by have := HQ.out; omega
        obtain ⟨b, o, rfl, hbl, hcell⟩ := HPO.out (by omega)
        have a1 := (hbW.cell (p := ⟨b, o + k, none⟩) hbl).trans (hcell k hkl)
        have i1 : (0 : Int) ≤ (k : Int) := by omega
        have i2 : (k : Int) < (q : Int) := by omega
        clear hcell
        generalize ord[k] = x at *
        by_cases hn : 0 < n
        · have j1 : (0 : Int) < (n : Int) := by omega
          obtain ⟨j, hj, hjn⟩ : ∃ j : Nat, wrap64 ((IntKind.u64.wrap x).tmod (n : Int)) = (j : Int) ∧ j < n := by
            have h1 : 0 ≤ IntKind.u64.wrap x := by rw [IntKind.wrap_u64]; omega
            have h2 : (IntKind.u64.wrap x).tmod (n : Int) = IntKind.u64.wrap x % (n : Int) := Int.tmod_eq_emod_of_nonneg h1
            have h3 := Int.emod_nonneg (IntKind.u64.wrap x) (show (n : Int) ≠ 0 by omega)
            have h4 := Int.emod_lt_of_pos (IntKind.u64.wrap x) (show (0 : Int) < (n : Int) by omega)
            refine ⟨(IntKind.u64.wrap x % (n : Int)).toNat, ?_, by omega⟩
            rw [h2, wrap64_is _ (by omega)]
            omega
          have hjl : j < ps.length := by have := HN.out; omega
          obtain ⟨bp, op, rfl, hbpl, hpcell⟩ := HP.out (by omega)
          obtain ⟨q1, xv, q2, q3⟩ := hpcell j hjl
          have a2 := (hbW.cell (p := ⟨bp, op + j * 2, none⟩) hbpl).trans q1
          have a3 := (hbW.cell (p := ⟨bp, op + j * 2 + 1, none⟩) hbpl).trans q2
          have hsz := HNL.out _ (List.getElem_mem hjl)
          have hpr := (ordR_all ps none HORD.out ps[j] (List.getElem_mem hjl)).1
          have hin : getL ps ps[j].1 ≠ none := by rw [HLY.out.2.2.get (List.getElem_mem hjl)]; simp
          have i3 : (0 : Int) ≤ (j : Int) := by omega
          have i4 : (j : Int) < (n : Int) := by omega
          obtain ⟨Ax, cx, rfl⟩ := q3.form
          clear hpcell q1 q2 q3
          generalize ps[j] = pj at *
          obtain ⟨s, l⟩ := pj
          dsimp only at a2 a3 hsz hin
          have hpo : pairB (s, wOther) = true := by
            have : keyB s = true := by simp only [pairB, Bool.and_eq_true] at hpr; exact hpr.1
            simp [pairB, this, wOther]
          have hb1 : Below W.heap.size W (W.alloc (.cells #[.string s, .slice Ax l.length cx] 31)) := (Below.refl _ _).alloc (Nat.le_refl _) _
          have hYs : (W.alloc (.cells #[.string s, .slice Ax l.length cx] 31)).heap.size = W.heap.size + 1 := by simp
          have hgz := heap_alloc_new W (.cells #[.string s, .slice Ax l.length cx] 31)
          have z0 : (W.alloc (.cells #[.string s, .slice Ax l.length cx] 31)).cell? ⟨W.heap.size, 0, none⟩ = some (.string s) := blk_cell hgz 0
          have hcv := run_convert_made (P := Tryd.prog) (w := (W.alloc (.cells #[.string s, .slice Ax l.length cx] 31))) 29 #[.int .u8 111, .int .u8 116, .int .u8 104, .int .u8 101, .int .u8 114] 5 5 Tryd.underlying29 Tryd.underlying5
          have hb2 : Below (W.alloc (.cells #[.string s, .slice Ax l.length cx] 31)).heap.size (W.alloc (.cells #[.string s, .slice Ax l.length cx] 31)) ((W.alloc (.cells #[.string s, .slice Ax l.length cx] 31)).alloc (.cells #[.int .u8 111, .int .u8 116, .int .u8 104, .int .u8 101, .int .u8 114] 5 (5, 6))) := (Below.refl _ _).alloc (Nat.le_refl _) _
          have hrO := rd_lit_fr (W.alloc (.cells #[.string s, .slice Ax l.length cx] 31)) #[.int .u8 111, .int .u8 116, .int .u8 104, .int .u8 101, .int .u8 114] wOther 5 (5, 6) rfl (by simp [bcells, bval, wOther]) (by simp [maxLen])
          have hbz := below_chain hb1 hb1.size hb2
          have hbZ := below_chain hbW hbW.size hbz
          obtain ⟨zn, zf, T, hT, hI, hzn, -⟩ := HM.out
          have hZn : zn < maxLen := by unfold maxLen; omega
          have HSET := Lib.hid ((hT.up hbz).setZ hZn s hsz _ wOther (hrO.more (by simp)))
          rw [hYs] at hcv HSET
          obtain ⟨zn2, zf2, hz2, hzn2⟩ := setIf_form ⟨zb, zm, zn, zf⟩ s wOther
          have HI2 : Hid (HisI ps ⟨zb, zm, zn2, zf2⟩ (putL (s, some wOther) T)) := Lib.hid (by have := hI.set hsz wOther hpo hin; rw [hz2] at this; exact this)
          rw [hz2] at HSET
          have hzk : zn2 ≤ k + 1 := Nat.le_trans hzn2 (Nat.succ_le_succ hzn)
          clear hT hI hz2 hzn2 hgz hb1 hb2 hrO hbz HM hin hpr hpo
          go_wp2_with fail
          refine HSET.out.mono ?_
          rintro e w5 ⟨⟨E, rfl⟩, ht5, hb5⟩
          have hq5 := hbZ.trans hb5
          have HM5 : Hid (HidS w.heap.size w5 ps zb zm (k + 1) ⟨yb, ym, yn, yf⟩ (fun _ => True)) := Lib.hid ⟨_, _, _, ht5, HI2.out, hzk, trivial⟩
          clear ht5 hb5 HSET hcv
          go_wp2_with fail
          exact ⟨⟨k + 1, by omega, by go_num, hq5, HM5⟩, by simp [intOf]; omega⟩
        · have j1 : ¬ (0 : Int) < (n : Int) := by omega
          have HM2 : Hid (HidS w.heap.size W ps zb zm (k + 1) ⟨yb, ym, yn, yf⟩ (fun _ => True)) := Lib.hid (by obtain ⟨zn, zf, T, a, b, c, d⟩ := HM.out; exact ⟨zn, zf, T, a, b, Nat.le_succ_of_le c, d⟩)
          go_wp2_with fail
          exact ⟨⟨k + 1, by omega, by go_num, hbW, HM2⟩, by simp [intOf]; omega⟩
      · have i2 : ¬ (k : Int) < (q : Int) := by omega
        have hw0 : IntKind.i64.wrap ((n : Int) - 1) = (n : Int) - 1 := by rw [IntKind.wrap_i64]; omega
        have H0 : Hid (HidS w.heap.size W ps zb zm (k + 0) ⟨yb, ym, yn, yf⟩ (fun T => ∀ (j : Nat) (hj : j < ps.length), n ≤ j → getL T ps[j].1 = some ps[j].2)) := Lib.hid (by obtain ⟨zn, zf, T, a, b, c, d⟩ := HM.out; exact ⟨zn, zf, T, a, b, c, fun j hj h => by have := HN.out; omega⟩)
        clear HM
        go_wp2_with fail
        go_loopw [14] (fun iv Z => ∃ r : Nat, r ≤ n ∧ iv = .int .i64 ((r : Int) - 1) ∧ Below w.heap.size w Z ∧ Hid (HidS w.heap.size Z ps zb zm (k + (n - r)) ⟨yb, ym, yn, yf⟩ (fun T => ∀ (j : Nat) (hj : j < ps.length), r ≤ j → getL T ps[j].1 = some ps[j].2)))
          (fun iv _ => (intOf iv + 1).toNat)
        case atStart => exact ⟨n, Nat.le_refl _, rfl, hbW, by rw [Nat.sub_self]; exact H0⟩
        case round =>
          rename World => Z
          clear H0
          obtain ⟨r, hrn, rfl, hbZ, HM⟩ := hrel
          by_cases hr0 : 0 < r
          · obtain ⟨m, rfl⟩ : ∃ m, r = m + 1 := ⟨r - 1, by omega⟩
            have hml : m < ps.length := by have := HN.out; omega
            have e1 : (((m + 1 : Nat) : Int) - 1) = (m : Int) := by omega
            rw [e1]
            obtain ⟨bp, op, rfl, hbpl, hpcell⟩ := HP.out (by omega)
            obtain ⟨q1, xv, q2, q3⟩ := hpcell m hml
            have a2 : Z.drew.cell? ⟨bp, op + m * 2, none⟩ = _ := (hbZ.cell (p := ⟨bp, op + m * 2, none⟩) hbpl).trans q1
            have a3 : Z.drew.cell? ⟨bp, op + m * 2 + 1, none⟩ = _ := (hbZ.cell (p := ⟨bp, op + m * 2 + 1, none⟩) hbpl).trans q2
            have b2 : Z.cell? ⟨bp, op + m * 2, none⟩ = _ := a2
            have b3 : Z.cell? ⟨bp, op + m * 2 + 1, none⟩ = _ := a3
            have hsz := HNL.out _ (List.getElem_mem hml)
            have hpr := (ordR_all ps none HORD.out ps[m] (List.getElem_mem hml)).1
            have hin : getL ps ps[m].1 ≠ none := by rw [HLY.out.2.2.get (List.getElem_mem hml)]; simp
            have i3 : (0 : Int) ≤ (m : Int) := by omega
            have i4 : (m : Int) < (n : Int) := by omega
            have hxr := ((q3.below hbZ).more hbZ.size).up (Nat.le_refl _) ((Below.refl Z.heap.size Z).drew)
            obtain ⟨Ax, cx, rfl⟩ := q3.form
            obtain ⟨zn, zf, T, hT, hI, hzn, hTj⟩ := HM.out
            have hZn : zn < maxLen := by unfold maxLen; omega
            have HSET := Lib.hid ((hT.up ((Below.refl Z.heap.size Z).drew)).setZ hZn ps[m].1 hsz _ ps[m].2 hxr)
            obtain ⟨zn2, zf2, hz2, hzn2⟩ := setIf_form ⟨zb, zm, zn, zf⟩ ps[m].1 ps[m].2
            have HI2 : Hid (HisI ps ⟨zb, zm, zn2, zf2⟩ (putL (ps[m].1, some ps[m].2) T)) := Lib.hid (by have := hI.set hsz ps[m].2 hpr hin; rw [hz2] at this; exact this)
            rw [hz2] at HSET
            have HTJ : Hid (∀ (j : Nat) (hj : j < ps.length), m ≤ j → getL (putL (ps[m].1, some ps[m].2) T) ps[j].1 = some ps[j].2) := Lib.hid fun j hj h => by
              rw [getL_putL]
              by_cases e : j = m
              · subst e; simp
              · have hlt : ltS ps[m].1 ps[j].1 = true := List.pairwise_iff_getElem.1 HLY.out.2.2 m j hml hj (by omega)
                have hne : ¬ ps[j].1 = ps[m].1 := fun h => ltS_ne hlt h.symm
                rw [if_neg hne]
                exact hTj j hj (by omega)
            have hzk : zn2 ≤ k + (n - m) := by have h2 : zn2 ≤ zn + 1 := hzn2; omega
            clear hpcell q1 q2 q3 hT hI hz2 hzn2 HM hin hpr hTj hxr
            generalize ps[m].1 = s at *
            generalize ps[m].2 = l at *
            go_wp2_with fail
            go_still_tail 11, (by kernel_rfl)
            change wpList _ _ _ _ _ Z.drew
            go_wp2_with fail
            refine HSET.out.mono ?_
            rintro e w5 ⟨⟨E, rfl⟩, ht5, hb5⟩
            have hq5 := (hbZ.drew).trans hb5
            have HM5 : Hid (HidS w.heap.size w5 ps zb zm (k + (n - m)) ⟨yb, ym, yn, yf⟩ (fun T => ∀ (j : Nat) (hj : j < ps.length), m ≤ j → getL T ps[j].1 = some ps[j].2)) := Lib.hid ⟨_, _, _, ht5, HI2.out, hzk, HTJ.out⟩
            have hw1 : IntKind.i64.wrap ((m : Int) - 1) = (m : Int) - 1 := by rw [IntKind.wrap_i64]; omega
            clear ht5 hb5 HSET
            go_wp2_with fail
            exact ⟨⟨m, by omega, rfl, hq5, HM5⟩, by simp [intOf]⟩
          · obtain rfl : r = 0 := by omega
            have e0 : (((0 : Nat) : Int) - 1) = -1 := rfl
            rw [e0]
            obtain ⟨zn, zf, T, hT, hI, hzn, hTj⟩ := HM.out
            have hTp : T = ps := hI.whole HLY.out.2.2 (fun j hj => hTj j hj (Nat.zero_le _))
            rw [hTp] at hI
            have hlz0 := hI.hz
            have hznb : zn ≤ 4000000 := by omega
            have hyv : visV [⟨yb, ym, yn, yf⟩] key = getL ps key := visV_bot HLY.out.2.1 key
            have hGT := get_any hT.hp key hks
            rw [hyv] at hGT
            clear hI hTj hTp HM hyv e0
            cases hg : getL ps key with
            | some u =>
              rw [hg] at hGT
              have HGT : Hid (Calls Tryd.prog 9 #[.pointer (some ⟨yb, 0, none⟩), .string key] Z fun e w' => ∃ v, e = .returned (.tuple #[v, .bool true]) ∧ Own w' Z.heap.size v u ∧ Below Z.heap.size Z w') := Lib.hid hGT
              clear hGT hg
              go_wp2_with fail
              refine HGT.out.mono ?_
              rintro e WT ⟨v5, rfl, ho5, hb5⟩
              obtain ⟨A5, c5, rfl⟩ := ho5.form
              have hqT := below_chain hbZ hbZ.size hb5
              obtain ⟨zn3, zf3, hT3, hlz, hz3⟩ : ∃ zn3 zf3, OneS w.heap.size WT ⟨yb, ym, yn, yf⟩ ⟨zb, zm, zn3, zf3⟩ ∧ LyrM ps ⟨zb, zm, zn3, zf3⟩ ∧ zn3 ≤ 5000000 := ⟨zn, zf, hT.up hb5, hlz0, by omega⟩
              clear ho5 hb5 hT hlz0 hznb hzn HGT
              go_wp2_with fail
              refine (HRR.out WT hqT).mono ?_
              rintro e wR ⟨vR, rfl, hoR, hbR⟩
              have hqR := below_chain hqT hqT.size hbR
              have hyn : yn = n := HLY.out.1
              have hsy : SeenL ⟨#[]⟩ [⟨yb, ym, yn, yf⟩] ps := seen_bot0 HLY.out.2.1 HLY.out.2.2 HNL.out
              have hsz : SeenL ⟨#[]⟩ [⟨zb, zm, zn3, zf3⟩] ps := seen_botM hlz HLY.out.2.2 HNL.out
              have hyn2 : sumN [⟨yb, ym, yn, yf⟩] ≤ 1000000000 := by simp [sumN]; omega
              have hzn2 : sumN [⟨zb, zm, zn3, zf3⟩] ≤ 1000000000 := by simp [sumN]; omega
              have hs0 : (⟨#[]⟩ : ByteArray).size ≤ maxLen := by decide +kernel
              have hTR := hT3.up hbR
              have HPA : Hid (∀ Z, Below wR.heap.size wR Z → Calls Tryd.prog 14 #[.pointer (some ⟨yb, 0, none⟩), .string ⟨#[]⟩] Z fun e w' => ∃ v, e = .returned v ∧ OutP w' Z.heap.size v ps ∧ Below Z.heap.size Z w') := Lib.hid fun Z hZ => pairs_any (hTR.hp.up hZ) hyn2 ⟨#[]⟩ hs0 hsy
              have HPB : Hid (∀ Z, Below wR.heap.size wR Z → Calls Tryd.prog 14 #[.pointer (some ⟨zb, 0, none⟩), .string ⟨#[]⟩] Z fun e w' => ∃ v, e = .returned v ∧ OutP w' Z.heap.size v ps ∧ Below Z.heap.size Z w') := Lib.hid fun Z hZ => pairs_any (hTR.hq.up hZ) hzn2 ⟨#[]⟩ hs0 hsz
              have HRA : Hid (∀ Z, Below wR.heap.size wR Z → Calls Tryd.prog 12 #[.pointer (some ⟨yb, 0, none⟩)] Z fun e w' => ∃ v, e = .returned v ∧ Own w' Z.heap.size v (rootM ps).1 ∧ Below Z.heap.size Z w') := Lib.hid fun Z hZ => sroot_any (hTR.hp.up hZ) hyn2 hsy fr (((below_chain hqR hqR.size hZ).block _ hn0).trans HK.out)
              have HRB : Hid (∀ Z, Below wR.heap.size wR Z → Calls Tryd.prog 12 #[.pointer (some ⟨zb, 0, none⟩)] Z fun e w' => ∃ v, e = .returned v ∧ Own w' Z.heap.size v (rootM ps).1 ∧ Below Z.heap.size Z w') := Lib.hid fun Z hZ => sroot_any (hTR.hq.up hZ) hzn2 hsz fr (((below_chain hqR hqR.size hZ).block _ hn0).trans HK.out)
              have HSM : Hid (∀ (Z : World) (a b : Value), RdP Z Z.heap.size a ps → RdP Z Z.heap.size b ps → Calls Tryd.prog 13 #[a, b] Z fun e w' => e = .returned (.bool true) ∧ Below Z.heap.size Z w') := Lib.hid fun Z a b ha hb => by have := samePs_any Z a b ps ps ha hb; rw [decide_eq_true rfl] at this; exact this
              obtain ⟨SR, hSR⟩ : ∃ SR : ByteArray, SR = ⟨(rootM ps).1.toArray⟩ := ⟨_, rfl⟩
              have HCS : Hid (∀ (Z : World) (v : Value), Rd Z Z.heap.size v (rootM ps).1 → (convert 29 9 v).run Tryd.prog Z = .ok (.string SR) Z) := Lib.hid fun Z v h => by rw [hSR]; exact run_str Tryd.underlying29 Tryd.underlying5 Tryd.isString h
              have hE : (rootM ps).2 = 0 ∨ (rootM ps).2 = 60 := by unfold rootM; split <;> simp
              have hbd : Below wR.heap.size wR wR.drew := (Below.refl _ _).drew
              clear hTR hsy hsz hyn hyn2 hzn2 hs0 hSR hT3 hlz hz3 HRR
              generalize (rootM ps).1 = RT at *
              generalize (rootM ps).2 = EE at *
              rcases hE with rfl | rfl
              · skip
                go_wp2_with fail
                refine wp_region_held_drew (S := BelS wR.drew) (by kernel_rfl) (BelS.refl _) (fun hS0 => ?_)
                refine wpAnyH_take (i := 0) (oi := _) (v := ?_) rfl (by kernel_rfl) (by kernel_rfl) (by kernel_rfl) (fun _ _ _ h => h) (Or.inl ⟨by rfl, ?_⟩) hS0 ?_
                rotate_left
                · intro W hSW
                  try go_simp
                  all_goals with_reducible rfl
                simp only [Act.put, List.setIfInBounds_toArray, List.set_cons_zero, List.set_cons_succ, List.getElem_toArray, List.getElem_cons_zero, List.getElem_cons_succ]
                refine wpAnyH_take (i := 3) (oi := _) (v := ?_) rfl (by kernel_rfl) (by kernel_rfl) (by kernel_rfl) (fun _ _ _ h => h) (Or.inl ⟨by rfl, ?_⟩) hS0 ?_
                rotate_left
                · intro W hSW
                  try go_simp
                  all_goals with_reducible rfl
                simp only [Act.put, List.setIfInBounds_toArray, List.set_cons_zero, List.set_cons_succ, List.getElem_toArray, List.getElem_cons_zero, List.getElem_cons_succ]
                refine wpAnyH_ready (rs := [1]) (by kernel_rfl) (by simp) (AllReadyH.cons rfl (fun K hK => ?_) AllReadyH.nil)
                have DA := Lib.hid (HRA.out _ hbd)
                go_simp
                go_wp2_with ((go_at_call 12; (with_reducible refine DA.out.mono ?_); rintro e wA ⟨vA, rfl, hoA, hbA⟩))
                have hqA := below_chain hbd hbd.size hbA
                refine hK.out _ _ hbA (fun _ => ?_)
                clear hK K
                refine wpAnyH_stronger (S' := BelS wA) (fun W h => below_chain hbA hbA.size h) _ _ _ _ ?_
                have hSA : BelS wA wA := BelS.refl wA
                refine wpAnyH_take (i := 2) (oi := _) (v := ?_) rfl (by kernel_rfl) (by kernel_rfl) (by kernel_rfl) (fun _ _ _ h => h) (Or.inl ⟨by rfl, ?_⟩) hSA ?_
                rotate_left
                · intro W hSW
                  have cv := HCS.out W _ (hoA.rd.up (Nat.le_refl _) hSW)
                  try go_simp
                  all_goals with_reducible rfl
                simp only [Act.put, List.setIfInBounds_toArray, List.set_cons_zero, List.set_cons_succ, List.getElem_toArray, List.getElem_cons_zero, List.getElem_cons_succ]
                refine wpAnyH_ready (rs := [4]) (by kernel_rfl) (by simp) (AllReadyH.cons rfl (fun K hK => ?_) AllReadyH.nil)
                have DB := Lib.hid (HRB.out _ hqA)
                go_simp
                go_wp2_with ((go_at_call 12; (with_reducible refine DB.out.mono ?_); rintro e wB ⟨vB, rfl, hoB, hbB⟩))
                have hqB := below_chain hqA hqA.size hbB
                refine hK.out _ _ hbB (fun _ => ?_)
                clear hK K
                refine wpAnyH_stronger (S' := BelS wB) (fun W h => below_chain hbB hbB.size h) _ _ _ _ ?_
                have hSB : BelS wB wB := BelS.refl wB
                refine wpAnyH_take (i := 5) (oi := _) (v := ?_) rfl (by kernel_rfl) (by kernel_rfl) (by kernel_rfl) (fun _ _ _ h => h) (Or.inl ⟨by rfl, ?_⟩) hSB ?_
                rotate_left
                · intro W hSW
                  have cv := HCS.out W _ (hoB.rd.up (Nat.le_refl _) hSW)
                  try go_simp
                  all_goals with_reducible rfl
                simp only [Act.put, List.setIfInBounds_toArray, List.set_cons_zero, List.set_cons_succ, List.getElem_toArray, List.getElem_cons_zero, List.getElem_cons_succ]
                refine wpAnyH_take (i := 6) (oi := _) (v := ?_) rfl (by kernel_rfl) (by kernel_rfl) (by kernel_rfl) (fun _ _ _ h => h) (Or.inl ⟨by rfl, ?_⟩) hSB ?_
                rotate_left
                · intro W hSW
                  try go_simp
                  all_goals with_reducible rfl
                simp only [Act.put, List.setIfInBounds_toArray, List.set_cons_zero, List.set_cons_succ, List.getElem_toArray, List.getElem_cons_zero, List.getElem_cons_succ]
                refine wpAnyH_take (i := 7) (oi := _) (v := ?_) rfl (by kernel_rfl) (by kernel_rfl) (by kernel_rfl) (fun _ _ _ h => h) (Or.inl ⟨by rfl, ?_⟩) hSB ?_
                rotate_left
                · intro W hSW
                  try go_simp
                  all_goals with_reducible rfl
                simp only [Act.put, List.setIfInBounds_toArray, List.set_cons_zero, List.set_cons_succ, List.getElem_toArray, List.getElem_cons_zero, List.getElem_cons_succ]
                refine wpAnyH_take (i := 8) (oi := _) (v := ?_) rfl (by kernel_rfl) (by kernel_rfl) (by kernel_rfl) (fun _ _ _ h => h) (Or.inl ⟨by rfl, ?_⟩) hSB ?_
                rotate_left
                · intro W hSW
                  try go_simp
                  all_goals with_reducible rfl
                simp only [Act.put, List.setIfInBounds_toArray, List.set_cons_zero, List.set_cons_succ, List.getElem_toArray, List.getElem_cons_zero, List.getElem_cons_succ]
                refine wpAnyH_take (i := 10) (oi := _) (v := ?_) rfl (by kernel_rfl) (by kernel_rfl) (by kernel_rfl) (fun _ _ _ h => h) (Or.inl ⟨by rfl, ?_⟩) hSB ?_
                rotate_left
                · intro W hSW
                  try go_simp
                  all_goals with_reducible rfl
                simp only [Act.put, List.setIfInBounds_toArray, List.set_cons_zero, List.set_cons_succ, List.getElem_toArray, List.getElem_cons_zero, List.getElem_cons_succ]
                refine wpAnyH_ready (rs := [9]) (by kernel_rfl) (by simp) (AllReadyH.cons rfl (fun K hK => ?_) AllReadyH.nil)
                have DC := Lib.hid (HPA.out _ hqB)
                go_simp
                go_wp2_with ((go_at_call 14; (with_reducible refine DC.out.mono ?_); rintro e wC ⟨vC, rfl, hoC, hbC⟩))
                have hqC := below_chain hqB hqB.size hbC
                refine hK.out _ _ hbC (fun _ => ?_)
                clear hK K
                refine wpAnyH_stronger (S' := BelS wC) (fun W h => below_chain hbC hbC.size h) _ _ _ _ ?_
                have hSC : BelS wC wC := BelS.refl wC
                refine wpAnyH_ready (rs := [11]) (by kernel_rfl) (by simp) (AllReadyH.cons rfl (fun K hK => ?_) AllReadyH.nil)
                have DD := Lib.hid (HPB.out _ hqC)
                go_simp
                go_wp2_with ((go_at_call 14; (with_reducible refine DD.out.mono ?_); rintro e wD ⟨vD, rfl, hoD, hbD⟩))
                have hqD := below_chain hqC hqC.size hbD
                refine hK.out _ _ hbD (fun _ => ?_)
                clear hK K
                refine wpAnyH_stronger (S' := BelS wD) (fun W h => below_chain hbD hbD.size h) _ _ _ _ ?_
                have hSD : BelS wD wD := BelS.refl wD
                refine wpAnyH_ready (rs := [12]) (by kernel_rfl) (by simp) (AllReadyH.cons rfl (fun K hK => ?_) AllReadyH.nil)
                have DE := Lib.hid (HSM.out wD _ _ (hoC.up hbD).rdP hoD.rdP)
                go_simp
                go_wp2_with ((go_at_call 13; (with_reducible refine DE.out.mono ?_); rintro e wE ⟨rfl, hbE⟩))
                have hqE := below_chain hqD hqD.size hbE
                refine hK.out _ _ hbE (fun _ => ?_)
                clear hK K
                refine wpAnyH_stronger (S' := BelS wE) (fun W h => below_chain hbE hbE.size h) _ _ _ _ ?_
                have hSE : BelS wE wE := BelS.refl wE
                refine wpAnyH_take (i := 13) (oi := _) (v := ?_) rfl (by kernel_rfl) (by kernel_rfl) (by kernel_rfl) (fun _ _ _ h => h) (Or.inl ⟨by rfl, ?_⟩) hSE ?_
                rotate_left
                · intro W hSW
                  try go_simp
                  all_goals with_reducible rfl
                simp only [Act.put, List.setIfInBounds_toArray, List.set_cons_zero, List.set_cons_succ, List.getElem_toArray, List.getElem_cons_zero, List.getElem_cons_succ]
                refine wpAnyH_take (i := 14) (oi := _) (v := ?_) rfl (by kernel_rfl) (by kernel_rfl) (by kernel_rfl) (fun _ _ _ h => h) (Or.inl ⟨by rfl, ?_⟩) hSE ?_
                rotate_left
                · intro W hSW
                  try go_simp
                  all_goals with_reducible rfl
                simp only [Act.put, List.setIfInBounds_toArray, List.set_cons_zero, List.set_cons_succ, List.getElem_toArray, List.getElem_cons_zero, List.getElem_cons_succ]
                refine wpAnyH_take (i := 15) (oi := _) (v := ?_) rfl (by kernel_rfl) (by kernel_rfl) (by kernel_rfl) (fun _ _ _ h => h) (Or.inl ⟨by rfl, ?_⟩) hSE ?_
                rotate_left
                · intro W hSW
                  try go_simp
                  all_goals with_reducible rfl
                simp only [Act.put, List.setIfInBounds_toArray, List.set_cons_zero, List.set_cons_succ, List.getElem_toArray, List.getElem_cons_zero, List.getElem_cons_succ]
                refine wpAnyH_take (i := 16) (oi := _) (v := ?_) rfl (by kernel_rfl) (by kernel_rfl) (by kernel_rfl) (fun _ _ _ h => h) (Or.inl ⟨by rfl, ?_⟩) hSE ?_
                rotate_left
                · intro W hSW
                  try go_simp
                  all_goals with_reducible rfl
                simp only [Act.put, List.setIfInBounds_toArray, List.set_cons_zero, List.set_cons_succ, List.getElem_toArray, List.getElem_cons_zero, List.getElem_cons_succ]
                refine wpAnyH_take (i := 17) (oi := _) (v := ?_) rfl (by kernel_rfl) (by kernel_rfl) (by kernel_rfl) (fun _ _ _ h => h) (Or.inl ⟨by rfl, ?_⟩) hSE ?_
                rotate_left
                · intro W hSW
                  try go_simp
                  all_goals with_reducible rfl
                simp only [Act.put, List.setIfInBounds_toArray, List.set_cons_zero, List.set_cons_succ, List.getElem_toArray, List.getElem_cons_zero, List.getElem_cons_succ]
                refine wpAnyH_take (i := 18) (oi := _) (v := ?_) rfl (by kernel_rfl) (by kernel_rfl) (by kernel_rfl) (fun _ _ _ h => h) (Or.inl ⟨by rfl, ?_⟩) hSE ?_
                rotate_left
                · intro W hSW
                  try go_simp
                  all_goals with_reducible rfl
                simp only [Act.put, List.setIfInBounds_toArray, List.set_cons_zero, List.set_cons_succ, List.getElem_toArray, List.getElem_cons_zero, List.getElem_cons_succ]
                refine wpAnyH_take (i := 19) (oi := _) (v := ?_) rfl (by kernel_rfl) (by kernel_rfl) (by kernel_rfl) (fun _ _ _ h => h) (Or.inl ⟨by rfl, ?_⟩) hSE ?_
                rotate_left
                · intro W hSW
                  have cv := HCS.out W _ (hoR.rd.up (Nat.le_refl _) (below_chain hqE hqE.size hSW))
                  try go_simp
                  all_goals with_reducible rfl
                simp only [Act.put, List.setIfInBounds_toArray, List.set_cons_zero, List.set_cons_succ, List.getElem_toArray, List.getElem_cons_zero, List.getElem_cons_succ]
                refine wpAnyH_take (i := 20) (oi := _) (v := ?_) rfl (by kernel_rfl) (by kernel_rfl) (by kernel_rfl) (fun _ _ _ h => h) (Or.inl ⟨by rfl, ?_⟩) hSE ?_
                rotate_left
                · intro W hSW
                  try go_simp
                  all_goals with_reducible rfl
                simp only [Act.put, List.setIfInBounds_toArray, List.set_cons_zero, List.set_cons_succ, List.getElem_toArray, List.getElem_cons_zero, List.getElem_cons_succ]
                refine wpAnyH_ready (rs := [21]) (by kernel_rfl) (by simp) (AllReadyH.cons rfl (fun K hK => ?_) AllReadyH.nil)
                have DF := Lib.hid (HRA.out _ hqE)
                go_simp
                go_wp2_with ((go_at_call 12; (with_reducible refine DF.out.mono ?_); rintro e wF ⟨vF, rfl, hoF, hbF⟩))
                have hqF := below_chain hqE hqE.size hbF
                refine hK.out _ _ hbF (fun _ => ?_)
                clear hK K
                refine wpAnyH_stronger (S' := BelS wF) (fun W h => below_chain hbF hbF.size h) _ _ _ _ ?_
                have hSF : BelS wF wF := BelS.refl wF
                refine wpAnyH_take (i := 22) (oi := _) (v := ?_) rfl (by kernel_rfl) (by kernel_rfl) (by kernel_rfl) (fun _ _ _ h => h) (Or.inl ⟨by rfl, ?_⟩) hSF ?_
                rotate_left
                · intro W hSW
                  have cv := HCS.out W _ (hoF.rd.up (Nat.le_refl _) hSW)
                  try go_simp
                  all_goals with_reducible rfl
                simp only [Act.put, List.setIfInBounds_toArray, List.set_cons_zero, List.set_cons_succ, List.getElem_toArray, List.getElem_cons_zero, List.getElem_cons_succ]
                refine wpAnyH_take (i := 23) (oi := _) (v := ?_) rfl (by kernel_rfl) (by kernel_rfl) (by kernel_rfl) (fun _ _ _ h => h) (Or.inl ⟨by rfl, ?_⟩) hSF ?_
                rotate_left
                · intro W hSW
                  try go_simp
                  all_goals with_reducible rfl
                simp only [Act.put, List.setIfInBounds_toArray, List.set_cons_zero, List.set_cons_succ, List.getElem_toArray, List.getElem_cons_zero, List.getElem_cons_succ]
                refine wpAnyH_take (i := 24) (oi := _) (v := ?_) rfl (by kernel_rfl) (by kernel_rfl) (by kernel_rfl) (fun _ _ _ h => h) (Or.inl ⟨by rfl, ?_⟩) hSF ?_
                rotate_left
                · intro W hSW
                  try go_simp
                  all_goals with_reducible rfl
                simp only [Act.put, List.setIfInBounds_toArray, List.set_cons_zero, List.set_cons_succ, List.getElem_toArray, List.getElem_cons_zero, List.getElem_cons_succ]
                refine wpAnyH_take (i := 25) (oi := _) (v := ?_) rfl (by kernel_rfl) (by kernel_rfl) (by kernel_rfl) (fun _ _ _ h => h) (Or.inl ⟨by rfl, ?_⟩) hSF ?_
                rotate_left
                · intro W hSW
                  try go_simp
                  all_goals with_reducible rfl
                simp only [Act.put, List.setIfInBounds_toArray, List.set_cons_zero, List.set_cons_succ, List.getElem_toArray, List.getElem_cons_zero, List.getElem_cons_succ]
                refine wpAnyH_take (i := 26) (oi := _) (v := ?_) rfl (by kernel_rfl) (by kernel_rfl) (by kernel_rfl) (fun _ _ _ h => h) (Or.inl ⟨by rfl, ?_⟩) hSF ?_
                rotate_left
                · intro W hSW
                  try go_simp
                  all_goals with_reducible rfl
                simp only [Act.put, List.setIfInBounds_toArray, List.set_cons_zero, List.set_cons_succ, List.getElem_toArray, List.getElem_cons_zero, List.getElem_cons_succ]
                refine wpAnyH_done (by kernel_rfl) ?_ _
                have hbo := below_chain hqR hqR.size hqF
                go_wp2_with fail
                go_ret
                exact ⟨rfl, hbo⟩
              · skip
                go_wp2_with fail
                refine wp_region_held_drew (S := BelS wR.drew) (by kernel_rfl) (BelS.refl _) (fun hS0 => ?_)
                refine wpAnyH_take (i := 0) (oi := _) (v := ?_) rfl (by kernel_rfl) (by kernel_rfl) (by kernel_rfl) (fun _ _ _ h => h) (Or.inl ⟨by rfl, ?_⟩) hS0 ?_
                rotate_left
                · intro W hSW
                  try go_simp
                  all_goals with_reducible rfl
                simp only [Act.put, List.setIfInBounds_toArray, List.set_cons_zero, List.set_cons_succ, List.getElem_toArray, List.getElem_cons_zero, List.getElem_cons_succ]
                refine wpAnyH_take (i := 3) (oi := _) (v := ?_) rfl (by kernel_rfl) (by kernel_rfl) (by kernel_rfl) (fun _ _ _ h => h) (Or.inl ⟨by rfl, ?_⟩) hS0 ?_
                rotate_left
                · intro W hSW
                  try go_simp
                  all_goals with_reducible rfl
                simp only [Act.put, List.setIfInBounds_toArray, List.set_cons_zero, List.set_cons_succ, List.getElem_toArray, List.getElem_cons_zero, List.getElem_cons_succ]
                refine wpAnyH_ready (rs := [1]) (by kernel_rfl) (by simp) (AllReadyH.cons rfl (fun K hK => ?_) AllReadyH.nil)
                have DA := Lib.hid (HRA.out _ hbd)
                go_simp
                go_wp2_with ((go_at_call 12; (with_reducible refine DA.out.mono ?_); rintro e wA ⟨vA, rfl, hoA, hbA⟩))
                have hqA := below_chain hbd hbd.size hbA
                refine hK.out _ _ hbA (fun _ => ?_)
                clear hK K
                refine wpAnyH_stronger (S' := BelS wA) (fun W h => below_chain hbA hbA.size h) _ _ _ _ ?_
                have hSA : BelS wA wA := BelS.refl wA
                refine wpAnyH_take (i := 2) (oi := _) (v := ?_) rfl (by kernel_rfl) (by kernel_rfl) (by kernel_rfl) (fun _ _ _ h => h) (Or.inl ⟨by rfl, ?_⟩) hSA ?_
                rotate_left
                · intro W hSW
                  have cv := HCS.out W _ (hoA.rd.up (Nat.le_refl _) hSW)
                  try go_simp
                  all_goals with_reducible rfl
                simp only [Act.put, List.setIfInBounds_toArray, List.set_cons_zero, List.set_cons_succ, List.getElem_toArray, List.getElem_cons_zero, List.getElem_cons_succ]
                refine wpAnyH_ready (rs := [4]) (by kernel_rfl) (by simp) (AllReadyH.cons rfl (fun K hK => ?_) AllReadyH.nil)
                have DB := Lib.hid (HRB.out _ hqA)
                go_simp
                go_wp2_with ((go_at_call 12; (with_reducible refine DB.out.mono ?_); rintro e wB ⟨vB, rfl, hoB, hbB⟩))
                have hqB := below_chain hqA hqA.size hbB
                refine hK.out _ _ hbB (fun _ => ?_)
                clear hK K
                refine wpAnyH_stronger (S' := BelS wB) (fun W h => below_chain hbB hbB.size h) _ _ _ _ ?_
                have hSB : BelS wB wB := BelS.refl wB
                refine wpAnyH_take (i := 5) (oi := _) (v := ?_) rfl (by kernel_rfl) (by kernel_rfl) (by kernel_rfl) (fun _ _ _ h => h) (Or.inl ⟨by rfl, ?_⟩) hSB ?_
                rotate_left
                · intro W hSW
                  have cv := HCS.out W _ (hoB.rd.up (Nat.le_refl _) hSW)
                  try go_simp
                  all_goals with_reducible rfl
                simp only [Act.put, List.setIfInBounds_toArray, List.set_cons_zero, List.set_cons_succ, List.getElem_toArray, List.getElem_cons_zero, List.getElem_cons_succ]
                refine wpAnyH_take (i := 6) (oi := _) (v := ?_) rfl (by kernel_rfl) (by kernel_rfl) (by kernel_rfl) (fun _ _ _ h => h) (Or.inl ⟨by rfl, ?_⟩) hSB ?_
                rotate_left
                · intro W hSW
                  try go_simp
                  all_goals with_reducible rfl
                simp only [Act.put, List.setIfInBounds_toArray, List.set_cons_zero, List.set_cons_succ, List.getElem_toArray, List.getElem_cons_zero, List.getElem_cons_succ]
                refine wpAnyH_take (i := 7) (oi := _) (v := ?_) rfl (by kernel_rfl) (by kernel_rfl) (by kernel_rfl) (fun _ _ _ h => h) (Or.inl ⟨by rfl, ?_⟩) hSB ?_
                rotate_left
                · intro W hSW
                  try go_simp
                  all_goals with_reducible rfl
                simp only [Act.put, List.setIfInBounds_toArray, List.set_cons_zero, List.set_cons_succ, List.getElem_toArray, List.getElem_cons_zero, List.getElem_cons_succ]
                refine wpAnyH_take (i := 8) (oi := _) (v := ?_) rfl (by kernel_rfl) (by kernel_rfl) (by kernel_rfl) (fun _ _ _ h => h) (Or.inl ⟨by rfl, ?_⟩) hSB ?_
                rotate_left
                · intro W hSW
                  try go_simp
                  all_goals with_reducible rfl
                simp only [Act.put, List.setIfInBounds_toArray, List.set_cons_zero, List.set_cons_succ, List.getElem_toArray, List.getElem_cons_zero, List.getElem_cons_succ]
                refine wpAnyH_take (i := 10) (oi := _) (v := ?_) rfl (by kernel_rfl) (by kernel_rfl) (by kernel_rfl) (fun _ _ _ h => h) (Or.inl ⟨by rfl, ?_⟩) hSB ?_
                rotate_left
                · intro W hSW
                  try go_simp
                  all_goals with_reducible rfl
                simp only [Act.put, List.setIfInBounds_toArray, List.set_cons_zero, List.set_cons_succ, List.getElem_toArray, List.getElem_cons_zero, List.getElem_cons_succ]
                refine wpAnyH_ready (rs := [9]) (by kernel_rfl) (by simp) (AllReadyH.cons rfl (fun K hK => ?_) AllReadyH.nil)
                have DC := Lib.hid (HPA.out _ hqB)
                go_simp
                go_wp2_with ((go_at_call 14; (with_reducible refine DC.out.mono ?_); rintro e wC ⟨vC, rfl, hoC, hbC⟩))
                have hqC := below_chain hqB hqB.size hbC
                refine hK.out _ _ hbC (fun _ => ?_)
                clear hK K
                refine wpAnyH_stronger (S' := BelS wC) (fun W h => below_chain hbC hbC.size h) _ _ _ _ ?_
                have hSC : BelS wC wC := BelS.refl wC
                refine wpAnyH_ready (rs := [11]) (by kernel_rfl) (by simp) (AllReadyH.cons rfl (fun K hK => ?_) AllReadyH.nil)
                have DD := Lib.hid (HPB.out _ hqC)
                go_simp
                go_wp2_with ((go_at_call 14; (with_reducible refine DD.out.mono ?_); rintro e wD ⟨vD, rfl, hoD, hbD⟩))
                have hqD := below_chain hqC hqC.size hbD
                refine hK.out _ _ hbD (fun _ => ?_)
                clear hK K
                refine wpAnyH_stronger (S' := BelS wD) (fun W h => below_chain hbD hbD.size h) _ _ _ _ ?_
                have hSD : BelS wD wD := BelS.refl wD
                refine wpAnyH_ready (rs := [12]) (by kernel_rfl) (by simp) (AllReadyH.cons rfl (fun K hK => ?_) AllReadyH.nil)
                have DE := Lib.hid (HSM.out wD _ _ (hoC.up hbD).rdP hoD.rdP)
                go_simp
                go_wp2_with ((go_at_call 13; (with_reducible refine DE.out.mono ?_); rintro e wE ⟨rfl, hbE⟩))
                have hqE := below_chain hqD hqD.size hbE
                refine hK.out _ _ hbE (fun _ => ?_)
                clear hK K
                refine wpAnyH_stronger (S' := BelS wE) (fun W h => below_chain hbE hbE.size h) _ _ _ _ ?_
                have hSE : BelS wE wE := BelS.refl wE
                refine wpAnyH_take (i := 13) (oi := _) (v := ?_) rfl (by kernel_rfl) (by kernel_rfl) (by kernel_rfl) (fun _ _ _ h => h) (Or.inl ⟨by rfl, ?_⟩) hSE ?_
                rotate_left
                · intro W hSW
                  try go_simp
                  all_goals with_reducible rfl
                simp only [Act.put, List.setIfInBounds_toArray, List.set_cons_zero, List.set_cons_succ, List.getElem_toArray, List.getElem_cons_zero, List.getElem_cons_succ]
                refine wpAnyH_take (i := 14) (oi := _) (v := ?_) rfl (by kernel_rfl) (by kernel_rfl) (by kernel_rfl) (fun _ _ _ h => h) (Or.inl ⟨by rfl, ?_⟩) hSE ?_
                rotate_left
                · intro W hSW
                  try go_simp
                  all_goals with_reducible rfl
                simp only [Act.put, List.setIfInBounds_toArray, List.set_cons_zero, List.set_cons_succ, List.getElem_toArray, List.getElem_cons_zero, List.getElem_cons_succ]
                refine wpAnyH_take (i := 15) (oi := _) (v := ?_) rfl (by kernel_rfl) (by kernel_rfl) (by kernel_rfl) (fun _ _ _ h => h) (Or.inl ⟨by rfl, ?_⟩) hSE ?_
                rotate_left
                · intro W hSW
                  try go_simp
                  all_goals with_reducible rfl
                simp only [Act.put, List.setIfInBounds_toArray, List.set_cons_zero, List.set_cons_succ, List.getElem_toArray, List.getElem_cons_zero, List.getElem_cons_succ]
                refine wpAnyH_take (i := 16) (oi := _) (v := ?_) rfl (by kernel_rfl) (by kernel_rfl) (by kernel_rfl) (fun _ _ _ h => h) (Or.inl ⟨by rfl, ?_⟩) hSE ?_
                rotate_left
                · intro W hSW
                  try go_simp
                  all_goals with_reducible rfl
                simp only [Act.put, List.setIfInBounds_toArray, List.set_cons_zero, List.set_cons_succ, List.getElem_toArray, List.getElem_cons_zero, List.getElem_cons_succ]
                refine wpAnyH_take (i := 17) (oi := _) (v := ?_) rfl (by kernel_rfl) (by kernel_rfl) (by kernel_rfl) (fun _ _ _ h => h) (Or.inl ⟨by rfl, ?_⟩) hSE ?_
                rotate_left
                · intro W hSW
                  try go_simp
                  all_goals with_reducible rfl
                simp only [Act.put, List.setIfInBounds_toArray, List.set_cons_zero, List.set_cons_succ, List.getElem_toArray, List.getElem_cons_zero, List.getElem_cons_succ]
                refine wpAnyH_take (i := 18) (oi := _) (v := undef) rfl (by kernel_rfl) (by kernel_rfl) (by kernel_rfl) (fun _ _ _ h => h) (Or.inr ⟨by rfl, rfl⟩) hSE ?_
                simp only [Act.put, List.setIfInBounds_toArray, List.set_cons_zero, List.set_cons_succ, List.getElem_toArray, List.getElem_cons_zero, List.getElem_cons_succ]
                refine wpAnyH_take (i := 19) (oi := _) (v := undef) rfl (by kernel_rfl) (by kernel_rfl) (by kernel_rfl) (fun _ _ _ h => h) (Or.inr ⟨by rfl, rfl⟩) hSE ?_
                simp only [Act.put, List.setIfInBounds_toArray, List.set_cons_zero, List.set_cons_succ, List.getElem_toArray, List.getElem_cons_zero, List.getElem_cons_succ]
                refine wpAnyH_take (i := 20) (oi := _) (v := undef) rfl (by kernel_rfl) (by kernel_rfl) (by kernel_rfl) (fun _ _ _ h => h) (Or.inr ⟨by rfl, rfl⟩) hSE ?_
                simp only [Act.put, List.setIfInBounds_toArray, List.set_cons_zero, List.set_cons_succ, List.getElem_toArray, List.getElem_cons_zero, List.getElem_cons_succ]
                refine wpAnyH_take (i := 21) (oi := _) (v := undef) rfl (by kernel_rfl) (by kernel_rfl) (by kernel_rfl) (fun _ _ _ h => h) (Or.inr ⟨by rfl, rfl⟩) hSE ?_
                simp only [Act.put, List.setIfInBounds_toArray, List.set_cons_zero, List.set_cons_succ, List.getElem_toArray, List.getElem_cons_zero, List.getElem_cons_succ]
                refine wpAnyH_take (i := 22) (oi := _) (v := undef) rfl (by kernel_rfl) (by kernel_rfl) (by kernel_rfl) (fun _ _ _ h => h) (Or.inr ⟨by rfl, rfl⟩) hSE ?_
                simp only [Act.put, List.setIfInBounds_toArray, List.set_cons_zero, List.set_cons_succ, List.getElem_toArray, List.getElem_cons_zero, List.getElem_cons_succ]
                refine wpAnyH_take (i := 23) (oi := _) (v := undef) rfl (by kernel_rfl) (by kernel_rfl) (by kernel_rfl) (fun _ _ _ h => h) (Or.inr ⟨by rfl, rfl⟩) hSE ?_
                simp only [Act.put, List.setIfInBounds_toArray, List.set_cons_zero, List.set_cons_succ, List.getElem_toArray, List.getElem_cons_zero, List.getElem_cons_succ]
                refine wpAnyH_take (i := 24) (oi := _) (v := ?_) rfl (by kernel_rfl) (by kernel_rfl) (by kernel_rfl) (fun _ _ _ h => h) (Or.inl ⟨by rfl, ?_⟩) hSE ?_
                rotate_left
                · intro W hSW
                  try go_simp
                  all_goals with_reducible rfl
                simp only [Act.put, List.setIfInBounds_toArray, List.set_cons_zero, List.set_cons_succ, List.getElem_toArray, List.getElem_cons_zero, List.getElem_cons_succ]
                refine wpAnyH_take (i := 25) (oi := _) (v := ?_) rfl (by kernel_rfl) (by kernel_rfl) (by kernel_rfl) (fun _ _ _ h => h) (Or.inl ⟨by rfl, ?_⟩) hSE ?_
                rotate_left
                · intro W hSW
                  try go_simp
                  all_goals with_reducible rfl
                simp only [Act.put, List.setIfInBounds_toArray, List.set_cons_zero, List.set_cons_succ, List.getElem_toArray, List.getElem_cons_zero, List.getElem_cons_succ]
                refine wpAnyH_take (i := 26) (oi := _) (v := ?_) rfl (by kernel_rfl) (by kernel_rfl) (by kernel_rfl) (fun _ _ _ h => h) (Or.inl ⟨by rfl, ?_⟩) hSE ?_
                rotate_left
                · intro W hSW
                  try go_simp
                  all_goals with_reducible rfl
                simp only [Act.put, List.setIfInBounds_toArray, List.set_cons_zero, List.set_cons_succ, List.getElem_toArray, List.getElem_cons_zero, List.getElem_cons_succ]
                refine wpAnyH_done (by kernel_rfl) ?_ _
                have hbo := below_chain hqR hqR.size hqE
                go_wp2_with fail
                go_ret
                exact ⟨rfl, hbo⟩
            | none =>
              rw [hg] at hGT
              have HGT : Hid (Calls Tryd.prog 9 #[.pointer (some ⟨yb, 0, none⟩), .string key] Z fun e w' => ∃ v, e = .returned (.tuple #[v, .bool false]) ∧ Own w' Z.heap.size v [] ∧ Below Z.heap.size Z w') := Lib.hid hGT
              have HGN := Lib.hid hg
              clear hGT hg
              go_wp2_with fail
              refine HGT.out.mono ?_
              rintro e w5 ⟨v5, rfl, ho5, hb5⟩
              obtain ⟨A5, c5, hv5⟩ : ∃ A c, v5 = .slice A 0 c := ho5.form
              subst hv5
              have hq5 := below_chain hbZ hbZ.size hb5
              have hbA : Below w5.heap.size w5 (w5.alloc (.cells #[.int .u8 1] 5)) := (Below.refl _ _).alloc (Nat.le_refl _) _
              have hrA := (rd_lit w5 #[.int .u8 1] [1] 1 rfl (by simp [bcells, bval]) (by simp [maxLen])).more (B' := (w5.alloc (.cells #[.int .u8 1] 5)).heap.size) (by simp)
              have hq6 := below_chain hq5 hq5.size hbA
              have HSE := Lib.hid (((hT.up hb5).up hbA).setZ (show zn < maxLen by unfold maxLen; omega) key hks _ [1] hrA)
              clear ho5 hb5 hbA hrA hT HGT
              go_wp2_with fail
              refine HSE.out.mono ?_
              clear HSE
              generalize w5.alloc (.cells #[.int .u8 1] 5) = w6 at *
              rintro e w7 ⟨⟨E7, rfl⟩, ht7, hb7⟩
              have hq7 := hq6.trans hb7
              obtain ⟨zn2, zf2, hz2, hzn2⟩ := setIf_form ⟨zb, zm, zn, zf⟩ key [1]
              have hlz2 := HisI.again hlz0 HGN.out [1]
              rw [hz2] at ht7 hlz2
              have hzn3 : zn2 ≤ zn + 1 := hzn2
              have HDE := Lib.hid (ht7.delZ (show zn2 < maxLen by unfold maxLen; omega) key hks)
              clear ht7 hb7 hz2 hzn2
              go_wp2_with fail
              refine HDE.out.mono ?_
              rintro e WT ⟨rfl, ht8, hb8⟩
              have hqT := hq7.trans hb8
              obtain ⟨zn3, zf3, hT3, hlz, hz3⟩ : ∃ zn3 zf3, OneS w.heap.size WT ⟨yb, ym, yn, yf⟩ ⟨zb, zm, zn3, zf3⟩ ∧ LyrM ps ⟨zb, zm, zn3, zf3⟩ ∧ zn3 ≤ 5000000 := ⟨_, _, ht8, hlz2, by show zn2 ≤ _; omega⟩
              clear hb8 ht8 hlz2 hlz0 hznb hzn hzn3 HDE hq5 hq6 hq7
              go_wp2_with fail
              refine (HRR.out WT hqT).mono ?_
              rintro e wR ⟨vR, rfl, hoR, hbR⟩
              have hqR := below_chain hqT hqT.size hbR
              have hyn : yn = n := HLY.out.1
              have hsy : SeenL ⟨#[]⟩ [⟨yb, ym, yn, yf⟩] ps := seen_bot0 HLY.out.2.1 HLY.out.2.2 HNL.out
              have hsz : SeenL ⟨#[]⟩ [⟨zb, zm, zn3, zf3⟩] ps := seen_botM hlz HLY.out.2.2 HNL.out
              have hyn2 : sumN [⟨yb, ym, yn, yf⟩] ≤ 1000000000 := by simp [sumN]; omega
              have hzn2 : sumN [⟨zb, zm, zn3, zf3⟩] ≤ 1000000000 := by simp [sumN]; omega
              have hs0 : (⟨#[]⟩ : ByteArray).size ≤ maxLen := by decide +kernel
              have hTR := hT3.up hbR
              have HPA : Hid (∀ Z, Below wR.heap.size wR Z → Calls Tryd.prog 14 #[.pointer (some ⟨yb, 0, none⟩), .string ⟨#[]⟩] Z fun e w' => ∃ v, e = .returned v ∧ OutP w' Z.heap.size v ps ∧ Below Z.heap.size Z w') := Lib.hid fun Z hZ => pairs_any (hTR.hp.up hZ) hyn2 ⟨#[]⟩ hs0 hsy
              have HPB : Hid (∀ Z, Below wR.heap.size wR Z → Calls Tryd.prog 14 #[.pointer (some ⟨zb, 0, none⟩), .string ⟨#[]⟩] Z fun e w' => ∃ v, e = .returned v ∧ OutP w' Z.heap.size v ps ∧ Below Z.heap.size Z w') := Lib.hid fun Z hZ => pairs_any (hTR.hq.up hZ) hzn2 ⟨#[]⟩ hs0 hsz
              have HRA : Hid (∀ Z, Below wR.heap.size wR Z → Calls Tryd.prog 12 #[.pointer (some ⟨yb, 0, none⟩)] Z fun e w' => ∃ v, e = .returned v ∧ Own w' Z.heap.size v (rootM ps).1 ∧ Below Z.heap.size Z w') := Lib.hid fun Z hZ => sroot_any (hTR.hp.up hZ) hyn2 hsy fr (((below_chain hqR hqR.size hZ).block _ hn0).trans HK.out)
              have HRB : Hid (∀ Z, Below wR.heap.size wR Z → Calls Tryd.prog 12 #[.pointer (some ⟨zb, 0, none⟩)] Z fun e w' => ∃ v, e = .returned v ∧ Own w' Z.heap.size v (rootM ps).1 ∧ Below Z.heap.size Z w') := Lib.hid fun Z hZ => sroot_any (hTR.hq.up hZ) hzn2 hsz fr (((below_chain hqR hqR.size hZ).block _ hn0).trans HK.out)
              have HSM : Hid (∀ (Z : World) (a b : Value), RdP Z Z.heap.size a ps → RdP Z Z.heap.size b ps → Calls Tryd.prog 13 #[a, b] Z fun e w' => e = .returned (.bool true) ∧ Below Z.heap.size Z w') := Lib.hid fun Z a b ha hb => by have := samePs_any Z a b ps ps ha hb; rw [decide_eq_true rfl] at this; exact this
              obtain ⟨SR, hSR⟩ : ∃ SR : ByteArray, SR = ⟨(rootM ps).1.toArray⟩ := ⟨_, rfl⟩
              have HCS : Hid (∀ (Z : World) (v : Value), Rd Z Z.heap.size v (rootM ps).1 → (convert 29 9 v).run Tryd.prog Z = .ok (.string SR) Z) := Lib.hid fun Z v h => by rw [hSR]; exact run_str Tryd.underlying29 Tryd.underlying5 Tryd.isString h
              have hE : (rootM ps).2 = 0 ∨ (rootM ps).2 = 60 := by unfold rootM; split <;> simp
              have hbd : Below wR.heap.size wR wR.drew := (Below.refl _ _).drew
              clear hTR hsy hsz hyn hyn2 hzn2 hs0 hSR hT3 hlz hz3 HRR
              generalize (rootM ps).1 = RT at *
              generalize (rootM ps).2 = EE at *
              rcases hE with rfl | rfl
              · skip
                go_wp2_with fail
                refine wp_region_held_drew (S := BelS wR.drew) (by kernel_rfl) (BelS.refl _) (fun hS0 => ?_)
                refine wpAnyH_take (i := 0) (oi := _) (v := ?_) rfl (by kernel_rfl) (by kernel_rfl) (by kernel_rfl) (fun _ _ _ h => h) (Or.inl ⟨by rfl, ?_⟩) hS0 ?_
                rotate_left
                · intro W hSW
                  try go_simp
                  all_goals with_reducible rfl
                simp only [Act.put, List.setIfInBounds_toArray, List.set_cons_zero, List.set_cons_succ, List.getElem_toArray, List.getElem_cons_zero, List.getElem_cons_succ]
                refine wpAnyH_take (i := 3) (oi := _) (v := ?_) rfl (by kernel_rfl) (by kernel_rfl) (by kernel_rfl) (fun _ _ _ h => h) (Or.inl ⟨by rfl, ?_⟩) hS0 ?_
                rotate_left
                · intro W hSW
                  try go_simp
                  all_goals with_reducible rfl
                simp only [Act.put, List.setIfInBounds_toArray, List.set_cons_zero, List.set_cons_succ, List.getElem_toArray, List.getElem_cons_zero, List.getElem_cons_succ]
                refine wpAnyH_ready (rs := [1]) (by kernel_rfl) (by simp) (AllReadyH.cons rfl (fun K hK => ?_) AllReadyH.nil)
                have DA := Lib.hid (HRA.out _ hbd)
                go_simp
                go_wp2_with ((go_at_call 12; (with_reducible refine DA.out.mono ?_); rintro e wA ⟨vA, rfl, hoA, hbA⟩))
                have hqA := below_chain hbd hbd.size hbA
                refine hK.out _ _ hbA (fun _ => ?_)
                clear hK K
                refine wpAnyH_stronger (S' := BelS wA) (fun W h => below_chain hbA hbA.size h) _ _ _ _ ?_
                have hSA : BelS wA wA := BelS.refl wA
                refine wpAnyH_take (i := 2) (oi := _) (v := ?_) rfl (by kernel_rfl) (by kernel_rfl) (by kernel_rfl) (fun _ _ _ h => h) (Or.inl ⟨by rfl, ?_⟩) hSA ?_
                rotate_left
                · intro W hSW
                  have cv := HCS.out W _ (hoA.rd.up (Nat.le_refl _) hSW)
                  try go_simp
                  all_goals with_reducible rfl
                simp only [Act.put, List.setIfInBounds_toArray, List.set_cons_zero, List.set_cons_succ, List.getElem_toArray, List.getElem_cons_zero, List.getElem_cons_succ]
                refine wpAnyH_ready (rs := [4]) (by kernel_rfl) (by simp) (AllReadyH.cons rfl (fun K hK => ?_) AllReadyH.nil)
                have DB := Lib.hid (HRB.out _ hqA)
                go_simp
                go_wp2_with ((go_at_call 12; (with_reducible refine DB.out.mono ?_); rintro e wB ⟨vB, rfl, hoB, hbB⟩))
                have hqB := below_chain hqA hqA.size hbB
                refine hK.out _ _ hbB (fun _ => ?_)
                clear hK K
                refine wpAnyH_stronger (S' := BelS wB) (fun W h => below_chain hbB hbB.size h) _ _ _ _ ?_
                have hSB : BelS wB wB := BelS.refl wB
                refine wpAnyH_take (i := 5) (oi := _) (v := ?_) rfl (by kernel_rfl) (by kernel_rfl) (by kernel_rfl) (fun _ _ _ h => h) (Or.inl ⟨by rfl, ?_⟩) hSB ?_
                rotate_left
                · intro W hSW
                  have cv := HCS.out W _ (hoB.rd.up (Nat.le_refl _) hSW)
                  try go_simp
                  all_goals with_reducible rfl
                simp only [Act.put, List.setIfInBounds_toArray, List.set_cons_zero, List.set_cons_succ, List.getElem_toArray, List.getElem_cons_zero, List.getElem_cons_succ]
                refine wpAnyH_take (i := 6) (oi := _) (v := ?_) rfl (by kernel_rfl) (by kernel_rfl) (by kernel_rfl) (fun _ _ _ h => h) (Or.inl ⟨by rfl, ?_⟩) hSB ?_
                rotate_left
                · intro W hSW
                  try go_simp
                  all_goals with_reducible rfl
                simp only [Act.put, List.setIfInBounds_toArray, List.set_cons_zero, List.set_cons_succ, List.getElem_toArray, List.getElem_cons_zero, List.getElem_cons_succ]
                refine wpAnyH_take (i := 7) (oi := _) (v := ?_) rfl (by kernel_rfl) (by kernel_rfl) (by kernel_rfl) (fun _ _ _ h => h) (Or.inl ⟨by rfl, ?_⟩) hSB ?_
                rotate_left
                · intro W hSW
                  try go_simp
                  all_goals with_reducible rfl
                simp only [Act.put, List.setIfInBounds_toArray, List.set_cons_zero, List.set_cons_succ, List.getElem_toArray, List.getElem_cons_zero, List.getElem_cons_succ]
                refine wpAnyH_take (i := 8) (oi := _) (v := ?_) rfl (by kernel_rfl) (by kernel_rfl) (by kernel_rfl) (fun _ _ _ h => h) (Or.inl ⟨by rfl, ?_⟩) hSB ?_
                rotate_left
                · intro W hSW
                  try go_simp
                  all_goals with_reducible rfl
                simp only [Act.put, List.setIfInBounds_toArray, List.set_cons_zero, List.set_cons_succ, List.getElem_toArray, List.getElem_cons_zero, List.getElem_cons_succ]
                refine wpAnyH_take (i := 10) (oi := _) (v := ?_) rfl (by kernel_rfl) (by kernel_rfl) (by kernel_rfl) (fun _ _ _ h => h) (Or.inl ⟨by rfl, ?_⟩) hSB ?_
                rotate_left
                · intro W hSW
                  try go_simp
                  all_goals with_reducible rfl
                simp only [Act.put, List.setIfInBounds_toArray, List.set_cons_zero, List.set_cons_succ, List.getElem_toArray, List.getElem_cons_zero, List.getElem_cons_succ]
                refine wpAnyH_ready (rs := [9]) (by kernel_rfl) (by simp) (AllReadyH.cons rfl (fun K hK => ?_) AllReadyH.nil)
                have DC := Lib.hid (HPA.out _ hqB)
                go_simp
                go_wp2_with ((go_at_call 14; (with_reducible refine DC.out.mono ?_); rintro e wC ⟨vC, rfl, hoC, hbC⟩))
                have hqC := below_chain hqB hqB.size hbC
                refine hK.out _ _ hbC (fun _ => ?_)
                clear hK K
                refine wpAnyH_stronger (S' := BelS wC) (fun W h => below_chain hbC hbC.size h) _ _ _ _ ?_
                have hSC : BelS wC wC := BelS.refl wC
                refine wpAnyH_ready (rs := [11]) (by kernel_rfl) (by simp) (AllReadyH.cons rfl (fun K hK => ?_) AllReadyH.nil)
                have DD := Lib.hid (HPB.out _ hqC)
                go_simp
                go_wp2_with ((go_at_call 14; (with_reducible refine DD.out.mono ?_); rintro e wD ⟨vD, rfl, hoD, hbD⟩))
                have hqD := below_chain hqC hqC.size hbD
                refine hK.out _ _ hbD (fun _ => ?_)
                clear hK K
                refine wpAnyH_stronger (S' := BelS wD) (fun W h => below_chain hbD hbD.size h) _ _ _ _ ?_
                have hSD : BelS wD wD := BelS.refl wD
                refine wpAnyH_ready (rs := [12]) (by kernel_rfl) (by simp) (AllReadyH.cons rfl (fun K hK => ?_) AllReadyH.nil)
                have DE := Lib.hid (HSM.out wD _ _ (hoC.up hbD).rdP hoD.rdP)
                go_simp
                go_wp2_with ((go_at_call 13; (with_reducible refine DE.out.mono ?_); rintro e wE ⟨rfl, hbE⟩))
                have hqE := below_chain hqD hqD.size hbE
                refine hK.out _ _ hbE (fun _ => ?_)
                clear hK K
                refine wpAnyH_stronger (S' := BelS wE) (fun W h => below_chain hbE hbE.size h) _ _ _ _ ?_
                have hSE : BelS wE wE := BelS.refl wE
                refine wpAnyH_take (i := 13) (oi := _) (v := ?_) rfl (by kernel_rfl) (by kernel_rfl) (by kernel_rfl) (fun _ _ _ h => h) (Or.inl ⟨by rfl, ?_⟩) hSE ?_
                rotate_left
                · intro W hSW
                  try go_simp
                  all_goals with_reducible rfl
                simp only [Act.put, List.setIfInBounds_toArray, List.set_cons_zero, List.set_cons_succ, List.getElem_toArray, List.getElem_cons_zero, List.getElem_cons_succ]
                refine wpAnyH_take (i := 14) (oi := _) (v := ?_) rfl (by kernel_rfl) (by kernel_rfl) (by kernel_rfl) (fun _ _ _ h => h) (Or.inl ⟨by rfl, ?_⟩) hSE ?_
                rotate_left
                · intro W hSW
                  try go_simp
                  all_goals with_reducible rfl
                simp only [Act.put, List.setIfInBounds_toArray, List.set_cons_zero, List.set_cons_succ, List.getElem_toArray, List.getElem_cons_zero, List.getElem_cons_succ]
                refine wpAnyH_take (i := 15) (oi := _) (v := ?_) rfl (by kernel_rfl) (by kernel_rfl) (by kernel_rfl) (fun _ _ _ h => h) (Or.inl ⟨by rfl, ?_⟩) hSE ?_
                rotate_left
                · intro W hSW
                  try go_simp
                  all_goals with_reducible rfl
                simp only [Act.put, List.setIfInBounds_toArray, List.set_cons_zero, List.set_cons_succ, List.getElem_toArray, List.getElem_cons_zero, List.getElem_cons_succ]
                refine wpAnyH_take (i := 16) (oi := _) (v := ?_) rfl (by kernel_rfl) (by kernel_rfl) (by kernel_rfl) (fun _ _ _ h => h) (Or.inl ⟨by rfl, ?_⟩) hSE ?_
                rotate_left
                · intro W hSW
                  try go_simp
                  all_goals with_reducible rfl
                simp only [Act.put, List.setIfInBounds_toArray, List.set_cons_zero, List.set_cons_succ, List.getElem_toArray, List.getElem_cons_zero, List.getElem_cons_succ]
                refine wpAnyH_take (i := 17) (oi := _) (v := ?_) rfl (by kernel_rfl) (by kernel_rfl) (by kernel_rfl) (fun _ _ _ h => h) (Or.inl ⟨by rfl, ?_⟩) hSE ?_
                rotate_left
                · intro W hSW
                  try go_simp
                  all_goals with_reducible rfl
                simp only [Act.put, List.setIfInBounds_toArray, List.set_cons_zero, List.set_cons_succ, List.getElem_toArray, List.getElem_cons_zero, List.getElem_cons_succ]
                refine wpAnyH_take (i := 18) (oi := _) (v := ?_) rfl (by kernel_rfl) (by kernel_rfl) (by kernel_rfl) (fun _ _ _ h => h) (Or.inl ⟨by rfl, ?_⟩) hSE ?_
                rotate_left
                · intro W hSW
                  try go_simp
                  all_goals with_reducible rfl
                simp only [Act.put, List.setIfInBounds_toArray, List.set_cons_zero, List.set_cons_succ, List.getElem_toArray, List.getElem_cons_zero, List.getElem_cons_succ]
                refine wpAnyH_take (i := 19) (oi := _) (v := ?_) rfl (by kernel_rfl) (by kernel_rfl) (by kernel_rfl) (fun _ _ _ h => h) (Or.inl ⟨by rfl, ?_⟩) hSE ?_
                rotate_left
                · intro W hSW
                  have cv := HCS.out W _ (hoR.rd.up (Nat.le_refl _) (below_chain hqE hqE.size hSW))
                  try go_simp
                  all_goals with_reducible rfl
                simp only [Act.put, List.setIfInBounds_toArray, List.set_cons_zero, List.set_cons_succ, List.getElem_toArray, List.getElem_cons_zero, List.getElem_cons_succ]
                refine wpAnyH_take (i := 20) (oi := _) (v := ?_) rfl (by kernel_rfl) (by kernel_rfl) (by kernel_rfl) (fun _ _ _ h => h) (Or.inl ⟨by rfl, ?_⟩) hSE ?_
                rotate_left
                · intro W hSW
                  try go_simp
                  all_goals with_reducible rfl
                simp only [Act.put, List.setIfInBounds_toArray, List.set_cons_zero, List.set_cons_succ, List.getElem_toArray, List.getElem_cons_zero, List.getElem_cons_succ]
                refine wpAnyH_ready (rs := [21]) (by kernel_rfl) (by simp) (AllReadyH.cons rfl (fun K hK => ?_) AllReadyH.nil)
                have DF := Lib.hid (HRA.out _ hqE)
                go_simp
                go_wp2_with ((go_at_call 12; (with_reducible refine DF.out.mono ?_); rintro e wF ⟨vF, rfl, hoF, hbF⟩))
                have hqF := below_chain hqE hqE.size hbF
                refine hK.out _ _ hbF (fun _ => ?_)
                clear hK K
                refine wpAnyH_stronger (S' := BelS wF) (fun W h => below_chain hbF hbF.size h) _ _ _ _ ?_
                have hSF : BelS wF wF := BelS.refl wF
                refine wpAnyH_take (i := 22) (oi := _) (v := ?_) rfl (by kernel_rfl) (by kernel_rfl) (by kernel_rfl) (fun _ _ _ h => h) (Or.inl ⟨by rfl, ?_⟩) hSF ?_
                rotate_left
                · intro W hSW
                  have cv := HCS.out W _ (hoF.rd.up (Nat.le_refl _) hSW)
                  try go_simp
                  all_goals with_reducible rfl
                simp only [Act.put, List.setIfInBounds_toArray, List.set_cons_zero, List.set_cons_succ, List.getElem_toArray, List.getElem_cons_zero, List.getElem_cons_succ]
                refine wpAnyH_take (i := 23) (oi := _) (v := ?_) rfl (by kernel_rfl) (by kernel_rfl) (by kernel_rfl) (fun _ _ _ h => h) (Or.inl ⟨by rfl, ?_⟩) hSF ?_
                rotate_left
                · intro W hSW
                  try go_simp
                  all_goals with_reducible rfl
                simp only [Act.put, List.setIfInBounds_toArray, List.set_cons_zero, List.set_cons_succ, List.getElem_toArray, List.getElem_cons_zero, List.getElem_cons_succ]
                refine wpAnyH_take (i := 24) (oi := _) (v := ?_) rfl (by kernel_rfl) (by kernel_rfl) (by kernel_rfl) (fun _ _ _ h => h) (Or.inl ⟨by rfl, ?_⟩) hSF ?_
                rotate_left
                · intro W hSW
                  try go_simp
                  all_goals with_reducible rfl
                simp only [Act.put, List.setIfInBounds_toArray, List.set_cons_zero, List.set_cons_succ, List.getElem_toArray, List.getElem_cons_zero, List.getElem_cons_succ]
                refine wpAnyH_take (i := 25) (oi := _) (v := ?_) rfl (by kernel_rfl) (by kernel_rfl) (by kernel_rfl) (fun _ _ _ h => h) (Or.inl ⟨by rfl, ?_⟩) hSF ?_
                rotate_left
                · intro W hSW
                  try go_simp
                  all_goals with_reducible rfl
                simp only [Act.put, List.setIfInBounds_toArray, List.set_cons_zero, List.set_cons_succ, List.getElem_toArray, List.getElem_cons_zero, List.getElem_cons_succ]
                refine wpAnyH_take (i := 26) (oi := _) (v := ?_) rfl (by kernel_rfl) (by kernel_rfl) (by kernel_rfl) (fun _ _ _ h => h) (Or.inl ⟨by rfl, ?_⟩) hSF ?_
                rotate_left
                · intro W hSW
                  try go_simp
                  all_goals with_reducible rfl
                simp only [Act.put, List.setIfInBounds_toArray, List.set_cons_zero, List.set_cons_succ, List.getElem_toArray, List.getElem_cons_zero, List.getElem_cons_succ]
                refine wpAnyH_done (by kernel_rfl) ?_ _
                have hbo := below_chain hqR hqR.size hqF
                go_wp2_with fail
                go_ret
                exact ⟨rfl, hbo⟩
              · skip
                go_wp2_with fail
                refine wp_region_held_drew (S := BelS wR.drew) (by kernel_rfl) (BelS.refl _) (fun hS0 => ?_)
                refine wpAnyH_take (i := 0) (oi := _) (v := ?_) rfl (by kernel_rfl) (by kernel_rfl) (by kernel_rfl) (fun _ _ _ h => h) (Or.inl ⟨by rfl, ?_⟩) hS0 ?_
                rotate_left
                · intro W hSW
                  try go_simp
                  all_goals with_reducible rfl
                simp only [Act.put, List.setIfInBounds_toArray, List.set_cons_zero, List.set_cons_succ, List.getElem_toArray, List.getElem_cons_zero, List.getElem_cons_succ]
                refine wpAnyH_take (i := 3) (oi := _) (v := ?_) rfl (by kernel_rfl) (by kernel_rfl) (by kernel_rfl) (fun _ _ _ h => h) (Or.inl ⟨by rfl, ?_⟩) hS0 ?_
                rotate_left
                · intro W hSW
                  try go_simp
                  all_goals with_reducible rfl
                simp only [Act.put, List.setIfInBounds_toArray, List.set_cons_zero, List.set_cons_succ, List.getElem_toArray, List.getElem_cons_zero, List.getElem_cons_succ]
                refine wpAnyH_ready (rs := [1]) (by kernel_rfl) (by simp) (AllReadyH.cons rfl (fun K hK => ?_) AllReadyH.nil)
                have DA := Lib.hid (HRA.out _ hbd)
                go_simp
                go_wp2_with ((go_at_call 12; (with_reducible refine DA.out.mono ?_); rintro e wA ⟨vA, rfl, hoA, hbA⟩))
                have hqA := below_chain hbd hbd.size hbA
                refine hK.out _ _ hbA (fun _ => ?_)
                clear hK K
                refine wpAnyH_stronger (S' := BelS wA) (fun W h => below_chain hbA hbA.size h) _ _ _ _ ?_
                have hSA : BelS wA wA := BelS.refl wA
                refine wpAnyH_take (i := 2) (oi := _) (v := ?_) rfl (by kernel_rfl) (by kernel_rfl) (by kernel_rfl) (fun _ _ _ h => h) (Or.inl ⟨by rfl, ?_⟩) hSA ?_
                rotate_left
                · intro W hSW
                  have cv := HCS.out W _ (hoA.rd.up (Nat.le_refl _) hSW)
                  try go_simp
                  all_goals with_reducible rfl
                simp only [Act.put, List.setIfInBounds_toArray, List.set_cons_zero, List.set_cons_succ, List.getElem_toArray, List.getElem_cons_zero, List.getElem_cons_succ]
                refine wpAnyH_ready (rs := [4]) (by kernel_rfl) (by simp) (AllReadyH.cons rfl (fun K hK => ?_) AllReadyH.nil)
                have DB := Lib.hid (HRB.out _ hqA)
                go_simp
                go_wp2_with ((go_at_call 12; (with_reducible refine DB.out.mono ?_); rintro e wB ⟨vB, rfl, hoB, hbB⟩))
                have hqB := below_chain hqA hqA.size hbB
                refine hK.out _ _ hbB (fun _ => ?_)
                clear hK K
                refine wpAnyH_stronger (S' := BelS wB) (fun W h => below_chain hbB hbB.size h) _ _ _ _ ?_
                have hSB : BelS wB wB := BelS.refl wB
                refine wpAnyH_take (i := 5) (oi := _) (v := ?_) rfl (by kernel_rfl) (by kernel_rfl) (by kernel_rfl) (fun _ _ _ h => h) (Or.inl ⟨by rfl, ?_⟩) hSB ?_
                rotate_left
                · intro W hSW
                  have cv := HCS.out W _ (hoB.rd.up (Nat.le_refl _) hSW)
                  try go_simp
                  all_goals with_reducible rfl
                simp only [Act.put, List.setIfInBounds_toArray, List.set_cons_zero, List.set_cons_succ, List.getElem_toArray, List.getElem_cons_zero, List.getElem_cons_succ]
                refine wpAnyH_take (i := 6) (oi := _) (v := ?_) rfl (by kernel_rfl) (by kernel_rfl) (by kernel_rfl) (fun _ _ _ h => h) (Or.inl ⟨by rfl, ?_⟩) hSB ?_
                rotate_left
                · intro W hSW
                  try go_simp
                  all_goals with_reducible rfl
                simp only [Act.put, List.setIfInBounds_toArray, List.set_cons_zero, List.set_cons_succ, List.getElem_toArray, List.getElem_cons_zero, List.getElem_cons_succ]
                refine wpAnyH_take (i := 7) (oi := _) (v := ?_) rfl (by kernel_rfl) (by kernel_rfl) (by kernel_rfl) (fun _ _ _ h => h) (Or.inl ⟨by rfl, ?_⟩) hSB ?_
                rotate_left
                · intro W hSW
                  try go_simp
                  all_goals with_reducible rfl
                simp only [Act.put, List.setIfInBounds_toArray, List.set_cons_zero, List.set_cons_succ, List.getElem_toArray, List.getElem_cons_zero, List.getElem_cons_succ]
                refine wpAnyH_take (i := 8) (oi := _) (v := ?_) rfl (by kernel_rfl) (by kernel_rfl) (by kernel_rfl) (fun _ _ _ h => h) (Or.inl ⟨by rfl, ?_⟩) hSB ?_
                rotate_left
                · intro W hSW
                  try go_simp
                  all_goals with_reducible rfl
                simp only [Act.put, List.setIfInBounds_toArray, List.set_cons_zero, List.set_cons_succ, List.getElem_toArray, List.getElem_cons_zero, List.getElem_cons_succ]
                refine wpAnyH_take (i := 10) (oi := _) (v := ?_) rfl (by kernel_rfl) (by kernel_rfl) (by kernel_rfl) (fun _ _ _ h => h) (Or.inl ⟨by rfl, ?_⟩) hSB ?_
                rotate_left
                · intro W hSW
                  try go_simp
                  all_goals with_reducible rfl
                simp only [Act.put, List.setIfInBounds_toArray, List.set_cons_zero, List.set_cons_succ, List.getElem_toArray, List.getElem_cons_zero, List.getElem_cons_succ]
                refine wpAnyH_ready (rs := [9]) (by kernel_rfl) (by simp) (AllReadyH.cons rfl (fun K hK => ?_) AllReadyH.nil)
                have DC := Lib.hid (HPA.out _ hqB)
                go_simp
                go_wp2_with ((go_at_call 14; (with_reducible refine DC.out.mono ?_); rintro e wC ⟨vC, rfl, hoC, hbC⟩))
                have hqC := below_chain hqB hqB.size hbC
                refine hK.out _ _ hbC (fun _ => ?_)
                clear hK K
                refine wpAnyH_stronger (S' := BelS wC) (fun W h => below_chain hbC hbC.size h) _ _ _ _ ?_
                have hSC : BelS wC wC := BelS.refl wC
                refine wpAnyH_ready (rs := [11]) (by kernel_rfl) (by simp) (AllReadyH.cons rfl (fun K hK => ?_) AllReadyH.nil)
                have DD := Lib.hid (HPB.out _ hqC)
                go_simp
                go_wp2_with ((go_at_call 14; (with_reducible refine DD.out.mono ?_); rintro e wD ⟨vD, rfl, hoD, hbD⟩))
                have hqD := below_chain hqC hqC.size hbD
                refine hK.out _ _ hbD (fun _ => ?_)
                clear hK K
                refine wpAnyH_stronger (S' := BelS wD) (fun W h => below_chain hbD hbD.size h) _ _ _ _ ?_
                have hSD : BelS wD wD := BelS.refl wD
                refine wpAnyH_ready (rs := [12]) (by kernel_rfl) (by simp) (AllReadyH.cons rfl (fun K hK => ?_) AllReadyH.nil)
                have DE := Lib.hid (HSM.out wD _ _ (hoC.up hbD).rdP hoD.rdP)
                go_simp
                go_wp2_with ((go_at_call 13; (with_reducible refine DE.out.mono ?_); rintro e wE ⟨rfl, hbE⟩))
                have hqE := below_chain hqD hqD.size hbE
                refine hK.out _ _ hbE (fun _ => ?_)
                clear hK K
                refine wpAnyH_stronger (S' := BelS wE) (fun W h => below_chain hbE hbE.size h) _ _ _ _ ?_
                have hSE : BelS wE wE := BelS.refl wE
                refine wpAnyH_take (i := 13) (oi := _) (v := ?_) rfl (by kernel_rfl) (by kernel_rfl) (by kernel_rfl) (fun _ _ _ h => h) (Or.inl ⟨by rfl, ?_⟩) hSE ?_
                rotate_left
                · intro W hSW
                  try go_simp
                  all_goals with_reducible rfl
                simp only [Act.put, List.setIfInBounds_toArray, List.set_cons_zero, List.set_cons_succ, List.getElem_toArray, List.getElem_cons_zero, List.getElem_cons_succ]
                refine wpAnyH_take (i := 14) (oi := _) (v := ?_) rfl (by kernel_rfl) (by kernel_rfl) (by kernel_rfl) (fun _ _ _ h => h) (Or.inl ⟨by rfl, ?_⟩) hSE ?_
                rotate_left
                · intro W hSW
                  try go_simp
                  all_goals with_reducible rfl
                simp only [Act.put, List.setIfInBounds_toArray, List.set_cons_zero, List.set_cons_succ, List.getElem_toArray, List.getElem_cons_zero, List.getElem_cons_succ]
                refine wpAnyH_take (i := 15) (oi := _) (v := ?_) rfl (by kernel_rfl) (by kernel_rfl) (by kernel_rfl) (fun _ _ _ h => h) (Or.inl ⟨by rfl, ?_⟩) hSE ?_
                rotate_left
                · intro W hSW
                  try go_simp
                  all_goals with_reducible rfl
                simp only [Act.put, List.setIfInBounds_toArray, List.set_cons_zero, List.set_cons_succ, List.getElem_toArray, List.getElem_cons_zero, List.getElem_cons_succ]
                refine wpAnyH_take (i := 16) (oi := _) (v := ?_) rfl (by kernel_rfl) (by kernel_rfl) (by kernel_rfl) (fun _ _ _ h => h) (Or.inl ⟨by rfl, ?_⟩) hSE ?_
                rotate_left
                · intro W hSW
                  try go_simp
                  all_goals with_reducible rfl
                simp only [Act.put, List.setIfInBounds_toArray, List.set_cons_zero, List.set_cons_succ, List.getElem_toArray, List.getElem_cons_zero, List.getElem_cons_succ]
                refine wpAnyH_take (i := 17) (oi := _) (v := ?_) rfl (by kernel_rfl) (by kernel_rfl) (by kernel_rfl) (fun _ _ _ h => h) (Or.inl ⟨by rfl, ?_⟩) hSE ?_
                rotate_left
                · intro W hSW
                  try go_simp
                  all_goals with_reducible rfl
                simp only [Act.put, List.setIfInBounds_toArray, List.set_cons_zero, List.set_cons_succ, List.getElem_toArray, List.getElem_cons_zero, List.getElem_cons_succ]
                refine wpAnyH_take (i := 18) (oi := _) (v := undef) rfl (by kernel_rfl) (by kernel_rfl) (by kernel_rfl) (fun _ _ _ h => h) (Or.inr ⟨by rfl, rfl⟩) hSE ?_
                simp only [Act.put, List.setIfInBounds_toArray, List.set_cons_zero, List.set_cons_succ, List.getElem_toArray, List.getElem_cons_zero, List.getElem_cons_succ]
                refine wpAnyH_take (i := 19) (oi := _) (v := undef) rfl (by kernel_rfl) (by kernel_rfl) (by kernel_rfl) (fun _ _ _ h => h) (Or.inr ⟨by rfl, rfl⟩) hSE ?_
                simp only [Act.put, List.setIfInBounds_toArray, List.set_cons_zero, List.set_cons_succ, List.getElem_toArray, List.getElem_cons_zero, List.getElem_cons_succ]
                refine wpAnyH_take (i := 20) (oi := _) (v := undef) rfl (by kernel_rfl) (by kernel_rfl) (by kernel_rfl) (fun _ _ _ h => h) (Or.inr ⟨by rfl, rfl⟩) hSE ?_
                simp only [Act.put, List.setIfInBounds_toArray, List.set_cons_zero, List.set_cons_succ, List.getElem_toArray, List.getElem_cons_zero, List.getElem_cons_succ]
                refine wpAnyH_take (i := 21) (oi := _) (v := undef) rfl (by kernel_rfl) (by kernel_rfl) (by kernel_rfl) (fun _ _ _ h => h) (Or.inr ⟨by rfl, rfl⟩) hSE ?_
                simp only [Act.put, List.setIfInBounds_toArray, List.set_cons_zero, List.set_cons_succ, List.getElem_toArray, List.getElem_cons_zero, List.getElem_cons_succ]
                refine wpAnyH_take (i := 22) (oi := _) (v := undef) rfl (by kernel_rfl) (by kernel_rfl) (by kernel_rfl) (fun _ _ _ h => h) (Or.inr ⟨by rfl, rfl⟩) hSE ?_
                simp only [Act.put, List.setIfInBounds_toArray, List.set_cons_zero, List.set_cons_succ, List.getElem_toArray, List.getElem_cons_zero, List.getElem_cons_succ]
                refine wpAnyH_take (i := 23) (oi := _) (v := undef) rfl (by kernel_rfl) (by kernel_rfl) (by kernel_rfl) (fun _ _ _ h => h) (Or.inr ⟨by rfl, rfl⟩) hSE ?_
                simp only [Act.put, List.setIfInBounds_toArray, List.set_cons_zero, List.set_cons_succ, List.getElem_toArray, List.getElem_cons_zero, List.getElem_cons_succ]
                refine wpAnyH_take (i := 24) (oi := _) (v := ?_) rfl (by kernel_rfl) (by kernel_rfl) (by kernel_rfl) (fun _ _ _ h => h) (Or.inl ⟨by rfl, ?_⟩) hSE ?_
                rotate_left
                · intro W hSW
                  try go_simp
                  all_goals with_reducible rfl
                simp only [Act.put, List.setIfInBounds_toArray, List.set_cons_zero, List.set_cons_succ, List.getElem_toArray, List.getElem_cons_zero, List.getElem_cons_succ]
                refine wpAnyH_take (i := 25) (oi := _) (v := ?_) rfl (by kernel_rfl) (by kernel_rfl) (by kernel_rfl) (fun _ _ _ h => h) (Or.inl ⟨by rfl, ?_⟩) hSE ?_
                rotate_left
                · intro W hSW
                  try go_simp
                  all_goals with_reducible rfl
                simp only [Act.put, List.setIfInBounds_toArray, List.set_cons_zero, List.set_cons_succ, List.getElem_toArray, List.getElem_cons_zero, List.getElem_cons_succ]
                refine wpAnyH_take (i := 26) (oi := _) (v := ?_) rfl (by kernel_rfl) (by kernel_rfl) (by kernel_rfl) (fun _ _ _ h => h) (Or.inl ⟨by rfl, ?_⟩) hSE ?_
                rotate_left
                · intro W hSW
                  try go_simp
                  all_goals with_reducible rfl
                simp only [Act.put, List.setIfInBounds_toArray, List.set_cons_zero, List.set_cons_succ, List.getElem_toArray, List.getElem_cons_zero, List.getElem_cons_succ]
                refine wpAnyH_done (by kernel_rfl) ?_ _
                have hbo := below_chain hqR hqR.size hqE
                go_wp2_with fail
                go_ret
                exact ⟨rfl, hbo⟩
end Go.Proofs.YtohnhdandkkonaaDoor
