/- The walk of the document's Verify. -/
import Derived.Test.YtgomhojaappbnaaDoorSignI
import Derived.Test.YtgomhojaappbnaaDoorSignH
namespace Go.Proofs.YtgomhojaappbnaaDoor
open Go Go.RowKit

theorem climbL_length (key : Nat) (sig h : List UInt8) (hh : h.length = 32) : ∀ l, (climbL key sig h l).length = 32
  | 0 => hh
  | l + 1 => by rw [climbL]; split <;> exact nodeL_length _ _

set_option maxHeartbeats 4000000 in
set_option maxRecDepth 100000 in
theorem rverify_yes (v1 v3 v4 : Value) (root msg sig : List UInt8) (key : Nat) (w : World) (h1 : Rd w w.heap.size v1 root) (h3 : Rd w w.heap.size v3 msg) (h4 : Rd w w.heap.size v4 sig) (hs : sig.length = 672) (hkey : key < 8) (hr : root.length = 32) (fr : TypeId × Nat × Nat) (hk : w.heap[1]? = some (.cells kVals fr.1 fr.2)) :
    Calls Tryd.prog 14 #[v1, .int .i64 (key : Int), v3, v4] w fun e w' => e = .returned (.bool (sameB (climbL key sig (verLeaf root key msg sig) 3) root)) ∧ Below w.heap.size w w' := by
  obtain ⟨iR, hiR, hzR, hsR, hbR⟩ := info_parts Tryd.infoRow
  have hn0 := blk_lt hk
  have HK := Lib.hid hk
  clear hk
  obtain ⟨A1, c1, rfl⟩ := h1.formN hr
  obtain ⟨A3, c3, rfl⟩ := h3.form
  obtain ⟨A4, c4, rfl⟩ := h4.formN hs
  obtain ⟨-, b, o, rfl, hlb, -⟩ := h4.cell (by omega)
  have hc4 : 672 ≤ c4 ∧ c4 ≤ maxLen := by
    obtain ⟨A', c', e, q1, q2, _⟩ := id h4
    injection e with _ e2 e3
    omega
  obtain ⟨hc4, hc4m⟩ := hc4
  unfold maxLen at hc4m
  have i1 : (0 : Int) ≤ (key : Int) := by omega
  have i2 : (key : Int) < 8 := by omega
  have HS := Lib.hid hs
  have HR := Lib.hid hr
  clear hs hr
  go_enter Tryd.func14, Tryd.ntmps14
  go_wp2_with fail
  refine (rdigits_any _ _ root msg key w h1 h3 (by omega) fr HK.out).mono ?_
  rintro e w2 ⟨vD, rfl, hoD, hb2⟩
  have hD := digitsL_length root key msg
  have hDl := digitsL_le root key msg
  have hV : Hid (verLeaf root key msg sig = leafOf key (rowL (fun c => walkL c ((digitsL root key msg).getD c 0) (15 - (digitsL root key msg).getD c 0) (pieceL sig c)) 18)) := Lib.hid rfl
  generalize digitsL root key msg = D at *
  obtain ⟨AD, cD, rfl⟩ := hoD.form
  have HOD := Lib.hid hoD
  have HD := Lib.hid hD
  have HDl := Lib.hid hDl
  rw [hD]
  clear hD hDl hoD
  go_wp2_with fail
  go_loopw [9, 37] (fun ev i wr => ∃ k : Nat, k ≤ 18 ∧ i = .int .i64 (k : Int) ∧ OwnR wr w.heap.size w2.heap.size ev (rowL (fun c => walkL c (D.getD c 0) (15 - D.getD c 0) (pieceL sig c)) k) ∧ Below w2.heap.size w2 wr)
    (fun _ i _ => 18 - (intOf i).toNat)
  case atStart => exact ⟨0, by omega, rfl, OwnR.nil _ _ _, Below.refl _ _⟩
  case round =>
    obtain ⟨k, hk18, rfl, hoe, hbe⟩ := hrel
    have hq := below_chain hb2 hb2.size hbe
    obtain ⟨Ae, ce, rfl⟩ := hoe.form
    by_cases hlt : k < 18
    · have i3 : (k : Int) < 18 := by omega
      have i4 : (0 : Int) ≤ (k : Int) := by omega
      obtain ⟨g, hAD, -, hgl, hgc⟩ := (HOD.out.up hbe).at_ k (by have := HD.out; omega)
      subst hAD
      have hdl := getD_le D k HDl.out
      have hl1 : (rowL (fun c => walkL c (D.getD c 0) (15 - D.getD c 0) (pieceL sig c)) k).length ≤ 1000 := by rw [rowL_length]; omega
      have hSS : Hid (rowL (fun c => walkL c (D.getD c 0) (15 - D.getD c 0) (pieceL sig c)) (k + 1) = rowL (fun c => walkL c (D.getD c 0) (15 - D.getD c 0) (pieceL sig c)) k ++ [walkL k (D.getD k 0) (15 - D.getD k 0) (pieceL sig k)]) := Lib.hid rfl
      generalize rowL (fun c => walkL c (D.getD c 0) (15 - D.getD c 0) (pieceL sig c)) k = L at *
      generalize D.getD k 0 = d at *
      have j3 : 32 * (k : Int) + 32 ≤ (c4 : Int) := by omega
      have j5 : 32 * (k : Int) + 32 ≤ 672 := by omega
      have j6 : ¬ 32 * (k : Int) = (c4 : Int) := by omega
      have j7 : 32 * (k : Int) ≤ 32 * (k : Int) + 32 := by omega
      have hpc := ((h4.part (32 * k) 32 (by omega)).below hq)
      have hps : RdS wr w.heap.size (.slice (some ⟨b, o + 32 * k, none⟩) 32 (c4 - 32 * k)) (pieceL sig k) := RdS.old hpc hq.size
      go_wp2_with fail
      refine (along_any _ (pieceL sig k) k d 15 wr w.heap.size hps (by omega) (by omega) (by omega) fr ((hq.block _ hn0).trans HK.out)).mono ?_
      rintro e w3 ⟨v3', rfl, hr3, hb3⟩
      generalize walkL k d (15 - d) (pieceL sig k) = l3 at *
      obtain ⟨A5, c5, rfl⟩ := hr3.1.form
      have ho3 := hoe.up hb3
      have hq3 := below_chain hbe hbe.size hb3
      clear hoe hpc hps hgc
      have hbx : Below w3.heap.size w3 (w3.alloc (.cells #[.slice A5 l3.length c5] 22)) := (Below.refl _ _).alloc (Nat.le_refl _) _
      have hc5 : (w3.alloc (.cells #[.slice A5 l3.length c5] 22)).cell? ⟨w3.heap.size, 0, none⟩ = some (.slice A5 l3.length c5) := blk_cell (heap_alloc_new w3 _) 0
      have hw3 := below_chain hq3 hq3.size hbx
      go_wp2_with (at_builtin; refine wpList_append_row rfl (.tmp 42) (.tmp 53) _ rfl iR Tryd.underlying34 hiR hzR hsR hbR rfl (ho3.up hbx) rfl hc5 (hr3.up hbx) hb2.size hl1 hw3.size ?_; intro v6 w6 ho6 hg6; have hq6 : Below w2.heap.size w2 w6 := (ho3.up hbx).below hw3 hw3.size hg6)
      go_roundw
      case rel => exact ⟨k + 1, by omega, by go_num, by rw [hSS.out]; exact ho6, hq6⟩
      case measure => simp [intOf]; omega
    · have i3 : ¬ (k : Int) < 18 := by omega
      obtain rfl : k = 18 := by omega
      have hl0 : (rowL (fun c => walkL c (D.getD c 0) (15 - D.getD c 0) (pieceL sig c)) 18).length ≤ 900 := by rw [rowL_length]; omega
      have hrs := hoe.rowS
      generalize rowL (fun c => walkL c (D.getD c 0) (15 - D.getD c 0) (pieceL sig c)) 18 = L at *
      clear hoe
      go_wp2_with fail
      refine (rleaf_any key _ L w.heap.size wr hrs (by omega) hl0 fr ((hq.block _ hn0).trans HK.out)).mono ?_
      rintro e w3 ⟨v3', rfl, ho3, hb3⟩
      rw [← hV.out] at ho3
      have hr3 : RdS w3 w.heap.size v3' (verLeaf root key msg sig) := ho3.rdS
      have hq3 := below_chain hq hq.size hb3
      have HVl := Lib.hid (show (verLeaf root key msg sig).length = 32 from leafOf_length _ _)
      clear ho3 hrs hq hbe hb3 HOD HD HDl hV
      go_wp2_with fail
      go_loopw [12, 13] (fun hv i wr => ∃ l : Nat, l ≤ 3 ∧ i = .int .i64 (l : Int) ∧ RdS wr w.heap.size hv (climbL key sig (verLeaf root key msg sig) l) ∧ Below w.heap.size w wr)
        (fun _ i _ => 3 - (intOf i).toNat)
      case atStart => exact ⟨0, by omega, rfl, hr3, hq3⟩
      case round =>
        clear hr3 hq3
        obtain ⟨l, hl3, rfl, hr, hqr⟩ := hrel
        obtain ⟨Ah, ch, rfl⟩ := hr.1.form
        by_cases hlt2 : l < 3
        · have i5 : (l : Int) < 3 := by omega
          have i4 : (0 : Int) ≤ (l : Int) := by omega
          have j3 : 32 * (18 + (l : Int)) + 32 ≤ (c4 : Int) := by omega
          have j5 : 32 * (18 + (l : Int)) + 32 ≤ 672 := by omega
          have j6 : ¬ 32 * (18 + (l : Int)) = (c4 : Int) := by omega
          have j7 : 32 * (18 + (l : Int)) ≤ 32 * (18 + (l : Int)) + 32 := by omega
          have hrp := ((h4.up (Nat.le_refl _) hqr).part (32 * (18 + l)) 32 (by omega))
          have hHr := hr.1
          by_cases hpar : key / 2 ^ l % 2 = 0
          · have hbt : (bits .and .i64 ((key : Int) / 2 ^ l) 1 == 0) = true := by rw [bit_at _ _ (by omega), hpar]; rfl
            have hSn : Hid (climbL key sig (verLeaf root key msg sig) (l + 1) = nodeL (climbL key sig (verLeaf root key msg sig) l) (pieceL sig (18 + l))) := Lib.hid (by rw [climbL, if_pos hpar])
            clear hpar
            obtain ⟨L2, hL2⟩ : ∃ L, L = climbL key sig (verLeaf root key msg sig) (l + 1) := ⟨_, rfl⟩
            rw [← hL2] at hSn
            have HL2 := Lib.hid hL2
            clear hL2
            generalize climbL key sig (verLeaf root key msg sig) l = L at *
            have hp := partsOf2 wr _ _ L (pieceL sig (18 + l)) 22 hHr hrp
            have hbx : Below wr.heap.size wr (wr.alloc (.cells #[.slice Ah L.length ch, .slice (some ⟨b, o + 32 * (18 + l), none⟩) 32 (c4 - 32 * (18 + l))] 22)) := (Below.refl _ _).alloc (Nat.le_refl _) _
            have hbz := below_chain hqr hqr.size hbx
            go_wp2_with fail
            refine (rtagged_any nodeWord _ [L, pieceL sig (18 + l)] _ hp (by unfold maxLen nodeWord; decide) (by simp) fr ((hbz.block _ hn0).trans HK.out)).mono ?_
            rintro e w5 ⟨v5, rfl, ho5, hb5⟩
            have e5 : shaSum (formB (strBytes nodeWord) ++ formBs [L, pieceL sig (18 + l)]) = L2 := hSn.out.symm
            rw [e5] at ho5
            clear e5
            have hr5 : RdS w5 w.heap.size v5 L2 := ho5.rdS
            have hb6 := below_chain hbz hbz.size hb5
            clear hbz hbx hp ho5 hr hqr hrp hHr
            go_wp2_with fail
            go_roundw
            case rel => exact ⟨l + 1, by omega, by go_num, by rw [← HL2.out]; exact hr5, hb6⟩
            case measure => simp [intOf]; omega
          · have hbt : (bits .and .i64 ((key : Int) / 2 ^ l) 1 == 0) = false := by
              have h2 : key / 2 ^ l % 2 = 1 := by omega
              rw [bit_at _ _ (by omega), h2]; rfl
            have hSn : Hid (climbL key sig (verLeaf root key msg sig) (l + 1) = nodeL (pieceL sig (18 + l)) (climbL key sig (verLeaf root key msg sig) l)) := Lib.hid (by rw [climbL, if_neg hpar])
            clear hpar
            obtain ⟨L2, hL2⟩ : ∃ L, L = climbL key sig (verLeaf root key msg sig) (l + 1) := ⟨_, rfl⟩
            rw [← hL2] at hSn
            have HL2 := Lib.hid hL2
            clear hL2
            generalize climbL key sig (verLeaf root key msg sig) l = L at *
            have hp := partsOf2 wr _ _ (pieceL sig (18 + l)) L 22 hrp hHr
            have hbx : Below wr.heap.size wr (wr.alloc (.cells #[.slice (some ⟨b, o + 32 * (18 + l), none⟩) 32 (c4 - 32 * (18 + l)), .slice Ah L.length ch] 22)) := (Below.refl _ _).alloc (Nat.le_refl _) _
            have hbz := below_chain hqr hqr.size hbx
            go_wp2_with fail
            refine (rtagged_any nodeWord _ [pieceL sig (18 + l), L] _ hp (by unfold maxLen nodeWord; decide) (by simp) fr ((hbz.block _ hn0).trans HK.out)).mono ?_
            rintro e w5 ⟨v5, rfl, ho5, hb5⟩
            have e5 : shaSum (formB (strBytes nodeWord) ++ formBs [pieceL sig (18 + l), L]) = L2 := hSn.out.symm
            rw [e5] at ho5
            clear e5
            have hr5 : RdS w5 w.heap.size v5 L2 := ho5.rdS
            have hb6 := below_chain hbz hbz.size hb5
            clear hbz hbx hp ho5 hr hqr hrp hHr
            go_wp2_with fail
            go_roundw
            case rel => exact ⟨l + 1, by omega, by go_num, by rw [← HL2.out]; exact hr5, hb6⟩
            case measure => simp [intOf]; omega
        · have i5 : ¬ (l : Int) < 3 := by omega
          obtain rfl : l = 3 := by omega
          have hr1 := h1.up (Nat.le_refl _) hqr
          obtain ⟨L, hL⟩ : ∃ L, L = climbL key sig (verLeaf root key msg sig) 3 := ⟨_, rfl⟩
          have hLl : L.length = 32 := by rw [hL]; exact climbL_length _ _ _ HVl.out 3
          rw [← hL] at hr ⊢
          have HL := Lib.hid hL
          clear hL
          obtain ⟨-, gb, go, rfl, hgl, hgc⟩ := hr.1.cell (by omega)
          obtain ⟨-, rb, ro, rfl, hrl, hrc⟩ := hr1.cell (by omega)
          rw [hLl] at hr ⊢
          have HGc := Lib.hid hgc
          have HRc := Lib.hid hrc
          have HLl := Lib.hid hLl
          clear hLl hgc hrc hr hr1
          rename World => wo
          go_wp2_with fail
          go_loopw [15] (fun i wr => ∃ m : Nat, m ≤ 32 ∧ i = .int .i64 (m : Int) ∧ L.take m = root.take m ∧ Below wo.heap.size wo wr)
            (fun i _ => 32 - (intOf i).toNat)
          case atStart => exact ⟨0, by omega, rfl, by simp, Below.refl _ _⟩
          case round =>
            obtain ⟨m, hm, rfl, htk, hbm⟩ := hrel
            have HT := Lib.hid htk
            clear htk
            have hqm := below_chain hqr hqr.size hbm
            by_cases hmlt : m < 32
            · have q1 : (0 : Int) ≤ (m : Int) := by omega
              have q2 : (m : Int) < 32 := by omega
              have hmL : m < L.length := by have := HLl.out; omega
              have hmR : m < root.length := by have := HR.out; omega
              have x1 : wr.cell? ⟨gb, go + m, none⟩ = some (.int .u8 (L[m].toNat : Int)) := (hbm.cell (p := ⟨gb, go + m, none⟩) hgl).trans (HGc.out m hmL)
              have x2 : wr.cell? ⟨rb, ro + m, none⟩ = some (.int .u8 (root[m].toNat : Int)) := (hbm.cell (p := ⟨rb, ro + m, none⟩) hrl).trans (HRc.out m hmR)
              by_cases heq : L[m] = root[m]
              · have hne2 : ((L[m].toNat : Int) != (root[m].toNat : Int)) = false := by simp [heq]
                go_wp2_with fail
                go_quiet (fail)
                go_wp2_with fail
                go_roundw
                case rel =>
                  refine ⟨m + 1, by omega, by go_num, ?_, below_drewN' hbm _⟩
                  have h2 := HT.out
                  rw [List.take_succ_eq_append_getElem hmL, List.take_succ_eq_append_getElem hmR, h2, heq]
                case measure => simp [intOf]; omega
              · have hne2 : ((L[m].toNat : Int) != (root[m].toNat : Int)) = true := by
                  rw [bne_iff_ne]; intro h; exact heq (bval_ne.1 h)
                have HE : Hid (sameB (climbL key sig (verLeaf root key msg sig) 3) root = false) := Lib.hid (by
                  rw [← HL.out]; exact sameB_no (by intro h; exact heq (by simp only [h])))
                go_wp2_with fail
                go_quiet (fail)
                go_wp2_with fail
                go_ret
                rw [HE.out]
                exact ⟨rfl, below_drewN' hqm _⟩
            · have q2 : ¬ (m : Int) < 32 := by omega
              have HE : Hid (sameB (climbL key sig (verLeaf root key msg sig) 3) root = true) := Lib.hid (by
                rw [← HL.out]
                have h1 := HT.out
                rw [List.take_of_length_le (by have := HLl.out; omega), List.take_of_length_le (by have := HR.out; omega)] at h1
                exact sameB_yes h1)
              go_wp2_with fail
              go_ret
              rw [HE.out]
              exact ⟨rfl, hqm⟩

set_option maxHeartbeats 4000000 in
theorem rverify_no (v1 v3 v4 : Value) (root msg sig : List UInt8) (key : Int) (w : World) (h1 : Rd w w.heap.size v1 root) (h4 : Rd w w.heap.size v4 sig) (hno : ¬ (sig.length = 672 ∧ 0 ≤ key ∧ key < 8 ∧ root.length = 32)) :
    Calls Tryd.prog 14 #[v1, .int .i64 key, v3, v4] w fun e w' => e = .returned (.bool false) ∧ Below w.heap.size w w' := by
  obtain ⟨A1, c1, rfl⟩ := h1.form
  obtain ⟨A4, c4, rfl⟩ := h4.form
  by_cases hs : sig.length = 672
  · by_cases hk0 : key < 0
    · rw [hs]
      clear hs hno h1 h4
      go_enter Tryd.func14, Tryd.ntmps14
      go_wp2_with fail
      go_ret
      exact ⟨rfl, Below.refl _ _⟩
    · by_cases hk8 : 8 ≤ key
      · rw [hs]
        have hk1 : 0 ≤ key := by omega
        clear hs hno h1 h4 hk0
        go_enter Tryd.func14, Tryd.ntmps14
        go_wp2_with fail
        go_ret
        exact ⟨rfl, Below.refl _ _⟩
      · have hr : ¬ root.length = 32 := fun h => hno ⟨hs, by omega, by omega, h⟩
        have hr2 : ((root.length : Int) != 32) = true := by rw [bne_iff_ne]; omega
        rw [hs]
        have hk1 : 0 ≤ key := by omega
        have hk9 : key < 8 := by omega
        clear hs hno h1 h4 hk0 hk8 hr
        go_enter Tryd.func14, Tryd.ntmps14
        go_wp2_with fail
        go_ret
        exact ⟨rfl, Below.refl _ _⟩
  · have hr2 : ((sig.length : Int) != 672) = true := by rw [bne_iff_ne]; omega
    clear hs hno h1 h4
    go_enter Tryd.func14, Tryd.ntmps14
    go_wp2_with fail
    go_ret
    exact ⟨rfl, Below.refl _ _⟩

theorem rverify_any (v1 v3 v4 : Value) (root msg sig : List UInt8) (key : Int) (w : World) (h1 : Rd w w.heap.size v1 root) (h3 : Rd w w.heap.size v3 msg) (h4 : Rd w w.heap.size v4 sig) (fr : TypeId × Nat × Nat) (hk : w.heap[1]? = some (.cells kVals fr.1 fr.2)) :
    Calls Tryd.prog 14 #[v1, .int .i64 key, v3, v4] w fun e w' => e = .returned (.bool (verB root key msg sig)) ∧ Below w.heap.size w w' := by
  by_cases h : sig.length = 672 ∧ 0 ≤ key ∧ key < 8 ∧ root.length = 32
  · rw [verB_yes h]
    obtain ⟨hs, h0, h8, hr⟩ := h
    obtain ⟨k, rfl⟩ := Int.eq_ofNat_of_zero_le h0
    exact rverify_yes v1 v3 v4 root msg sig k w h1 h3 h4 hs (by omega) hr fr hk
  · rw [verB_no h]
    exact rverify_no v1 v3 v4 root msg sig key w h1 h4 h
end Go.Proofs.YtgomhojaappbnaaDoor
