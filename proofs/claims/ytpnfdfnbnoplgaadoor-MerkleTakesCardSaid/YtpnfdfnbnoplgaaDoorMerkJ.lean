
/- The walk of merkle's Prove. -/
import Derived.Test.YtpnfdfnbnoplgaaDoorMerkK0
namespace Go.Proofs.YtpnfdfnbnoplgaaDoor
open Go Go.RowKit
set_option linter.unusedVariables false
variable {w w' : World} {B : Nat}

theorem Tryd.infoLeaf : (Tryd.prog.info? 46).map (fun i => (i.zero, i.size, i.bytes)) = some (some (.agg #[.int .i64 0, .string ⟨#[]⟩, .slice none 0 0, .slice none 0 0]), 4, 72) := by kernel_rfl

theorem leafCells_get {W : World} {g : Nat} {x0 x1 x2 x3 : Value} {E : TypeId} (h : W.heap[g]? = some (.cells #[x0, x1, x2, x3] E (0, 0))) (j : Nat) (hj : j < 4) : W.cell? ⟨g, j, none⟩ = [x0, x1, x2, x3][j]? := by
  rw [blk_cell h j]
  simp
set_option maxHeartbeats 4000000 in
theorem prove_any (ps : List Pr) (key : ByteArray) (v : Value) (w : World) (hr : RdP w w.heap.size v ps) (hnl : ∀ p ∈ ps, p.1.size ≤ maxLen) (hks : key.size ≤ maxLen) (fr : TypeId × Nat × Nat) (hk : w.heap[0]? = some (.cells kVals fr.1 fr.2)) :
    Calls Tryd.prog 12 #[v, .string key] w fun e w' => ∃ v', e = .returned (.tuple #[v', .int .i64 (proveM ps key).2]) ∧ ProofN w' w.heap.size v' (proveM ps key).1 ∧ Below w.heap.size w w' := by
  obtain ⟨i0, hi0', hz, hsz, hby⟩ := info_parts Tryd.infoLeaf
  have hnk := blk_lt hk
  have HK := Lib.hid hk
  clear hk
  have C1 := Lib.hid (fun (w1 : World) (hb : Below w.heap.size w w1) => ordered_any w1 v ps ((hr.below hb).more hb.size) hnl)
  have C2 := Lib.hid (fun (w1 : World) => keyFits_any key w1 hks)
  have C3 := Lib.hid (fun (w1 : World) (hb : Below w.heap.size w w1) (h0 : ps.length ≤ 65536) => place_any w1 v ps key ((hr.below hb).more hb.size) h0)
  have C4 := Lib.hid (fun (w1 : World) (hb : Below w.heap.size w w1) (h0 : ps.length ≤ 65536) => rows_any w1 v ps ((hr.below hb).more hb.size) hnl h0 fr ((hb.block _ hnk).trans HK.out))
  have C5 := Lib.hid (fun (ho : ordB ps = true) (w1 : World) (hb : Below w.heap.size w w1) (h0 : ps.length ≤ 65536) (i t : Nat) (vr : Value) (Br Br' : Nat) (hi : i < ps.length) (ht : t ≤ 17) (hG : ∀ j, j < t → 2 ≤ (upN j (leaves ps)).length) (hU : (upN t (leaves ps)).length ≤ 1) (hall : OwnRR w1 Br Br' vr (levN (leaves ps) t)) =>
    leafAt_any 0 ps t i v vr w1 (Nat.zero_le _) hi h0 ((hr.below hb).more hb.size) hnl (fun p hp => (ordB_pair ho hp).2) ht hG hU Br Br' hall)
  have HPR := Lib.hid hr
  obtain ⟨A, c, rfl, hc, hm, hp⟩ := hr
  unfold maxLen at hm
  obtain ⟨n, hn⟩ : ∃ n, n = ps.length := ⟨_, rfl⟩
  rw [← hn] at hc C1 C3 C4 C5 HPR ⊢
  have HN := Lib.hid hn
  have HP := Lib.hid hp
  have HNL := Lib.hid hnl
  have hb0 : Below w.heap.size w (w.alloc (.cells #[.int .i64 0, .slice none 0 0] 33)) := (Below.refl _ _).alloc (Nat.le_refl _) _
  have hcells := heap_alloc_new w (.cells #[.int .i64 0, .slice none 0 0] 33)
  have hl0 : w.heap.size < (w.alloc (.cells #[.int .i64 0, .slice none 0 0] 33)).heap.size := by simp
  clear hn hp hnl
  have HR0 := Lib.hid (fun h : ¬ (ordB ps = true ∧ keyB key = true) => proveM_no h)
  have HR1 := Lib.hid (fun (h : ordB ps = true) (k : keyB key = true) => proveM_yes h k)
  generalize proveM ps key = R at *
  go_enter Tryd.func12, Tryd.ntmps12
  go_wp2_with fail
  generalize w.alloc (.cells #[.int .i64 0, .slice none 0 0] 33) = W0 at *
  refine (C1.out W0 hb0).mono ?_
  rintro e w1 ⟨rfl, hb1⟩
  have hq1 := below_chain hb0 hb0.size hb1
  have h41 := (hb1.block w.heap.size hl0).trans hcells
  have hl1 : w.heap.size < w1.heap.size := Nat.lt_of_lt_of_le hl0 hb1.size
  clear hb1 hb0 hcells C1
  have z0 : w1.cell? ⟨w.heap.size, 0, none⟩ = some (.int .i64 0) := blk_cell h41 0
  have z1 : w1.cell? ⟨w.heap.size, 1, none⟩ = some (.slice none 0 0) := blk_cell h41 1
  have y0 := blk_free h41 0
  have y1 := blk_free h41 1
  have hG4 := blk_set2 h41 (.int .i64 0) (.slice none 0 0)
  have hout := Below.set2' (g := w.heap.size) hq1 (Nat.le_refl _) (.int .i64 0) (.slice none 0 0)
  cases ho : ordB ps with
  | false =>
    have hR := Lib.hid (HR0.out (by rw [ho]; simp))
    go_wp2_with fail
    generalize ((w1.setCell ⟨w.heap.size, 0, none⟩ (.int .i64 0)).setCell ⟨w.heap.size, 1, none⟩ (.slice none 0 0)) = w9 at *
    have g0 : w9.cell? ⟨w.heap.size, 0, none⟩ = some (.int .i64 0) := blk_cell hG4 0
    have g1 : w9.cell? ⟨w.heap.size, 1, none⟩ = some (.slice none 0 0) := blk_cell hG4 1
    refine bodyPost_ret (v := .tuple #[.agg #[.int .i64 0, .slice none 0 0], .int .i64 60]) (by simp [results, Tryd.results12, go_sem, g0, g1]) rfl ⟨.agg #[.int .i64 0, .slice none 0 0], ?_, ?_, hout⟩
    · rw [hR.out]
    · rw [hR.out]; exact ⟨_, rfl, OwnX.nil _ _⟩
  | true =>
    go_wp2_with fail
    refine (C2.out w1).mono ?_
    rintro e w2 ⟨rfl, rfl⟩
    cases hkb : keyB key with
    | false =>
      have hR := Lib.hid (HR0.out (by rw [hkb]; simp))
      go_wp2_with fail
      generalize ((w1.setCell ⟨w.heap.size, 0, none⟩ (.int .i64 0)).setCell ⟨w.heap.size, 1, none⟩ (.slice none 0 0)) = w9 at *
      have g0 : w9.cell? ⟨w.heap.size, 0, none⟩ = some (.int .i64 0) := blk_cell hG4 0
      have g1 : w9.cell? ⟨w.heap.size, 1, none⟩ = some (.slice none 0 0) := blk_cell hG4 1
      refine bodyPost_ret (v := .tuple #[.agg #[.int .i64 0, .slice none 0 0], .int .i64 60]) (by simp [results, Tryd.results12, go_sem, g0, g1]) rfl ⟨.agg #[.int .i64 0, .slice none 0 0], ?_, ?_, hout⟩
      · rw [hR.out]
      · rw [hR.out]; exact ⟨_, rfl, OwnX.nil _ _⟩
    | true =>
      have hn6 : n ≤ 65536 := by rw [HN.out]; exact ordB_len ho
      have HR := Lib.hid (HR1.out ho hkb)
      have HH := Lib.hid (selM_hit ps key)
      have HMI := Lib.hid (selM_miss ps key)
      have hple := placeM_le key ps
      rw [← HN.out] at hple
      clear hG4 hout z0 z1 y0 y1
      have HO := Lib.hid ho
      clear ho hkb
      go_wp2_with fail
      refine (C3.out w1 hq1 hn6).mono ?_
      rintro e w3 ⟨rfl, rfl⟩
      have hcase : (hitB ps key = true ∧ ∃ (h : placeM key ps < ps.length), (ps[placeM key ps].1.toList == key.toList) = true) ∨ (hitB ps key = false ∧ ∃ (h : placeM key ps < ps.length), (ps[placeM key ps].1.toList == key.toList) = false) ∨ (hitB ps key = false ∧ placeM key ps = ps.length) := by
        by_cases h : placeM key ps < ps.length
        · cases hb : (ps[placeM key ps].1.toList == key.toList) with
          | true => exact .inl ⟨by unfold hitB; rw [List.getElem?_eq_getElem h]; exact hb, h, hb⟩
          | false => exact .inr (.inl ⟨by unfold hitB; rw [List.getElem?_eq_getElem h]; exact hb, h, hb⟩)
        · have := placeM_le key ps
          exact .inr (.inr ⟨by unfold hitB; rw [List.getElem?_eq_none (by omega)], by omega⟩)
      generalize hitB ps key = hit at *
      generalize leavesP ps key = LP at *
      generalize placeM key ps = q at *
      have hbT := hq1.alloc hq1.size (.cells #[.int .i64 ((q : Int) - 1), .int .i64 (q : Int)] 3)
      have hTn := heap_alloc_new w1 (.cells #[.int .i64 ((q : Int) - 1), .int .i64 (q : Int)] 3)
      have hT4 := (heap_alloc_old w1 (.cells #[.int .i64 ((q : Int) - 1), .int .i64 (q : Int)] 3) hl1).trans h41
      have hTl : w1.heap.size < (w1.alloc (.cells #[.int .i64 ((q : Int) - 1), .int .i64 (q : Int)] 3)).heap.size := by simp
      obtain ⟨T, off, cT, hTT⟩ : ∃ (T : List Int) (off cT : Nat), Hid (selM ps T = LP ∧ T.length ≤ 2 ∧ (∀ i ∈ T, -1 ≤ i ∧ i ≤ n) ∧ ∀ j (h : j < T.length), (w1.alloc (.cells #[.int .i64 ((q : Int) - 1), .int .i64 (q : Int)] 3)).cell? ⟨w1.heap.size, off + j, none⟩ = some (.int .i64 T[j])) ∧ ((hit = true ∧ off = 1 ∧ cT = 1 ∧ T.length = 1) ∨ (hit = false ∧ off = 0 ∧ cT = 2 ∧ T.length = 2)) := by
        have e0 := blk_cell hTn 0
        have e1 := blk_cell hTn 1
        cases hhit : hit with
        | true =>
          refine ⟨[(q : Int)], 1, 1, Lib.hid ⟨HH.out hhit, by simp, fun i hi => by simp at hi; omega, fun j hj => ?_⟩, .inl ⟨rfl, rfl, rfl, rfl⟩⟩
          obtain rfl : j = 0 := by simp at hj; exact hj
          exact e1
        | false =>
          refine ⟨[(q : Int) - 1, (q : Int)], 0, 2, Lib.hid ⟨HMI.out hhit, by simp, fun i hi => by simp at hi; omega, fun j hj => ?_⟩, .inr ⟨rfl, rfl, rfl, rfl⟩⟩
          rcases j with _ | _ | j
          · exact e0
          · exact e1
          · simp at hj; omega
      clear hTn HH HMI
      have i1 : (0 : Int) ≤ (q : Int) := by omega
      obtain ⟨HTT, hoff⟩ := hTT
      have HSEL := Lib.hid (selM_snoc ps)
      rcases hcase with ⟨hh, hqn, heq⟩ | ⟨hh, hqn, heq⟩ | ⟨hh, hqn⟩
      all_goals (first
        | (have hx : q = ps.length := hqn
           obtain ⟨-, rfl, rfl, hTL⟩ := hoff.resolve_left (by rw [hh]; simp)
           rw [← HN.out] at hqn hx
           have i2 : ¬ (q : Int) < (n : Int) := by omega
           clear hoff hh hqn hx)
        | (have hx : hit = true := hh
           obtain ⟨-, rfl, rfl, hTL⟩ := hoff.resolve_right (by rw [hx]; simp)
           obtain ⟨b, o, rfl, hbl, hcell⟩ := HP.out (by omega)
           have hcq := (hbT.cell (p := ⟨b, o + q * 2, none⟩) hbl).trans (hcell q hqn).1
           rw [← HN.out] at hqn
           have i2 : (q : Int) < (n : Int) := by omega
           generalize ps[q].1 = s at *
           clear hoff hh hcell hx)
        | (have hx : hit = false := hh
           obtain ⟨-, rfl, rfl, hTL⟩ := hoff.resolve_left (by rw [hx]; simp)
           obtain ⟨b, o, rfl, hbl, hcell⟩ := HP.out (by omega)
           have hcq := (hbT.cell (p := ⟨b, o + q * 2, none⟩) hbl).trans (hcell q hqn).1
           rw [← HN.out] at hqn
           have i2 : (q : Int) < (n : Int) := by omega
           generalize ps[q].1 = s at *
           clear hoff hh hcell hx))
      all_goals (
        go_wp2_with fail
        refine (C4.out _ hbT hn6).mono ?_
        rintro e Wr ⟨vr, rfl, t, ht, hG, hU, hall, hbr⟩
        have hqr := below_chain hbT hbT.size hbr
        have h4r := (hbr.block w.heap.size (Nat.lt_trans hl1 hTl)).trans hT4
        have HTC : Hid (selM ps T = LP ∧ T.length ≤ 2 ∧ (∀ i ∈ T, -1 ≤ i ∧ i ≤ (n : Int)) ∧ ∀ j (h : j < T.length), Wr.cell? ⟨w1.heap.size, _ + j, none⟩ = some (.int .i64 T[j])) :=
          Lib.hid ⟨HTT.out.1, HTT.out.2.1, HTT.out.2.2.1, fun j hj => (hbr.cell (p := ⟨w1.heap.size, _ + j, none⟩) hTl).trans (HTT.out.2.2.2 j hj)⟩
        have hltr : w1.heap.size < Wr.heap.size := Nat.lt_of_lt_of_le hTl hbr.size
        have HG := Lib.hid hG
        have HU := Lib.hid hU
        clear HTT hbr hbT hT4 hTl hG hU C4 h41 hq1 hl1
        obtain ⟨Ar, cr, hvr⟩ := hall.form
        rw [levN_length] at hvr
        subst hvr
        have G9 := heap_alloc_new Wr (.cells #[.int .i64 (n : Int), .slice none 0 0] 33)
        have hb9 : Below Wr.heap.size Wr (Wr.alloc (.cells #[.int .i64 (n : Int), .slice none 0 0] 33)) := (Below.refl _ _).alloc (Nat.le_refl _) _
        have HALL := Lib.hid hall
        clear hall
        replace G9 := Lib.hid G9
        go_wp2_with fail
        have hq9 := below_chain hqr hqr.size hb9
        have HTL := Lib.hid hTL
        clear hTL
        go_loopw [50, 11] (fun kv _ wr => ∃ (k : Nat) (lv : Value), k ≤ T.length ∧ kv = .int .i64 (k : Int) ∧ OwnL wr Wr.heap.size lv (selM ps (T.take k)) ∧ Hid (wr.heap[Wr.heap.size]? = some (.cells #[.int .i64 (n : Int), lv] 33 (0, 0))) ∧ Below Wr.heap.size Wr wr)
          (fun kv _ _ => T.length - (intOf kv).toNat)
        case atStart => exact ⟨0, _, Nat.zero_le _, rfl, by simpa [selM] using OwnX.nil _ _, G9, hb9⟩
        case round =>
          obtain ⟨k, lv, hkt, rfl, hol, H9, hb⟩ := hrel
          obtain ⟨hs1, hs2, hs3, hs4⟩ := HTC.out
          by_cases hlt : k < T.length
          · obtain ⟨u1, u2⟩ := hs3 _ (List.getElem_mem hlt)
            have tc := (hb.cell (p := ⟨w1.heap.size, _ + k, none⟩) hltr).trans (hs4 k hlt)
            try simp only [Nat.zero_add] at tc
            have HS : Hid (selM ps (T.take (k + 1)) = selM ps (T.take k) ++ (if 0 ≤ T[k] ∧ T[k] < (n : Int) then [leafM ps T[k].toNat] else [])) := Lib.hid (by rw [← List.take_append_getElem hlt, HSEL.out, ← HN.out])
            have hsl : (selM ps (T.take k)).length ≤ 2 := by unfold selM; rw [List.length_map]; exact Nat.le_trans (List.length_filter_le _ _) (by rw [List.length_take]; omega)
            have i4 : (0 : Int) ≤ (k : Int) := by omega
            first
              | (have hx : Hid (T.length = 1) := HTL
                 have i3 : (k : Int) < 1 := by have := HTL.out; omega)
              | (have hx : Hid (T.length = 2) := HTL
                 have i3 : (k : Int) < 2 := by have := HTL.out; omega)
            clear hs1 hs2 hs3 hs4
            generalize T[k] = i at *
            obtain ⟨Al, cl, rfl⟩ := hol.form
            obtain ⟨L2, hL2⟩ : ∃ L2, L2 = selM ps (T.take (k + 1)) := ⟨_, rfl⟩
            rw [← hL2] at HS
            have HL2 := Lib.hid hL2
            clear hL2
            generalize selM ps (T.take k) = L1 at *
            by_cases hi0 : 0 ≤ i
            · by_cases hin : i < (n : Int)
              · obtain ⟨I, rfl⟩ : ∃ I : Nat, i = (I : Int) := ⟨i.toNat, by omega⟩
                have hS2 : Hid (L2 = L1 ++ [leafM ps I]) := Lib.hid (by rw [HS.out, if_pos ⟨hi0, hin⟩, Int.toNat_natCast])
                have hI : I < ps.length := by have := HN.out; omega
                have hbw := below_chain hqr hqr.size hb
                have hbd : Below w.heap.size w wr.drew := hbw.drew
                have hat := leafM_is ps I hI
                have hkl : (leafM ps I).key.size ≤ maxLen := by rw [hat]; exact HNL.out _ (List.getElem_mem hI)
                have ha1 : -9223372036854775808 ≤ (leafM ps I).at_ ∧ (leafM ps I).at_ ≤ 9223372036854775807 := by rw [hat]; exact ⟨by show _ ≤ (I : Int); omega, by show (I : Int) ≤ _; omega⟩
                have CL := Lib.hid (C5.out HO.out wr.drew hbd hn6 I t _ _ _ (by omega) ht HG.out HU.out (HALL.out.up (show Below Wr.heap.size Wr wr.drew from hb.drew)))
                have H9o := H9.out
                have h9l := blk_lt H9o
                have hWw := hb.size
                obtain ⟨lp, hlp⟩ : ∃ lp, lp = L1.length := ⟨_, rfl⟩
                rw [← hlp] at hsl H9o
                have HLP := Lib.hid hlp
                have x1 : wr.cell? ⟨Wr.heap.size, 1, none⟩ = some (.slice Al lp cl) := blk_cell H9o 1
                have hol' : OwnL wr Wr.heap.size (.slice Al lp cl) L1 := by rw [hlp]; exact hol
                clear hlp hat hol HS
                generalize leafM ps I = ml at *
                have HA1 := Lib.hid (And.intro hkl ha1)
                clear hkl ha1
                go_wp2_with fail
                go_region_law (first
                  | (go_simp; (with_reducible refine (CL.out).mono ?_); rintro e w3 ⟨v3, rfl, ho3, hb3'⟩; dsimp only; have hb3 : Below wr.heap.size wr w3 := below_chain (Below.refl wr.heap.size wr).drew (Nat.le_refl _) hb3'; obtain ⟨A3, n3, c3, A4, n4, c4, hv3, hcs⟩ := ho3.cells HA1.out.1 HA1.out.2.1 HA1.out.2.2; subst hv3; have hx5 : Below w3.heap.size w3 (w3.alloc (.cells #[.int .i64 ml.at_, .string ml.key, .slice A3 n3 c3, .slice A4 n4 c4] 46)) := (Below.refl _ _).alloc (Nat.le_refl _) _; have hq5 := below_chain hb3 hb3.size hx5; have ho5 := OwnL.up hol' hq5; have hc5 := heap_alloc_new w3 (.cells #[.int .i64 ml.at_, .string ml.key, .slice A3 n3 c3, .slice A4 n4 c4] 46); have hr5 := hcs.up hx5; have h95 := (hq5.block Wr.heap.size h9l).trans H9o; have hbb := below_chain hb hWw hq5; have z1 := (hb3.cell (p := ⟨Wr.heap.size, 1, none⟩) h9l).trans x1; have z15 : (w3.alloc (.cells #[.int .i64 ml.at_, .string ml.key, .slice A3 n3 c3, .slice A4 n4 c4] 46)).cell? ⟨Wr.heap.size, 1, none⟩ = some (.slice Al lp cl) := blk_cell h95 1)
                  | (refine wp_append_x (b := w3.heap.size) (off := 0) (.tmp 63) (.tmp 68) _ rfl i0 _ 72 Tryd.underlying31 hi0' hz hsz hby rfl (by decide) rfl ho5 rfl _ hr5.len (fun j hj => (by rw [Nat.zero_add]; exact leafCells_get hc5 j hj)) hr5.one hr5 (fun w' c a hc hg => hc.grow hg (by decide) (by decide)) (Nat.zero_le _) (by have := HLP.out; unfold maxLen; omega) (by have := HLP.out; omega) (Nat.le_trans hWw hq5.size) ?_; intro v6 w6 ho6 hg6; have hgr6 := OwnX.grows ho5 (Nat.zero_le _) hg6; have h96 := ((show Of _ 0 33 Wr.heap.size from .inr ⟨_, _, h95⟩).same hgr6 (blk_lt h95) (by decide)).trans h95; have hb6 := OwnX.below ho5 hbb hbb.size hg6; have w61 : w6.cell? ⟨Wr.heap.size, 1, none⟩ = some (.slice Al lp cl) := blk_cell h96 1; have w6f := blk_free h96 1; obtain ⟨A6, c6, hv6⟩ := ho6.form; rw [List.length_append, List.length_singleton, ← HLP.out] at hv6; subst hv6)
                  | fail)
                all_goals (
                  have hgs := grown_set (World.grownBy.refl w6 (some Wr.heap.size)) 1 (.slice A6 (lp + 1) c6)
                  have hgrw := grow_of (B0 := 0) hgs (Nat.zero_le _) h96
                  have N9 : Hid ((w6.setCell ⟨Wr.heap.size, 1, none⟩ (.slice A6 (lp + 1) c6)).heap[Wr.heap.size]? = some (.cells #[.int .i64 (n : Int), .slice A6 (lp + 1) c6] 33 (0, 0))) := Lib.hid (by simpa using blk_set h96 1 (.slice A6 (lp + 1) c6))
                  have hol9 := OwnL.grow ho6 hgrw (by decide) (by decide) (by decide)
                  have hb9' := hb6.setCell (p := ⟨Wr.heap.size, 1, none⟩) (Nat.le_refl _) (.slice A6 (lp + 1) c6)
                  rw [← hS2.out, HL2.out] at hol9
                  clear hgs hgrw ho6 hb6 hg6 hgr6 h96 w61 w6f z1 z15 hbb h95 hc5 hr5 ho5 hq5 hx5 ho3 hb3 x1 hb hol' tc
                  generalize (w6.setCell ⟨Wr.heap.size, 1, none⟩ (.slice A6 (lp + 1) c6)) = W9 at *
                  go_wp2_with fail
                  exact ⟨⟨k + 1, _, by omega, by go_num, hol9, N9, hb9'⟩, by simp [intOf]; omega⟩)
              · have hS2 : Hid (L2 = L1) := Lib.hid (by rw [HS.out, if_neg (fun h => hin h.2), List.append_nil])
                clear HS
                go_wp2_with fail
                exact ⟨⟨k + 1, _, by omega, by go_num, by rw [← HL2.out, hS2.out]; exact hol, H9, hb⟩, by simp [intOf]; omega⟩
            · have hS2 : Hid (L2 = L1) := Lib.hid (by rw [HS.out, if_neg (fun h => hi0 h.1), List.append_nil])
              clear HS
              go_wp2_with fail
              exact ⟨⟨k + 1, _, by omega, by go_num, by rw [← HL2.out, hS2.out]; exact hol, H9, hb⟩, by simp [intOf]; omega⟩
          · have i4 : T.length ≤ k := by omega
            first
              | (have hx : Hid (T.length = 1) := HTL
                 have i3 : ¬ (k : Int) < 1 := by have := HTL.out; omega)
              | (have hx : Hid (T.length = 2) := HTL
                 have i3 : ¬ (k : Int) < 2 := by have := HTL.out; omega)
            have hfull : T.take k = T := List.take_of_length_le i4
            rw [hfull, hs1] at hol
            obtain ⟨Al, cl, rfl⟩ := hol.form
            have hbw := below_chain hqr hqr.size hb
            have hlr := blk_lt h4r
            have h4w := (hb.block w.heap.size hlr).trans h4r
            have H9o := H9.out
            have hll : LP.length ≤ 2 := by rw [← hs1]; unfold selM; rw [List.length_map]; exact Nat.le_trans (List.length_filter_le _ _) hs2
            clear hs1 hs2 hs3 hs4 hfull H9 hb
            obtain ⟨lp, hlp⟩ : ∃ lp, lp = LP.length := ⟨_, rfl⟩
            rw [← hlp] at H9o hol
            have HRR : Hid (R = (⟨(n : Int), LP⟩, 0)) := Lib.hid (by rw [HR.out, HN.out])
            clear HR hlp
            have x0 : wr.cell? ⟨Wr.heap.size, 0, none⟩ = some (.int .i64 (n : Int)) := blk_cell H9o 0
            have x1 : wr.cell? ⟨Wr.heap.size, 1, none⟩ = some (.slice Al lp cl) := blk_cell H9o 1
            have z0 : wr.cell? ⟨w.heap.size, 0, none⟩ = some (.int .i64 0) := blk_cell h4w 0
            have z1 : wr.cell? ⟨w.heap.size, 1, none⟩ = some (.slice none 0 0) := blk_cell h4w 1
            have y0 := blk_free h4w 0
            have y1 := blk_free h4w 1
            have hgr := grow_of (B0 := 0) (grown_set2 wr w.heap.size (.int .i64 (n : Int)) (.slice Al lp cl)) (Nat.zero_le _) h4w
            have hG4 := blk_set2 h4w (.int .i64 (n : Int)) (.slice Al lp cl)
            have hout := Below.set2' (g := w.heap.size) hbw (Nat.le_refl _) (.int .i64 (n : Int)) (.slice Al lp cl)
            have hol2 := OwnL.grow (OwnX.more hol (Nat.le_of_lt hlr)) hgr (by decide) (by decide) (by decide)
            clear hgr h4w H9o hol hbw
            go_wp2_with fail
            generalize ((wr.setCell ⟨w.heap.size, 0, none⟩ (.int .i64 (n : Int))).setCell ⟨w.heap.size, 1, none⟩ (.slice Al lp cl)) = w9 at *
            have g0 : w9.cell? ⟨w.heap.size, 0, none⟩ = some (.int .i64 (n : Int)) := blk_cell hG4 0
            have g1 : w9.cell? ⟨w.heap.size, 1, none⟩ = some (.slice Al lp cl) := blk_cell hG4 1
            refine bodyPost_ret (v := .tuple #[.agg #[.int .i64 (n : Int), .slice Al lp cl], .int .i64 0]) (by simp [results, Tryd.results12, go_sem, g0, g1]) rfl ⟨.agg #[.int .i64 (n : Int), .slice Al lp cl], ?_, ?_, hout⟩
            · rw [HRR.out]
            · rw [HRR.out]; exact ⟨_, rfl, hol2⟩)
end Go.Proofs.YtpnfdfnbnoplgaaDoor
