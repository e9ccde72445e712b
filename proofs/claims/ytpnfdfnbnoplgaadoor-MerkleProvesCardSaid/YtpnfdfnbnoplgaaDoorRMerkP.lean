
/- The walk of the document's Prove. -/
import Derived.Test.YtpnfdfnbnoplgaaDoorMerkJ
import Derived.Test.YtpnfdfnbnoplgaaDoorRMerkF
namespace Go.Proofs.YtpnfdfnbnoplgaaDoor
open Go Go.RowKit
set_option linter.unusedVariables false
variable {w w' : World} {B : Nat}

set_option maxHeartbeats 8000000 in
theorem rprove_any (ps : List Pr) (key : ByteArray) (v : Value) (w : World) (hr : RdP w w.heap.size v ps) (hnl : ∀ p ∈ ps, p.1.size ≤ maxLen) (hks : key.size ≤ maxLen) (fr : TypeId × Nat × Nat) (hk : w.heap[1]? = some (.cells kVals fr.1 fr.2)) :
    Calls Tryd.prog 13 #[v, .string key] w fun e w' => ∃ v', e = .returned (.tuple #[v', .int .i64 (proveM ps key).2]) ∧ ProofN w' w.heap.size v' (proveM ps key).1 ∧ Below w.heap.size w w' := by
  obtain ⟨i0, hi0', hz, hsz, hby⟩ := info_parts Tryd.infoLeaf
  have hnk := blk_lt hk
  have HK := Lib.hid hk
  clear hk
  have C1 := Lib.hid (fun (w1 : World) (hb : Below w.heap.size w w1) => right_any w1 v ps ((hr.below hb).more hb.size) hnl)
  have C2 := Lib.hid (fun (w1 : World) => rkey_any key w1 hks)
  have C5 := Lib.hid (fun (ho : ordB ps = true) (w1 : World) (hb : Below w.heap.size w w1) (h0 : ps.length ≤ 65536) (i : Nat) (hi : i < ps.length) =>
    rshown_any fr 0 ps i v w1 (Nat.zero_le _) hi h0 ((hr.below hb).more hb.size) hnl (fun p hp => (ordB_pair ho hp).2) ((hb.block _ hnk).trans HK.out))
  obtain ⟨A, c, rfl, hc, hm, hp⟩ := hr
  unfold maxLen at hm
  obtain ⟨n, hn⟩ : ∃ n, n = ps.length := ⟨_, rfl⟩
  rw [← hn] at hc C1 C5 ⊢
  have HN := Lib.hid hn
  have HP := Lib.hid hp
  have HNL := Lib.hid hnl
  have hb0 : Below w.heap.size w (w.alloc (.cells #[.int .i64 0, .slice none 0 0] 33)) := (Below.refl _ _).alloc (Nat.le_refl _) _
  have hcells := heap_alloc_new w (.cells #[.int .i64 0, .slice none 0 0] 33)
  have hl0 : w.heap.size < (w.alloc (.cells #[.int .i64 0, .slice none 0 0] 33)).heap.size := by simp
  clear hn hp hnl
  have HR0 := Lib.hid (fun h : ¬ (ordB ps = true ∧ keyB key = true) => proveM_no h)
  have HR1 := Lib.hid (fun (h : ordB ps = true) (k : keyB key = true) => proveM_yes h k)
  generalize proveM ps key = R at *
  go_enter Tryd.func13, Tryd.ntmps13
  go_wp2_with fail
  generalize w.alloc (.cells #[.int .i64 0, .slice none 0 0] 33) = W0 at *
  refine (C1.out W0 hb0).mono ?_
  rintro e w1 ⟨rfl, hb1⟩
  have hq1 := below_chain hb0 hb0.size hb1
  have h41 := (hb1.block w.heap.size hl0).trans hcells
  have hl1 : w.heap.size < w1.heap.size := Nat.lt_of_lt_of_le hl0 hb1.size
  clear hb1 hb0 hcells C1
  have z0 : w1.cell? ⟨w.heap.size, 0, none⟩ = some (.int .i64 0) := blk_cell h41 0
  have z1 : w1.cell? ⟨w.heap.size, 1, none⟩ = some (.slice none 0 0) := blk_cell h41 1
  have y0 := blk_free h41 0
  have y1 := blk_free h41 1
  have hG4 := blk_set2 h41 (.int .i64 0) (.slice none 0 0)
  have hout := Below.set2' (g := w.heap.size) hq1 (Nat.le_refl _) (.int .i64 0) (.slice none 0 0)
  cases ho : ordB ps with
  | false =>
    have hR := Lib.hid (HR0.out (by rw [ho]; simp))
    go_wp2_with fail
    generalize ((w1.setCell ⟨w.heap.size, 0, none⟩ (.int .i64 0)).setCell ⟨w.heap.size, 1, none⟩ (.slice none 0 0)) = w9 at *
    have g0 : w9.cell? ⟨w.heap.size, 0, none⟩ = some (.int .i64 0) := blk_cell hG4 0
    have g1 : w9.cell? ⟨w.heap.size, 1, none⟩ = some (.slice none 0 0) := blk_cell hG4 1
    refine bodyPost_ret (v := .tuple #[.agg #[.int .i64 0, .slice none 0 0], .int .i64 60]) (by simp [results, Tryd.results13, go_sem, g0, g1]) rfl ⟨.agg #[.int .i64 0, .slice none 0 0], ?_, ?_, hout⟩
    · rw [hR.out]
    · rw [hR.out]; exact ⟨_, rfl, OwnX.nil _ _⟩
  | true =>
    go_wp2_with fail
    refine (C2.out w1).mono ?_
    rintro e w2 ⟨rfl, rfl⟩
    cases hkb : keyB key with
    | false =>
      have hR := Lib.hid (HR0.out (by rw [hkb]; simp))
      go_wp2_with fail
      generalize ((w1.setCell ⟨w.heap.size, 0, none⟩ (.int .i64 0)).setCell ⟨w.heap.size, 1, none⟩ (.slice none 0 0)) = w9 at *
      have g0 : w9.cell? ⟨w.heap.size, 0, none⟩ = some (.int .i64 0) := blk_cell hG4 0
      have g1 : w9.cell? ⟨w.heap.size, 1, none⟩ = some (.slice none 0 0) := blk_cell hG4 1
      refine bodyPost_ret (v := .tuple #[.agg #[.int .i64 0, .slice none 0 0], .int .i64 60]) (by simp [results, Tryd.results13, go_sem, g0, g1]) rfl ⟨.agg #[.int .i64 0, .slice none 0 0], ?_, ?_, hout⟩
      · rw [hR.out]
      · rw [hR.out]; exact ⟨_, rfl, OwnX.nil _ _⟩
    | true =>
      have hn6 : n ≤ 65536 := by rw [HN.out]; exact ordB_len ho
      have HR := Lib.hid (HR1.out ho hkb)
      clear hG4 hout z0 z1 y0 y1
      have HO := Lib.hid ho
      clear ho hkb HR0 HR1
      have G9 := heap_alloc_new w1 (.cells #[.int .i64 (n : Int), .slice none 0 0] 33)
      have hb9 : Below w1.heap.size w1 (w1.alloc (.cells #[.int .i64 (n : Int), .slice none 0 0] 33)) := (Below.refl _ _).alloc (Nat.le_refl _) _
      replace G9 := Lib.hid G9
      go_wp2_with fail
      generalize w1.alloc (.cells #[.int .i64 (n : Int), .slice none 0 0] 33) = W6 at *
      have hq6 := below_chain hq1 hq1.size hb9
      go_loopw [7] (fun i wr => ∃ k : Nat, k ≤ n ∧ i = .int .i64 (k : Int) ∧ Hid (placeM key ps = k + placeM key (ps.drop k)) ∧ W6 = wr)
        (fun i _ => n - (intOf i).toNat)
      case atStart => exact ⟨0, Nat.zero_le _, rfl, Lib.hid (by simp), rfl⟩
      case round =>
        obtain ⟨q, hqn, rfl, HRK, rfl⟩ := hrel
        have i1 : (0 : Int) ≤ (q : Int) := by omega
        by_cases hlt : q < n
        · have hql : q < ps.length := by have := HN.out; omega
          obtain ⟨b, o, rfl, hbl, hcell⟩ := HP.out (by omega)
          have a1 := (hq6.cell (p := ⟨b, o + q * 2, none⟩) hbl).trans (hcell q hql).1
          have i2 : (q : Int) < (n : Int) := by omega
          have hst : placeM key (ps.drop q) = if ltS ps[q].1 key = true then placeM key (ps.drop (q + 1)) + 1 else 0 := by rw [List.drop_eq_getElem_cons hql]; rfl
          have hsq : ∃ s, s = ps[q].1 := ⟨_, rfl⟩
          obtain ⟨s, hs⟩ := hsq
          rw [← hs] at a1 hst
          have HSE := Lib.hid hs
          clear hcell hs
          cases hl : ltS s key with
          | true =>
            have hl2 : Op.bytesLess s.toList key.toList = true := hl
            have hres : Hid (placeM key ps = (q + 1) + placeM key (ps.drop (q + 1))) := Lib.hid (by rw [HRK.out, hst, hl]; simp; omega)
            clear hst hl HRK
            go_wp2_with fail
            exact ⟨⟨q + 1, by omega, by go_num, hres, by first | trivial | rfl⟩, by simp [intOf]; omega⟩
          | false =>
            have hl2 : Op.bytesLess s.toList key.toList = false := hl
            have hres : placeM key ps = q := by rw [HRK.out, hst, hl]; simp
            have hle : hitB ps key = (s.toList == key.toList) := by unfold hitB; rw [hres, List.getElem?_eq_getElem hql, HSE.out]
            have hLP : leavesP ps key = if hitB ps key = true then [leafM ps q] else (if 0 < q then [leafM ps (q - 1)] else []) ++ [leafM ps q] := by unfold leavesP; rw [hres, if_pos hql]
            have HLP := Lib.hid hLP
            have HLE := Lib.hid hle
            clear hst hl HRK hres hLP hle
            cases hh : (s.toList == key.toList) with
            | true =>
              have hRR : R = (⟨(n : Int), [] ++ [leafM ps q]⟩, 0) := by rw [HR.out, HLP.out, HLE.out, hh, if_pos rfl, HN.out]; rfl
              have HRR := Lib.hid hRR
              clear hRR HLP HLE HSE
              have hb0 : Below w1.heap.size w1 W6 := hb9
              have hol0 : OwnL W6 w1.heap.size (.slice none 0 0) [] := OwnX.nil _ _
              have H9_0 : Hid (W6.heap[w1.heap.size]? = some (.cells #[.int .i64 (n : Int), .slice none 0 0] 33 (0, 0))) := G9
              clear hb9 G9
              have hbw0 := below_chain hq1 hq1.size hb0
              have hbd0 : Below w.heap.size w W6.drew := hbw0.drew
              have hIl0 : q < ps.length := (by have := HN.out; omega)
              have hat0 := leafM_is ps (q) hIl0
              have hkl0 : (leafM ps (q)).key.size ≤ maxLen := by rw [hat0]; exact HNL.out _ (List.getElem_mem hIl0)
              have ha0 : -9223372036854775808 ≤ (leafM ps (q)).at_ ∧ (leafM ps (q)).at_ ≤ 9223372036854775807 := by rw [hat0]; exact ⟨by show _ ≤ ((q : Nat) : Int); omega, by show ((q : Nat) : Int) ≤ _; omega⟩
              have CL0 := Lib.hid (C5.out HO.out W6.drew hbd0 hn6 (q) (by have := HN.out; omega))
              have H9o0 := H9_0.out
              have h9l0 := blk_lt H9o0
              have hWw0 := hb0.size
              have x10 : W6.cell? ⟨w1.heap.size, 1, none⟩ = some (.slice none 0 0) := blk_cell H9o0 1
              have HA0 := Lib.hid (And.intro hkl0 ha0)
              clear hat0 hkl0 ha0
              obtain ⟨ml0, hml0⟩ : ∃ ml, ml = leafM ps (q) := ⟨_, rfl⟩
              rw [← hml0] at CL0 HA0
              have HML0 := Lib.hid hml0
              clear hml0
              go_wp2_with fail
              go_region_law (first
                | (go_simp; (with_reducible refine (CL0.out).mono ?_); rintro e w3 ⟨v3, rfl, ho3, hb3'⟩; dsimp only; have hb3 : Below W6.heap.size W6 w3 := below_chain (Below.refl W6.heap.size W6).drew (Nat.le_refl _) hb3'; obtain ⟨A3, n3, c3, A4, n4, c4, hv3, hcs⟩ := ho3.cells HA0.out.1 HA0.out.2.1 HA0.out.2.2; subst hv3; have hx5 : Below w3.heap.size w3 (w3.alloc (.cells #[.int .i64 ml0.at_, .string ml0.key, .slice A3 n3 c3, .slice A4 n4 c4] 46)) := (Below.refl _ _).alloc (Nat.le_refl _) _; have hq5 := below_chain hb3 hb3.size hx5; have ho5 := OwnL.up hol0 hq5; have hc5 := heap_alloc_new w3 (.cells #[.int .i64 ml0.at_, .string ml0.key, .slice A3 n3 c3, .slice A4 n4 c4] 46); have hr5 := hcs.up hx5; have h95 := (hq5.block w1.heap.size h9l0).trans H9o0; have hbb := below_chain hb0 hWw0 hq5; have z1 := (hb3.cell (p := ⟨w1.heap.size, 1, none⟩) h9l0).trans x10; have z15 : (w3.alloc (.cells #[.int .i64 ml0.at_, .string ml0.key, .slice A3 n3 c3, .slice A4 n4 c4] 46)).cell? ⟨w1.heap.size, 1, none⟩ = some (.slice none 0 0) := blk_cell h95 1)
                | (refine wp_append_x (b := w3.heap.size) (off := 0) (.tmp 49) (.tmp 53) _ rfl i0 _ 72 Tryd.underlying31 hi0' hz hsz hby rfl (by decide) rfl ho5 rfl _ hr5.len (fun j hj => (by rw [Nat.zero_add]; exact leafCells_get hc5 j hj)) hr5.one hr5 (fun w' c a hc hg => hc.grow hg (by decide) (by decide)) (Nat.zero_le _) (by unfold maxLen; simp) (by simp) (Nat.le_trans hWw0 hq5.size) ?_; intro v6 w6 ho6 hg6; have hgr6 := OwnX.grows ho5 (Nat.zero_le _) hg6; have h96 := ((show Of _ 0 33 w1.heap.size from .inr ⟨_, _, h95⟩).same hgr6 (blk_lt h95) (by decide)).trans h95; have hb6 := OwnX.below ho5 hbb hbb.size hg6; have w61 : w6.cell? ⟨w1.heap.size, 1, none⟩ = some (.slice none 0 0) := blk_cell h96 1; have w6f := blk_free h96 1; obtain ⟨A6, c6, hv6⟩ := ho6.form; simp only [List.length_append, List.length_singleton, List.length_nil, Nat.zero_add] at hv6; subst hv6)
                | fail)
              all_goals (
                have hgs := grown_set (World.grownBy.refl w6 (some w1.heap.size)) 1 (.slice A6 1 c6)
                have hgrw := grow_of (B0 := 0) hgs (Nat.zero_le _) h96
                have H9_1 : Hid ((w6.setCell ⟨w1.heap.size, 1, none⟩ (.slice A6 1 c6)).heap[w1.heap.size]? = some (.cells #[.int .i64 (n : Int), .slice A6 1 c6] 33 (0, 0))) := Lib.hid (by simpa using blk_set h96 1 (.slice A6 1 c6))
                have hol1 : OwnL _ w1.heap.size (.slice A6 1 c6) ([] ++ [ml0]) := OwnL.grow ho6 hgrw (by decide) (by decide) (by decide)
                have hb1 := hb6.setCell (p := ⟨w1.heap.size, 1, none⟩) (Nat.le_refl _) (.slice A6 1 c6)
                clear hgs hgrw ho6 hb6 hg6 hgr6 h96 w61 w6f z1 z15 hbb h95 hc5 hr5 ho5 hq5 hx5 ho3 hb3 x10 hb0 hol0 hWw0 h9l0 H9o0 H9_0 CL0 hbd0 hbw0
                generalize hWW0 : (w6.setCell ⟨w1.heap.size, 1, none⟩ (.slice A6 1 c6)) = Wn0 at *
                clear hWW0
                have hbw9 := below_chain hq1 hq1.size hb1
                have h4w := (hb1.block w.heap.size hl1).trans h41
                have H9o := H9_1.out
                have x0 := blk_cell H9o 0
                have x1 := blk_cell H9o 1
                have z0 := blk_cell h4w 0
                have z1 := blk_cell h4w 1
                simp only [List.getElem?_toArray, List.getElem?_cons_zero, List.getElem?_cons_succ] at x0 x1 z0 z1
                have y0 := blk_free h4w 0
                have y1 := blk_free h4w 1
                have hgr := grow_of (B0 := 0) (grown_set2 _ w.heap.size (.int .i64 (n : Int)) (.slice A6 1 c6)) (Nat.zero_le _) h4w
                have hG4 := blk_set2 h4w (.int .i64 (n : Int)) (.slice A6 1 c6)
                have hout := Below.set2' (g := w.heap.size) hbw9 (Nat.le_refl _) (.int .i64 (n : Int)) (.slice A6 1 c6)
                have holF := OwnL.grow (OwnX.more hol1 (Nat.le_of_lt hl1)) hgr (by decide) (by decide) (by decide)
                clear hgr h4w H9o hol1 hbw9 hb1 H9_1
                go_wp2_with fail
                have g0 := blk_cell hG4 0
                have g1 := blk_cell hG4 1
                simp only [List.getElem?_toArray, List.getElem?_cons_zero, List.getElem?_cons_succ] at g0 g1
                refine bodyPost_ret (v := .tuple #[.agg #[.int .i64 (n : Int), .slice A6 1 c6], .int .i64 0]) (by simp [results, Tryd.results13, go_sem, g0, g1]) rfl ⟨.agg #[.int .i64 (n : Int), .slice A6 1 c6], ?_, ?_, hout⟩
                · rw [HRR.out]
                · rw [HRR.out]; rw [HML0.out] at holF; exact ⟨_, rfl, holF⟩)
            | false =>
              have hRR : R = (⟨(n : Int), (if 0 < q then [leafM ps (q - 1)] else []) ++ [leafM ps q]⟩, 0) := by rw [HR.out, HLP.out, HLE.out, hh, if_neg (by simp), HN.out]
              have HRR := Lib.hid hRR
              clear hRR HLP HLE HSE
              by_cases h0 : 0 < q
              · have i3 : (0 : Int) < (q : Int) := by omega
                have HRR2 : Hid (R = (⟨(n : Int), ([] ++ [leafM ps (q - 1)]) ++ [leafM ps q]⟩, 0)) := Lib.hid (by rw [HRR.out, if_pos h0]; rfl)
                clear HRR
                have jx : IntKind.i64.wrap ((q : Int) - 1) = ((q - 1 : Nat) : Int) := by rw [IntKind.wrap_i64]; omega

                have hb0 : Below w1.heap.size w1 W6 := hb9
                have hol0 : OwnL W6 w1.heap.size (.slice none 0 0) [] := OwnX.nil _ _
                have H9_0 : Hid (W6.heap[w1.heap.size]? = some (.cells #[.int .i64 (n : Int), .slice none 0 0] 33 (0, 0))) := G9
                clear hb9 G9
                have hbw0 := below_chain hq1 hq1.size hb0
                have hbd0 : Below w.heap.size w W6.drew := hbw0.drew
                have hIl0 : q - 1 < ps.length := (by have := HN.out; omega)
                have hat0 := leafM_is ps (q - 1) hIl0
                have hkl0 : (leafM ps (q - 1)).key.size ≤ maxLen := by rw [hat0]; exact HNL.out _ (List.getElem_mem hIl0)
                have ha0 : -9223372036854775808 ≤ (leafM ps (q - 1)).at_ ∧ (leafM ps (q - 1)).at_ ≤ 9223372036854775807 := by rw [hat0]; exact ⟨by show _ ≤ ((q - 1 : Nat) : Int); omega, by show ((q - 1 : Nat) : Int) ≤ _; omega⟩
                have CL0 := Lib.hid (C5.out HO.out W6.drew hbd0 hn6 (q - 1) (by have := HN.out; omega))
                have H9o0 := H9_0.out
                have h9l0 := blk_lt H9o0
                have hWw0 := hb0.size
                have x10 : W6.cell? ⟨w1.heap.size, 1, none⟩ = some (.slice none 0 0) := blk_cell H9o0 1
                have HA0 := Lib.hid (And.intro hkl0 ha0)
                clear hat0 hkl0 ha0
                obtain ⟨ml0, hml0⟩ : ∃ ml, ml = leafM ps (q - 1) := ⟨_, rfl⟩
                rw [← hml0] at CL0 HA0
                have HML0 := Lib.hid hml0
                clear hml0
                go_wp2_with fail
                go_region_law (first
                  | (go_simp; (with_reducible refine (CL0.out).mono ?_); rintro e w3 ⟨v3, rfl, ho3, hb3'⟩; dsimp only; have hb3 : Below W6.heap.size W6 w3 := below_chain (Below.refl W6.heap.size W6).drew (Nat.le_refl _) hb3'; obtain ⟨A3, n3, c3, A4, n4, c4, hv3, hcs⟩ := ho3.cells HA0.out.1 HA0.out.2.1 HA0.out.2.2; subst hv3; have hx5 : Below w3.heap.size w3 (w3.alloc (.cells #[.int .i64 ml0.at_, .string ml0.key, .slice A3 n3 c3, .slice A4 n4 c4] 46)) := (Below.refl _ _).alloc (Nat.le_refl _) _; have hq5 := below_chain hb3 hb3.size hx5; have ho5 := OwnL.up hol0 hq5; have hc5 := heap_alloc_new w3 (.cells #[.int .i64 ml0.at_, .string ml0.key, .slice A3 n3 c3, .slice A4 n4 c4] 46); have hr5 := hcs.up hx5; have h95 := (hq5.block w1.heap.size h9l0).trans H9o0; have hbb := below_chain hb0 hWw0 hq5; have z1 := (hb3.cell (p := ⟨w1.heap.size, 1, none⟩) h9l0).trans x10; have z15 : (w3.alloc (.cells #[.int .i64 ml0.at_, .string ml0.key, .slice A3 n3 c3, .slice A4 n4 c4] 46)).cell? ⟨w1.heap.size, 1, none⟩ = some (.slice none 0 0) := blk_cell h95 1)
                  | (refine wp_append_x (b := w3.heap.size) (off := 0) (.tmp 60) (.tmp 65) _ rfl i0 _ 72 Tryd.underlying31 hi0' hz hsz hby rfl (by decide) rfl ho5 rfl _ hr5.len (fun j hj => (by rw [Nat.zero_add]; exact leafCells_get hc5 j hj)) hr5.one hr5 (fun w' c a hc hg => hc.grow hg (by decide) (by decide)) (Nat.zero_le _) (by unfold maxLen; simp) (by simp) (Nat.le_trans hWw0 hq5.size) ?_; intro v6 w6 ho6 hg6; have hgr6 := OwnX.grows ho5 (Nat.zero_le _) hg6; have h96 := ((show Of _ 0 33 w1.heap.size from .inr ⟨_, _, h95⟩).same hgr6 (blk_lt h95) (by decide)).trans h95; have hb6 := OwnX.below ho5 hbb hbb.size hg6; have w61 : w6.cell? ⟨w1.heap.size, 1, none⟩ = some (.slice none 0 0) := blk_cell h96 1; have w6f := blk_free h96 1; obtain ⟨A6, c6, hv6⟩ := ho6.form; simp only [List.length_append, List.length_singleton, List.length_nil, Nat.zero_add] at hv6; subst hv6)
                  | fail)
                all_goals (
                  have hgs := grown_set (World.grownBy.refl w6 (some w1.heap.size)) 1 (.slice A6 1 c6)
                  have hgrw := grow_of (B0 := 0) hgs (Nat.zero_le _) h96
                  have H9_1 : Hid ((w6.setCell ⟨w1.heap.size, 1, none⟩ (.slice A6 1 c6)).heap[w1.heap.size]? = some (.cells #[.int .i64 (n : Int), .slice A6 1 c6] 33 (0, 0))) := Lib.hid (by simpa using blk_set h96 1 (.slice A6 1 c6))
                  have hol1 : OwnL _ w1.heap.size (.slice A6 1 c6) ([] ++ [ml0]) := OwnL.grow ho6 hgrw (by decide) (by decide) (by decide)
                  have hb1 := hb6.setCell (p := ⟨w1.heap.size, 1, none⟩) (Nat.le_refl _) (.slice A6 1 c6)
                  clear hgs hgrw ho6 hb6 hg6 hgr6 h96 w61 w6f z1 z15 hbb h95 hc5 hr5 ho5 hq5 hx5 ho3 hb3 x10 hb0 hol0 hWw0 h9l0 H9o0 H9_0 CL0 hbd0 hbw0
                  generalize hWW0 : (w6.setCell ⟨w1.heap.size, 1, none⟩ (.slice A6 1 c6)) = Wn0 at *
                  clear hWW0
                  have hbw1 := below_chain hq1 hq1.size hb1
                  have hbd1 : Below w.heap.size w Wn0.drew := hbw1.drew
                  have hIl1 : q < ps.length := (by have := HN.out; omega)
                  have hat1 := leafM_is ps (q) hIl1
                  have hkl1 : (leafM ps (q)).key.size ≤ maxLen := by rw [hat1]; exact HNL.out _ (List.getElem_mem hIl1)
                  have ha1 : -9223372036854775808 ≤ (leafM ps (q)).at_ ∧ (leafM ps (q)).at_ ≤ 9223372036854775807 := by rw [hat1]; exact ⟨by show _ ≤ ((q : Nat) : Int); omega, by show ((q : Nat) : Int) ≤ _; omega⟩
                  have CL1 := Lib.hid (C5.out HO.out Wn0.drew hbd1 hn6 (q) (by have := HN.out; omega))
                  have H9o1 := H9_1.out
                  have h9l1 := blk_lt H9o1
                  have hWw1 := hb1.size
                  have x11 : Wn0.cell? ⟨w1.heap.size, 1, none⟩ = some (.slice A6 1 c6) := blk_cell H9o1 1
                  have HA1 := Lib.hid (And.intro hkl1 ha1)
                  clear hat1 hkl1 ha1
                  obtain ⟨ml1, hml1⟩ : ∃ ml, ml = leafM ps (q) := ⟨_, rfl⟩
                  rw [← hml1] at CL1 HA1
                  have HML1 := Lib.hid hml1
                  clear hml1
                  go_wp2_with fail
                  go_region_law (first
                    | (go_simp; (with_reducible refine (CL1.out).mono ?_); rintro e w3 ⟨v3, rfl, ho3, hb3'⟩; dsimp only; have hb3 : Below Wn0.heap.size Wn0 w3 := below_chain (Below.refl Wn0.heap.size Wn0).drew (Nat.le_refl _) hb3'; obtain ⟨A3, n3, c3, A4, n4, c4, hv3, hcs⟩ := ho3.cells HA1.out.1 HA1.out.2.1 HA1.out.2.2; subst hv3; have hx5 : Below w3.heap.size w3 (w3.alloc (.cells #[.int .i64 ml1.at_, .string ml1.key, .slice A3 n3 c3, .slice A4 n4 c4] 46)) := (Below.refl _ _).alloc (Nat.le_refl _) _; have hq5 := below_chain hb3 hb3.size hx5; have ho5 := OwnL.up hol1 hq5; have hc5 := heap_alloc_new w3 (.cells #[.int .i64 ml1.at_, .string ml1.key, .slice A3 n3 c3, .slice A4 n4 c4] 46); have hr5 := hcs.up hx5; have h95 := (hq5.block w1.heap.size h9l1).trans H9o1; have hbb := below_chain hb1 hWw1 hq5; have z1 := (hb3.cell (p := ⟨w1.heap.size, 1, none⟩) h9l1).trans x11; have z15 : (w3.alloc (.cells #[.int .i64 ml1.at_, .string ml1.key, .slice A3 n3 c3, .slice A4 n4 c4] 46)).cell? ⟨w1.heap.size, 1, none⟩ = some (.slice A6 1 c6) := blk_cell h95 1)
                    | (refine wp_append_x (b := w3.heap.size) (off := 0) (.tmp 73) (.tmp 77) _ rfl i0 _ 72 Tryd.underlying31 hi0' hz hsz hby rfl (by decide) rfl ho5 rfl _ hr5.len (fun j hj => (by rw [Nat.zero_add]; exact leafCells_get hc5 j hj)) hr5.one hr5 (fun w' c a hc hg => hc.grow hg (by decide) (by decide)) (Nat.zero_le _) (by unfold maxLen; simp) (by simp) (Nat.le_trans hWw1 hq5.size) ?_; intro v6 w6 ho6 hg6; have hgr6 := OwnX.grows ho5 (Nat.zero_le _) hg6; have h96 := ((show Of _ 0 33 w1.heap.size from .inr ⟨_, _, h95⟩).same hgr6 (blk_lt h95) (by decide)).trans h95; have hb6 := OwnX.below ho5 hbb hbb.size hg6; have w61 : w6.cell? ⟨w1.heap.size, 1, none⟩ = some (.slice A6 1 c6) := blk_cell h96 1; have w6f := blk_free h96 1; obtain ⟨A6, c6, hv6⟩ := ho6.form; simp only [List.length_append, List.length_singleton, List.length_nil, Nat.zero_add] at hv6; subst hv6)
                    | fail)
                  all_goals (
                    have hgs := grown_set (World.grownBy.refl w6 (some w1.heap.size)) 1 (.slice A6 2 c6)
                    have hgrw := grow_of (B0 := 0) hgs (Nat.zero_le _) h96
                    have H9_2 : Hid ((w6.setCell ⟨w1.heap.size, 1, none⟩ (.slice A6 2 c6)).heap[w1.heap.size]? = some (.cells #[.int .i64 (n : Int), .slice A6 2 c6] 33 (0, 0))) := Lib.hid (by simpa using blk_set h96 1 (.slice A6 2 c6))
                    have hol2 : OwnL _ w1.heap.size (.slice A6 2 c6) (([] ++ [ml0]) ++ [ml1]) := OwnL.grow ho6 hgrw (by decide) (by decide) (by decide)
                    have hb2 := hb6.setCell (p := ⟨w1.heap.size, 1, none⟩) (Nat.le_refl _) (.slice A6 2 c6)
                    clear hgs hgrw ho6 hb6 hg6 hgr6 h96 w61 w6f z1 z15 hbb h95 hc5 hr5 ho5 hq5 hx5 ho3 hb3 x11 hb1 hol1 hWw1 h9l1 H9o1 H9_1 CL1 hbd1 hbw1
                    generalize hWW1 : (w6.setCell ⟨w1.heap.size, 1, none⟩ (.slice A6 2 c6)) = Wn1 at *
                    clear hWW1
                    have hbw9 := below_chain hq1 hq1.size hb2
                    have h4w := (hb2.block w.heap.size hl1).trans h41
                    have H9o := H9_2.out
                    have x0 := blk_cell H9o 0
                    have x1 := blk_cell H9o 1
                    have z0 := blk_cell h4w 0
                    have z1 := blk_cell h4w 1
                    simp only [List.getElem?_toArray, List.getElem?_cons_zero, List.getElem?_cons_succ] at x0 x1 z0 z1
                    have y0 := blk_free h4w 0
                    have y1 := blk_free h4w 1
                    have hgr := grow_of (B0 := 0) (grown_set2 _ w.heap.size (.int .i64 (n : Int)) (.slice A6 2 c6)) (Nat.zero_le _) h4w
                    have hG4 := blk_set2 h4w (.int .i64 (n : Int)) (.slice A6 2 c6)
                    have hout := Below.set2' (g := w.heap.size) hbw9 (Nat.le_refl _) (.int .i64 (n : Int)) (.slice A6 2 c6)
                    have holF := OwnL.grow (OwnX.more hol2 (Nat.le_of_lt hl1)) hgr (by decide) (by decide) (by decide)
                    clear hgr h4w H9o hol2 hbw9 hb2 H9_2
                    go_wp2_with fail
                    have g0 := blk_cell hG4 0
                    have g1 := blk_cell hG4 1
                    simp only [List.getElem?_toArray, List.getElem?_cons_zero, List.getElem?_cons_succ] at g0 g1
                    refine bodyPost_ret (v := .tuple #[.agg #[.int .i64 (n : Int), .slice A6 2 c6], .int .i64 0]) (by simp [results, Tryd.results13, go_sem, g0, g1]) rfl ⟨.agg #[.int .i64 (n : Int), .slice A6 2 c6], ?_, ?_, hout⟩
                    · rw [HRR2.out]
                    · rw [HRR2.out]; rw [HML0.out, HML1.out] at holF; exact ⟨_, rfl, holF⟩))
              · have i3 : ¬ (0 : Int) < (q : Int) := by omega
                have HRR2 : Hid (R = (⟨(n : Int), [] ++ [leafM ps q]⟩, 0)) := Lib.hid (by rw [HRR.out, if_neg h0])
                clear HRR
                have hb0 : Below w1.heap.size w1 W6 := hb9
                have hol0 : OwnL W6 w1.heap.size (.slice none 0 0) [] := OwnX.nil _ _
                have H9_0 : Hid (W6.heap[w1.heap.size]? = some (.cells #[.int .i64 (n : Int), .slice none 0 0] 33 (0, 0))) := G9
                clear hb9 G9
                have hbw0 := below_chain hq1 hq1.size hb0
                have hbd0 : Below w.heap.size w W6.drew := hbw0.drew
                have hIl0 : q < ps.length := (by have := HN.out; omega)
                have hat0 := leafM_is ps (q) hIl0
                have hkl0 : (leafM ps (q)).key.size ≤ maxLen := by rw [hat0]; exact HNL.out _ (List.getElem_mem hIl0)
                have ha0 : -9223372036854775808 ≤ (leafM ps (q)).at_ ∧ (leafM ps (q)).at_ ≤ 9223372036854775807 := by rw [hat0]; exact ⟨by show _ ≤ ((q : Nat) : Int); omega, by show ((q : Nat) : Int) ≤ _; omega⟩
                have CL0 := Lib.hid (C5.out HO.out W6.drew hbd0 hn6 (q) (by have := HN.out; omega))
                have H9o0 := H9_0.out
                have h9l0 := blk_lt H9o0
                have hWw0 := hb0.size
                have x10 : W6.cell? ⟨w1.heap.size, 1, none⟩ = some (.slice none 0 0) := blk_cell H9o0 1
                have HA0 := Lib.hid (And.intro hkl0 ha0)
                clear hat0 hkl0 ha0
                obtain ⟨ml0, hml0⟩ : ∃ ml, ml = leafM ps (q) := ⟨_, rfl⟩
                rw [← hml0] at CL0 HA0
                have HML0 := Lib.hid hml0
                clear hml0
                go_wp2_with fail
                go_region_law (first
                  | (go_simp; (with_reducible refine (CL0.out).mono ?_); rintro e w3 ⟨v3, rfl, ho3, hb3'⟩; dsimp only; have hb3 : Below W6.heap.size W6 w3 := below_chain (Below.refl W6.heap.size W6).drew (Nat.le_refl _) hb3'; obtain ⟨A3, n3, c3, A4, n4, c4, hv3, hcs⟩ := ho3.cells HA0.out.1 HA0.out.2.1 HA0.out.2.2; subst hv3; have hx5 : Below w3.heap.size w3 (w3.alloc (.cells #[.int .i64 ml0.at_, .string ml0.key, .slice A3 n3 c3, .slice A4 n4 c4] 46)) := (Below.refl _ _).alloc (Nat.le_refl _) _; have hq5 := below_chain hb3 hb3.size hx5; have ho5 := OwnL.up hol0 hq5; have hc5 := heap_alloc_new w3 (.cells #[.int .i64 ml0.at_, .string ml0.key, .slice A3 n3 c3, .slice A4 n4 c4] 46); have hr5 := hcs.up hx5; have h95 := (hq5.block w1.heap.size h9l0).trans H9o0; have hbb := below_chain hb0 hWw0 hq5; have z1 := (hb3.cell (p := ⟨w1.heap.size, 1, none⟩) h9l0).trans x10; have z15 : (w3.alloc (.cells #[.int .i64 ml0.at_, .string ml0.key, .slice A3 n3 c3, .slice A4 n4 c4] 46)).cell? ⟨w1.heap.size, 1, none⟩ = some (.slice none 0 0) := blk_cell h95 1)
                  | (refine wp_append_x (b := w3.heap.size) (off := 0) (.tmp 73) (.tmp 77) _ rfl i0 _ 72 Tryd.underlying31 hi0' hz hsz hby rfl (by decide) rfl ho5 rfl _ hr5.len (fun j hj => (by rw [Nat.zero_add]; exact leafCells_get hc5 j hj)) hr5.one hr5 (fun w' c a hc hg => hc.grow hg (by decide) (by decide)) (Nat.zero_le _) (by unfold maxLen; simp) (by simp) (Nat.le_trans hWw0 hq5.size) ?_; intro v6 w6 ho6 hg6; have hgr6 := OwnX.grows ho5 (Nat.zero_le _) hg6; have h96 := ((show Of _ 0 33 w1.heap.size from .inr ⟨_, _, h95⟩).same hgr6 (blk_lt h95) (by decide)).trans h95; have hb6 := OwnX.below ho5 hbb hbb.size hg6; have w61 : w6.cell? ⟨w1.heap.size, 1, none⟩ = some (.slice none 0 0) := blk_cell h96 1; have w6f := blk_free h96 1; obtain ⟨A6, c6, hv6⟩ := ho6.form; simp only [List.length_append, List.length_singleton, List.length_nil, Nat.zero_add] at hv6; subst hv6)
                  | fail)
                all_goals (
                  have hgs := grown_set (World.grownBy.refl w6 (some w1.heap.size)) 1 (.slice A6 1 c6)
                  have hgrw := grow_of (B0 := 0) hgs (Nat.zero_le _) h96
                  have H9_1 : Hid ((w6.setCell ⟨w1.heap.size, 1, none⟩ (.slice A6 1 c6)).heap[w1.heap.size]? = some (.cells #[.int .i64 (n : Int), .slice A6 1 c6] 33 (0, 0))) := Lib.hid (by simpa using blk_set h96 1 (.slice A6 1 c6))
                  have hol1 : OwnL _ w1.heap.size (.slice A6 1 c6) ([] ++ [ml0]) := OwnL.grow ho6 hgrw (by decide) (by decide) (by decide)
                  have hb1 := hb6.setCell (p := ⟨w1.heap.size, 1, none⟩) (Nat.le_refl _) (.slice A6 1 c6)
                  clear hgs hgrw ho6 hb6 hg6 hgr6 h96 w61 w6f z1 z15 hbb h95 hc5 hr5 ho5 hq5 hx5 ho3 hb3 x10 hb0 hol0 hWw0 h9l0 H9o0 H9_0 CL0 hbd0 hbw0
                  generalize hWW0 : (w6.setCell ⟨w1.heap.size, 1, none⟩ (.slice A6 1 c6)) = Wn0 at *
                  clear hWW0
                  have hbw9 := below_chain hq1 hq1.size hb1
                  have h4w := (hb1.block w.heap.size hl1).trans h41
                  have H9o := H9_1.out
                  have x0 := blk_cell H9o 0
                  have x1 := blk_cell H9o 1
                  have z0 := blk_cell h4w 0
                  have z1 := blk_cell h4w 1
                  simp only [List.getElem?_toArray, List.getElem?_cons_zero, List.getElem?_cons_succ] at x0 x1 z0 z1
                  have y0 := blk_free h4w 0
                  have y1 := blk_free h4w 1
                  have hgr := grow_of (B0 := 0) (grown_set2 _ w.heap.size (.int .i64 (n : Int)) (.slice A6 1 c6)) (Nat.zero_le _) h4w
                  have hG4 := blk_set2 h4w (.int .i64 (n : Int)) (.slice A6 1 c6)
                  have hout := Below.set2' (g := w.heap.size) hbw9 (Nat.le_refl _) (.int .i64 (n : Int)) (.slice A6 1 c6)
                  have holF := OwnL.grow (OwnX.more hol1 (Nat.le_of_lt hl1)) hgr (by decide) (by decide) (by decide)
                  clear hgr h4w H9o hol1 hbw9 hb1 H9_1
                  go_wp2_with fail
                  have g0 := blk_cell hG4 0
                  have g1 := blk_cell hG4 1
                  simp only [List.getElem?_toArray, List.getElem?_cons_zero, List.getElem?_cons_succ] at g0 g1
                  refine bodyPost_ret (v := .tuple #[.agg #[.int .i64 (n : Int), .slice A6 1 c6], .int .i64 0]) (by simp [results, Tryd.results13, go_sem, g0, g1]) rfl ⟨.agg #[.int .i64 (n : Int), .slice A6 1 c6], ?_, ?_, hout⟩
                  · rw [HRR2.out]
                  · rw [HRR2.out]; rw [HML0.out] at holF; exact ⟨_, rfl, holF⟩)
        · obtain rfl : q = n := by omega
          have i2 : ¬ (q : Int) < (q : Int) := by omega
          have hres : placeM key ps = q := by rw [HRK.out, HN.out, List.drop_length]; simp [placeM]
          have hge : ps.length ≤ q := by have := HN.out; omega
          have hle : hitB ps key = false := by unfold hitB; rw [hres, List.getElem?_eq_none hge]
          have hRR : R = (⟨(q : Int), if 0 < q then [leafM ps (q - 1)] else []⟩, 0) := by rw [HR.out, ← HN.out]; unfold leavesP; rw [hle, hres, if_neg (by simp), if_neg (show ¬ q < ps.length by omega), List.append_nil]
          have HRR := Lib.hid hRR
          clear hRR HRK hres hle
          by_cases h0 : 0 < q
          · have i3 : (0 : Int) < (q : Int) := by omega
            have HRR2 : Hid (R = (⟨(q : Int), [] ++ [leafM ps (q - 1)]⟩, 0)) := Lib.hid (by rw [HRR.out, if_pos h0]; rfl)
            clear HRR
            have jx : IntKind.i64.wrap ((q : Int) - 1) = ((q - 1 : Nat) : Int) := by rw [IntKind.wrap_i64]; omega

            have hb0 : Below w1.heap.size w1 W6 := hb9
            have hol0 : OwnL W6 w1.heap.size (.slice none 0 0) [] := OwnX.nil _ _
            have H9_0 : Hid (W6.heap[w1.heap.size]? = some (.cells #[.int .i64 (q : Int), .slice none 0 0] 33 (0, 0))) := G9
            clear hb9 G9
            have hbw0 := below_chain hq1 hq1.size hb0
            have hbd0 : Below w.heap.size w W6.drew := hbw0.drew
            have hIl0 : q - 1 < ps.length := (by have := HN.out; omega)
            have hat0 := leafM_is ps (q - 1) hIl0
            have hkl0 : (leafM ps (q - 1)).key.size ≤ maxLen := by rw [hat0]; exact HNL.out _ (List.getElem_mem hIl0)
            have ha0 : -9223372036854775808 ≤ (leafM ps (q - 1)).at_ ∧ (leafM ps (q - 1)).at_ ≤ 9223372036854775807 := by rw [hat0]; exact ⟨by show _ ≤ ((q - 1 : Nat) : Int); omega, by show ((q - 1 : Nat) : Int) ≤ _; omega⟩
            have CL0 := Lib.hid (C5.out HO.out W6.drew hbd0 hn6 (q - 1) (by have := HN.out; omega))
            have H9o0 := H9_0.out
            have h9l0 := blk_lt H9o0
            have hWw0 := hb0.size
            have x10 : W6.cell? ⟨w1.heap.size, 1, none⟩ = some (.slice none 0 0) := blk_cell H9o0 1
            have HA0 := Lib.hid (And.intro hkl0 ha0)
            clear hat0 hkl0 ha0
            obtain ⟨ml0, hml0⟩ : ∃ ml, ml = leafM ps (q - 1) := ⟨_, rfl⟩
            rw [← hml0] at CL0 HA0
            have HML0 := Lib.hid hml0
            clear hml0
            go_wp2_with fail
            go_region_law (first
              | (go_simp; (with_reducible refine (CL0.out).mono ?_); rintro e w3 ⟨v3, rfl, ho3, hb3'⟩; dsimp only; have hb3 : Below W6.heap.size W6 w3 := below_chain (Below.refl W6.heap.size W6).drew (Nat.le_refl _) hb3'; obtain ⟨A3, n3, c3, A4, n4, c4, hv3, hcs⟩ := ho3.cells HA0.out.1 HA0.out.2.1 HA0.out.2.2; subst hv3; have hx5 : Below w3.heap.size w3 (w3.alloc (.cells #[.int .i64 ml0.at_, .string ml0.key, .slice A3 n3 c3, .slice A4 n4 c4] 46)) := (Below.refl _ _).alloc (Nat.le_refl _) _; have hq5 := below_chain hb3 hb3.size hx5; have ho5 := OwnL.up hol0 hq5; have hc5 := heap_alloc_new w3 (.cells #[.int .i64 ml0.at_, .string ml0.key, .slice A3 n3 c3, .slice A4 n4 c4] 46); have hr5 := hcs.up hx5; have h95 := (hq5.block w1.heap.size h9l0).trans H9o0; have hbb := below_chain hb0 hWw0 hq5; have z1 := (hb3.cell (p := ⟨w1.heap.size, 1, none⟩) h9l0).trans x10; have z15 : (w3.alloc (.cells #[.int .i64 ml0.at_, .string ml0.key, .slice A3 n3 c3, .slice A4 n4 c4] 46)).cell? ⟨w1.heap.size, 1, none⟩ = some (.slice none 0 0) := blk_cell h95 1)
              | (refine wp_append_x (b := w3.heap.size) (off := 0) (.tmp 60) (.tmp 65) _ rfl i0 _ 72 Tryd.underlying31 hi0' hz hsz hby rfl (by decide) rfl ho5 rfl _ hr5.len (fun j hj => (by rw [Nat.zero_add]; exact leafCells_get hc5 j hj)) hr5.one hr5 (fun w' c a hc hg => hc.grow hg (by decide) (by decide)) (Nat.zero_le _) (by unfold maxLen; simp) (by simp) (Nat.le_trans hWw0 hq5.size) ?_; intro v6 w6 ho6 hg6; have hgr6 := OwnX.grows ho5 (Nat.zero_le _) hg6; have h96 := ((show Of _ 0 33 w1.heap.size from .inr ⟨_, _, h95⟩).same hgr6 (blk_lt h95) (by decide)).trans h95; have hb6 := OwnX.below ho5 hbb hbb.size hg6; have w61 : w6.cell? ⟨w1.heap.size, 1, none⟩ = some (.slice none 0 0) := blk_cell h96 1; have w6f := blk_free h96 1; obtain ⟨A6, c6, hv6⟩ := ho6.form; simp only [List.length_append, List.length_singleton, List.length_nil, Nat.zero_add] at hv6; subst hv6)
              | fail)
            all_goals (
              have hgs := grown_set (World.grownBy.refl w6 (some w1.heap.size)) 1 (.slice A6 1 c6)
              have hgrw := grow_of (B0 := 0) hgs (Nat.zero_le _) h96
              have H9_1 : Hid ((w6.setCell ⟨w1.heap.size, 1, none⟩ (.slice A6 1 c6)).heap[w1.heap.size]? = some (.cells #[.int .i64 (q : Int), .slice A6 1 c6] 33 (0, 0))) := Lib.hid (by simpa using blk_set h96 1 (.slice A6 1 c6))
              have hol1 : OwnL _ w1.heap.size (.slice A6 1 c6) ([] ++ [ml0]) := OwnL.grow ho6 hgrw (by decide) (by decide) (by decide)
              have hb1 := hb6.setCell (p := ⟨w1.heap.size, 1, none⟩) (Nat.le_refl _) (.slice A6 1 c6)
              clear hgs hgrw ho6 hb6 hg6 hgr6 h96 w61 w6f z1 z15 hbb h95 hc5 hr5 ho5 hq5 hx5 ho3 hb3 x10 hb0 hol0 hWw0 h9l0 H9o0 H9_0 CL0 hbd0 hbw0
              generalize hWW0 : (w6.setCell ⟨w1.heap.size, 1, none⟩ (.slice A6 1 c6)) = Wn0 at *
              clear hWW0
              have hbw9 := below_chain hq1 hq1.size hb1
              have h4w := (hb1.block w.heap.size hl1).trans h41
              have H9o := H9_1.out
              have x0 := blk_cell H9o 0
              have x1 := blk_cell H9o 1
              have z0 := blk_cell h4w 0
              have z1 := blk_cell h4w 1
              simp only [List.getElem?_toArray, List.getElem?_cons_zero, List.getElem?_cons_succ] at x0 x1 z0 z1
              have y0 := blk_free h4w 0
              have y1 := blk_free h4w 1
              have hgr := grow_of (B0 := 0) (grown_set2 _ w.heap.size (.int .i64 (q : Int)) (.slice A6 1 c6)) (Nat.zero_le _) h4w
              have hG4 := blk_set2 h4w (.int .i64 (q : Int)) (.slice A6 1 c6)
              have hout := Below.set2' (g := w.heap.size) hbw9 (Nat.le_refl _) (.int .i64 (q : Int)) (.slice A6 1 c6)
              have holF := OwnL.grow (OwnX.more hol1 (Nat.le_of_lt hl1)) hgr (by decide) (by decide) (by decide)
              clear hgr h4w H9o hol1 hbw9 hb1 H9_1
              go_wp2_with fail
              have g0 := blk_cell hG4 0
              have g1 := blk_cell hG4 1
              simp only [List.getElem?_toArray, List.getElem?_cons_zero, List.getElem?_cons_succ] at g0 g1
              refine bodyPost_ret (v := .tuple #[.agg #[.int .i64 (q : Int), .slice A6 1 c6], .int .i64 0]) (by simp [results, Tryd.results13, go_sem, g0, g1]) rfl ⟨.agg #[.int .i64 (q : Int), .slice A6 1 c6], ?_, ?_, hout⟩
              · rw [HRR2.out]
              · rw [HRR2.out]; rw [HML0.out] at holF; exact ⟨_, rfl, holF⟩)
          · have i3 : ¬ (0 : Int) < (q : Int) := by omega
            have HRR2 : Hid (R = (⟨(q : Int), []⟩, 0)) := Lib.hid (by rw [HRR.out, if_neg h0])
            clear HRR
            have hb0 : Below w1.heap.size w1 W6 := hb9
            have hol0 : OwnL W6 w1.heap.size (.slice none 0 0) [] := OwnX.nil _ _
            have H9_0 : Hid (W6.heap[w1.heap.size]? = some (.cells #[.int .i64 (q : Int), .slice none 0 0] 33 (0, 0))) := G9
            clear hb9 G9
            have hbw9 := below_chain hq1 hq1.size hb0
            have h4w := (hb0.block w.heap.size hl1).trans h41
            have H9o := H9_0.out
            have x0 := blk_cell H9o 0
            have x1 := blk_cell H9o 1
            have z0 := blk_cell h4w 0
            have z1 := blk_cell h4w 1
            simp only [List.getElem?_toArray, List.getElem?_cons_zero, List.getElem?_cons_succ] at x0 x1 z0 z1
            have y0 := blk_free h4w 0
            have y1 := blk_free h4w 1
            have hgr := grow_of (B0 := 0) (grown_set2 _ w.heap.size (.int .i64 (q : Int)) (.slice none 0 0)) (Nat.zero_le _) h4w
            have hG4 := blk_set2 h4w (.int .i64 (q : Int)) (.slice none 0 0)
            have hout := Below.set2' (g := w.heap.size) hbw9 (Nat.le_refl _) (.int .i64 (q : Int)) (.slice none 0 0)
            have holF := OwnL.grow (OwnX.more hol0 (Nat.le_of_lt hl1)) hgr (by decide) (by decide) (by decide)
            clear hgr h4w H9o hol0 hbw9 hb0 H9_0
            go_wp2_with fail
            have g0 := blk_cell hG4 0
            have g1 := blk_cell hG4 1
            simp only [List.getElem?_toArray, List.getElem?_cons_zero, List.getElem?_cons_succ] at g0 g1
            refine bodyPost_ret (v := .tuple #[.agg #[.int .i64 (q : Int), .slice none 0 0], .int .i64 0]) (by simp [results, Tryd.results13, go_sem, g0, g1]) rfl ⟨.agg #[.int .i64 (q : Int), .slice none 0 0], ?_, ?_, hout⟩
            · rw [HRR2.out]
            · rw [HRR2.out]; exact ⟨_, rfl, holF⟩
end Go.Proofs.YtpnfdfnbnoplgaaDoor
