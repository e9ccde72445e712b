
/- The document's merkle: the root, a leaf with its way. -/
import Derived.Test.YtpnfdfnbnoplgaaDoorRMerkD0
import Derived.Test.YtpnfdfnbnoplgaaDoorMerkE0
import Derived.Test.YtpnfdfnbnoplgaaDoorRMerkS
import Derived.Test.YtpnfdfnbnoplgaaDoorRowR0
namespace Go.Proofs.YtpnfdfnbnoplgaaDoor
open Go Go.RowKit
set_option linter.unusedVariables false
variable {w w' : World} {B : Nat}

set_option maxHeartbeats 1000000 in
theorem rroot_any (w : World) (v : Value) (ps : List Pr) (hr : RdP w w.heap.size v ps) (hnl : ∀ p ∈ ps, p.1.size ≤ maxLen) (fr : TypeId × Nat × Nat) (hk : w.heap[1]? = some (.cells kVals fr.1 fr.2)) :
    Calls Tryd.prog 10 #[v] w fun e w' => ∃ v', e = .returned (.tuple #[v', .int .i64 (rootM ps).2]) ∧ Own w' w.heap.size v' (rootM ps).1 ∧ Below w.heap.size w w' := by
  have hnk := blk_lt hk
  have HK := Lib.hid hk
  clear hk
  have C1 := right_any w v ps hr hnl
  have C2 := fun (w1 : World) (hb : Below w.heap.size w w1) (h0 : ps.length ≤ 65536) (h1 : 1 ≤ ps.length) => by
    have e1 : w1.heap[1]? = some (.cells kVals fr.1 fr.2) := (hb.block _ hnk).trans HK.out
    have e2 : RdP w1 w1.heap.size v ps := (hr.below hb).more hb.size
    exact rrow_any fr _ ps v w1 (Nat.le_refl _) h1 h0 e2 hnl e1
  obtain ⟨A, c, rfl, hc, hm, hp⟩ := hr
  unfold maxLen at hm
  obtain ⟨n, hn⟩ : ∃ n, n = ps.length := ⟨_, rfl⟩
  rw [← hn] at hc C1 C2 ⊢
  have HR := Lib.hid (fun h : ordB ps = false => rootM_no h)
  have HR0 := Lib.hid (fun (h : ordB ps = true) (h0 : ps.length = 0) => rootM_nil h h0)
  have HR1 := Lib.hid (fun (h : ordB ps = true) (h0 : 0 < ps.length) => rootM_some h h0)
  generalize rootM ps = R at *
  have HN := Lib.hid hn
  clear hn hp
  replace C1 := Lib.hid C1
  replace C2 := Lib.hid C2
  go_enter Tryd.func10, Tryd.ntmps10
  go_wp2_with fail
  refine C1.out.mono ?_
  rintro e w1 ⟨rfl, hb1⟩
  clear C1
  cases ho : ordB ps with
  | false =>
    have hR : R = ([], 60) := HR.out ho
    subst hR
    go_wp2_with fail
    go_ret2
    exact ⟨_, rfl, Own.nil _ _, hb1⟩
  | true =>
    have hn1 : n ≤ 65536 := by rw [HN.out]; exact ordB_len ho
    by_cases h0 : n = 0
    · have hR : R = (rootE, 0) := HR0.out ho (by have := HN.out; omega)
      subst hR
      subst h0
      go_wp2_with fail
      refine (rn_any 0 _ (by omega)).mono ?_
      rintro e w2 ⟨v2, rfl, ho2, hb2⟩
      obtain ⟨A2, c2, rfl⟩ := ho2.form' (be_length 0 8)
      have hp3 := partsA1 w2 (.slice A2 8 c2) (be 0 8) 23 ho2.rd
      have hq := below_chain hb1 hb1.size hb2
      have hx3 := hq.alloc hq.size (.cells #[.slice A2 8 c2] 23)
      have hk3 := (hx3.block _ hnk).trans HK.out
      clear ho2
      go_wp2_with fail
      refine (rtagged_any wRoot _ [be 0 8] _ hp3 (by unfold maxLen wRoot; decide) (by simp) fr hk3).mono ?_
      rintro e w4 ⟨v4, rfl, ho4, hb4⟩
      have hbo := below_chain hx3 hx3.size hb4
      go_wp2_with fail
      go_ret2
      exact ⟨_, rfl, ho4.more hx3.size, hbo⟩
    · have hR : R = (rootH n (rowT nodeH (leaves ps)), 0) := by rw [HN.out]; exact HR1.out ho (by have := HN.out; omega)
      subst hR
      have i1 : ¬ (n : Int) = 0 := by omega
      have hn8 : n ≤ 9223372036854775807 := by omega
      go_wp2_with fail
      refine (rn_any n _ hn8).mono ?_
      rintro e w2 ⟨v2, rfl, ho2, hb2⟩
      obtain ⟨A2, c2, rfl⟩ := ho2.form' (be_length n 8)
      have hq := below_chain hb1 hb1.size hb2
      go_wp2_with fail
      refine (C2.out w2 hq hn1 (by omega)).mono ?_
      rintro e w3 ⟨v3, rfl, ho3, hb3⟩
      have hq3 := below_chain hq hq.size hb3
      have HH : Hid (rootH n (rowT nodeH (leaves ps)) = shaSum (formB (strBytes wRoot) ++ formBs [be n 8, rowT nodeH (leaves ps)])) := Lib.hid rfl
      generalize hh : rowT nodeH (leaves ps) = h at *
      have HHH := Lib.hid hh
      clear hh
      obtain ⟨A3, c3, rfl⟩ := ho3.form
      have hp4 := partsA2 w3 (.slice A2 8 c2) (.slice A3 h.length c3) (be n 8) h 23 (ho2.rd.up (Nat.le_refl _) hb3) ho3.rd
      have hx4 := hq3.alloc hq3.size (.cells #[.slice A2 8 c2, .slice A3 h.length c3] 23)
      have hk4 := (hx4.block _ hnk).trans HK.out
      clear ho2 ho3
      go_wp2_with fail
      refine (rtagged_any wRoot _ [be n 8, h] _ hp4 (by unfold maxLen wRoot; decide) (by simp) fr hk4).mono ?_
      rintro e w5 ⟨v5, rfl, ho5, hb5⟩
      have hbo := below_chain hx4 hx4.size hb5
      go_wp2_with fail
      go_ret2
      exact ⟨_, rfl, by rw [HHH.out, HH.out]; exact ho5.more hx4.size, hbo⟩

set_option maxHeartbeats 2000000 in
theorem rshown_any (fr : TypeId × Nat × Nat) (B0 : Nat) (ps : List Pr) (i : Nat) (v : Value) (w : World) (hB0 : B0 ≤ w.heap.size) (hi : i < ps.length) (h6 : ps.length ≤ 65536) (hr : RdP w w.heap.size v ps) (hnl : ∀ p ∈ ps, p.1.size ≤ maxLen) (hvl : ∀ p ∈ ps, p.2.length ≤ 65535) (hk : w.heap[1]? = some (.cells kVals fr.1 fr.2)) :
    Calls Tryd.prog 33 #[v, .int .i64 (i : Int)] w fun e w' => ∃ v', e = .returned v' ∧ LeafN w' B0 w.heap.size v' (leafM ps i) ∧ Below w.heap.size w w' := by
  obtain ⟨i0, hi0, hz, hsz, hby⟩ := info_parts Tryd.infoByte
  have hnk := blk_lt hk
  have HK := Lib.hid hk
  clear hk
  have C1 := Lib.hid (fun (w1 : World) (hb : Below w.heap.size w w1) => rway_any fr B0 ps.length ps i v w1 (Nat.le_trans hB0 hb.size) (Nat.le_refl _) hi h6 ((hr.below hb).more hb.size) hnl ((hb.block _ hnk).trans HK.out))
  obtain ⟨A, c, rfl, hc, hm, hp⟩ := hr
  unfold maxLen at hm
  obtain ⟨b, o, rfl, hbl, hcell⟩ := hp (by omega)
  obtain ⟨q1, x, q2, q3⟩ := hcell i hi
  have HM : Hid (leafM ps i = ⟨(i : Int), ps[i].1, ps[i].2, wayT nodeH (leaves ps) i⟩) := Lib.hid (by unfold leafM; rw [List.getD_eq_getElem?_getD, List.getElem?_eq_getElem hi]; rfl)
  have hks := hnl _ (List.getElem_mem hi)
  have hvs := hvl _ (List.getElem_mem hi)
  clear hcell hp hnl hvl
  generalize leafM ps i = M at *
  generalize ps[i].1 = s at *
  generalize ps[i].2 = l at *
  generalize wayT nodeH (leaves ps) i = p at *
  obtain ⟨n, hn⟩ : ∃ n, n = ps.length := ⟨_, rfl⟩
  rw [← hn] at C1 hi h6 hc ⊢
  clear hn
  obtain ⟨Ax, cx, rfl⟩ := q3.form
  have hxl : l.length ≤ 9223372036854775807 := q3.len
  have k1 : (0 : Int) ≤ (i : Int) := by omega
  have k2 : (i : Int) < (n : Int) := by omega
  have hb0 : Below w.heap.size w (w.alloc (.cells #[.int .i64 0, .string ⟨#[]⟩, .slice none 0 0, .slice none 0 0] 46)) := (Below.refl _ _).alloc (Nat.le_refl _) _
  go_enter Tryd.func33, Tryd.ntmps33
  go_wp2_with fail
  have hcells := heap_alloc_new w (.cells #[.int .i64 0, .string ⟨#[]⟩, .slice none 0 0, .slice none 0 0] 46)
  have hsz0 : (w.alloc (.cells #[.int .i64 0, .string ⟨#[]⟩, .slice none 0 0, .slice none 0 0] 46)).heap.size = w.heap.size + 1 := by simp
  generalize w.alloc (.cells #[.int .i64 0, .string ⟨#[]⟩, .slice none 0 0, .slice none 0 0] 46) = W0 at *
  have hE := own_empty W0 (Nat.le_refl _)
  have hbE : Below W0.heap.size W0 (W0.alloc (.cells #[] 5)) := (Below.refl _ _).alloc (Nat.le_refl _) _
  have hqE := below_chain hb0 hb0.size hbE
  have hED : Own (W0.alloc (.cells #[] 5)).drew W0.heap.size (.slice (some ⟨W0.heap.size, 0, none⟩) 0 0) [] := hE
  have hqD : Below w.heap.size w (W0.alloc (.cells #[] 5)).drew := hqE.drew
  have hbD : Below W0.heap.size W0 (W0.alloc (.cells #[] 5)).drew := hbE.drew
  have hlE : (W0.alloc (.cells #[] 5)).drew.heap.size = W0.heap.size + 1 := by simp
  have d1 := (hqD.cell (p := ⟨b, o + i * 2, none⟩) hbl).trans q1
  have d2 := (hqD.cell (p := ⟨b, o + i * 2 + 1, none⟩) hbl).trans q2
  have c1 := (hb0.cell (p := ⟨b, o + i * 2, none⟩) hbl).trans q1
  have c2 := (hb0.cell (p := ⟨b, o + i * 2 + 1, none⟩) hbl).trans q2
  have HLE := Lib.hid hlE
  have HSZ := Lib.hid hsz0
  clear hE hqE hbE hlE hsz0
  go_region_held_law (fun W => W.cell? ⟨b, o + i * 2, none⟩ = some (.string s) ∧ W.cell? ⟨b, o + i * 2 + 1, none⟩ = some (.slice Ax l.length cx))
    (first | exact ⟨c1, c2⟩ | exact ⟨d1, d2⟩ | exact ⟨e1, e2⟩ | exact ⟨f1, f2⟩ | exact ⟨((Below.set4' hq6 (Nat.le_refl _) _ _ _ _).cell (p := ⟨b, o + i * 2, none⟩) hbl).trans q1, ((Below.set4' hq6 (Nat.le_refl _) _ _ _ _).cell (p := ⟨b, o + i * 2 + 1, none⟩) hbl).trans q2⟩)
    (first
      | (go_at_call 52; (have D1 := C1.out w5 hq5; (with_reducible refine D1.mono ?_); rintro e w6 ⟨v6, rfl, ho6, hb6⟩; have hq6 := below_chain hq5 hq5.size hb6; have ho5' := ho5.below hb6; have hg6 := (hb6.block w.heap.size hl5).trans hg5b; have z0 : w6.cell? ⟨w.heap.size, 0, none⟩ = some (.int .i64 0) := blk_cell hg6 0; have z1 : w6.cell? ⟨w.heap.size, 1, none⟩ = some (.string ⟨#[]⟩) := blk_cell hg6 1; have z2 : w6.cell? ⟨w.heap.size, 2, none⟩ = some (.slice none 0 0) := blk_cell hg6 2; have z3 : w6.cell? ⟨w.heap.size, 3, none⟩ = some (.slice none 0 0) := blk_cell hg6 3; have y0 := blk_free hg6 0; have y1 := blk_free hg6 1; have y2 := blk_free hg6 2; have y3 := blk_free hg6 3; have e1 := (hq6.cell (p := ⟨b, o + i * 2, none⟩) hbl).trans q1; have e2 := (hq6.cell (p := ⟨b, o + i * 2 + 1, none⟩) hbl).trans q2; obtain ⟨A6, c6, rfl⟩ := ho6.form))
      | (rw [if_pos (by rfl)]; refine wp_append_rd (.tmp 11) (.tmp 16) _ rfl i0 Tryd.underlying23 hi0 hz hsz hby rfl hED rfl (q3.below hqD) (by simp; omega) (by rw [HLE.out]; omega) ?_; intro v5 w5 ho5 hg5 _; have hb5 : Below W0.heap.size W0 w5 := hbD.grown hg5 (by rw [HLE.out]; omega) (fun k hk => (hED.lt k hk).1); have hq5 := below_chain hb0 hb0.size hb5; have hg5b := (hb5.block w.heap.size (by rw [HSZ.out]; omega)).trans hcells; have hl5 := blk_lt hg5b; have f1 := (hq5.cell (p := ⟨b, o + i * 2, none⟩) hbl).trans q1; have f2 := (hq5.cell (p := ⟨b, o + i * 2 + 1, none⟩) hbl).trans q2; obtain ⟨A5, c5, rfl⟩ := ho5.form))
  have hR : Own w6 w.heap.size (.slice A5 l.length c5) l := ho5'.more hb0.size
  have hP : OwnR w6 B0 w.heap.size (.slice A6 p.length c6) p := ho6.more hq5.size
  have hgr := grow_of (B0 := B0) (grown_set4 w6 w.heap.size (.int .i64 (i : Int)) (.string s) (.slice A5 l.length c5) (.slice A6 p.length c6)) hB0 hg6
  have hG := blk_set4 hg6 (.int .i64 (i : Int)) (.string s) (.slice A5 l.length c5) (.slice A6 p.length c6)
  have hout := Below.set4' (g := w.heap.size) hq6 (Nat.le_refl _) (.int .i64 (i : Int)) (.string s) (.slice A5 l.length c5) (.slice A6 p.length c6)
  have hR2 := hR.grow hgr hB0 (by decide)
  have hP2 := hP.grow hgr (by decide) (by decide)
  clear hgr hR hP ho5' ho6 z0 z1 z2 z3 y0 y1 y2 y3 e1 e2 f1 f2 hg6 hq6 hb6 hg5 ho5
  generalize ((((w6.setCell ⟨w.heap.size, 0, none⟩ (.int .i64 (i : Int))).setCell ⟨w.heap.size, 1, none⟩ (.string s)).setCell ⟨w.heap.size, 2, none⟩ (.slice A5 l.length c5)).setCell ⟨w.heap.size, 3, none⟩ (.slice A6 p.length c6)) = w9 at *
  have g0 : w9.cell? ⟨w.heap.size, 0, none⟩ = some (.int .i64 (i : Int)) := blk_cell hG 0
  have g1 : w9.cell? ⟨w.heap.size, 1, none⟩ = some (.string s) := blk_cell hG 1
  have g2 : w9.cell? ⟨w.heap.size, 2, none⟩ = some (.slice A5 l.length c5) := blk_cell hG 2
  have g3 : w9.cell? ⟨w.heap.size, 3, none⟩ = some (.slice A6 p.length c6) := blk_cell hG 3
  go_wp2_with fail
  refine bodyPost_ret (v := .agg #[.int .i64 (i : Int), .string s, .slice A5 l.length c5, .slice A6 p.length c6]) (by simp [results, Tryd.results33, go_sem, g0, g1, g2, g3]) rfl ⟨_, rfl, ?_, hout⟩
  rw [HM.out]
  exact ⟨_, _, rfl, hR2, hP2⟩
end Go.Proofs.YtpnfdfnbnoplgaaDoor
