
/- The law MerkleSpots, walked. -/
import Derived.Test.YtpnfdfnbnoplgaaDoorMerkL0
namespace Go.Proofs.YtpnfdfnbnoplgaaDoor
open Go Go.RowKit
set_option linter.unusedVariables false
variable {w w' : World} {B B0 : Nat}

theorem Tryd.infoPairL : (Tryd.prog.info? 25).map (fun i => (i.zero, i.size, i.bytes)) = some (some (.agg #[.string ⟨#[]⟩, .slice none 0 0]), 2, 40) := by kernel_rfl
/-- what a pair's two cells say -/
def PrC (B0 : Nat) (w : World) (c : List Value) (p : Pr) : Prop := ∃ v, c = [.string p.1, v] ∧ RdS w B0 v p.2
theorem PrC.grow {c : List Value} {p : Pr} {E : TypeId} (h : PrC B0 w c p) (hg : Grow w B0 E w') (h1 : 5 ≠ E) : PrC B0 w' c p := by
  obtain ⟨v, e, q⟩ := h
  exact ⟨v, e, q.grow hg h1⟩
theorem PrC.up {c : List Value} {p : Pr} (h : PrC B0 w c p) (hb : Below w.heap.size w w') : PrC B0 w' c p := by
  obtain ⟨v, e, q⟩ := h
  exact ⟨v, e, q.up hb⟩
theorem PrC.len {c : List Value} {p : Pr} (h : PrC B0 w c p) : c.length = 2 := by obtain ⟨v, e, _⟩ := h; rw [e]; rfl
theorem PrC.one {c : List Value} {p : Pr} (h : PrC B0 w c p) : ∀ u ∈ c, u.oneCell' = true := by
  obtain ⟨v, e, q⟩ := h
  obtain ⟨A, k, rfl⟩ := q.1.form
  subst e
  intro u hu
  simp only [List.mem_cons, List.not_mem_nil, or_false] at hu
  rcases hu with rfl | rfl <;> rfl
/-- pairs of the call's own -/
abbrev OwnP (B0 : Nat) (w : World) (B : Nat) (v : Value) (ps : List Pr) : Prop := OwnX 25 2 (PrC B0) w B v ps
theorem OwnP.up {v : Value} {ps : List Pr} (h : OwnP B0 w B v ps) (hb : Below w.heap.size w w') : OwnP B0 w' B v ps := OwnX.up h hb fun c a hc => hc.up hb
theorem OwnP.rdP {v : Value} {ps : List Pr} (h : OwnP B0 w B v ps) : RdP w w.heap.size v ps := by
  obtain ⟨A, c, rfl⟩ := h.form
  by_cases h0 : ps.length = 0
  · obtain ⟨cs, hr, _⟩ := h
    rcases hr.2 with ⟨e, _⟩ | ⟨g, cap, cur, hv, hb, hg, hn, hm, hs, ht⟩
    · injection e with _ _ e3
      exact ⟨A, c, rfl, by omega, by subst e3; simp [maxLen], fun h => by omega⟩
    · injection hv with _ _ e3
      exact ⟨A, c, rfl, by omega, by omega, fun h => by omega⟩
  · obtain ⟨b, cs, rfl, -, h1, h2, -, hlt, -⟩ := h.at_ 0 (by omega)
    refine ⟨_, _, rfl, h1, h2, fun _ => ⟨b, 0, rfl, hlt, fun j hj => ?_⟩⟩
    obtain ⟨b', cs', e, -, -, -, -, hlt', -, hcell, v, he, q⟩ := h.at_ j hj
    injection e with e
    injection e with e _
    subst e; subst he
    have c0 := hcell 0 (by omega)
    have c1 := hcell 1 (by omega)
    rw [Nat.zero_add]
    exact ⟨by simpa using c0, v, by simpa using c1, q.1⟩
theorem pairCells_get {W : World} {g : Nat} {x0 x1 : Value} {E : TypeId} (h : W.heap[g]? = some (.cells #[x0, x1] E (0, 0))) (j : Nat) (hj : j < 2) : W.cell? ⟨g, j, none⟩ = [x0, x1][j]? := by
  rw [blk_cell h j]
  simp
theorem rootM_two (l : List Pr) : (rootM l).2 = if ordB l = true then 0 else 60 := by
  by_cases h : ordB l = true
  · rw [if_pos h]
    by_cases h0 : l.length = 0
    · rw [rootM_nil h h0]
    · rw [rootM_some h (by omega)]
  · rw [if_neg h, rootM_no (by simpa using h)]
theorem rootM_32 {l : List Pr} (h : ordB l = true) : (rootM l).1.length = 32 := by
  by_cases h0 : l.length = 0
  · rw [rootM_nil h h0]; exact tagH_length _ _
  · rw [rootM_some h (by omega)]; exact tagH_length _ _

set_option maxHeartbeats 4000000 in
theorem spots_law (w : World) (v : Value) (ps : List Pr) (at_ : Int) (hr : RdP w w.heap.size v ps) (hnl : ∀ p ∈ ps, p.1.size ≤ maxLen) (ha1 : -9223372036854775808 ≤ at_) (ha2 : at_ ≤ 9223372036854775807) (fr : TypeId × Nat × Nat) (hk : w.heap[0]? = some (.cells kVals fr.1 fr.2)) :
    Calls Tryd.prog 8 #[v, .int .i64 at_] w fun e w' => e = .returned (.bool true) ∧ Below w.heap.size w w' := by
  have hn0 := blk_lt hk
  have HK := Lib.hid hk
  clear hk
  have CR := Lib.hid (fun (W : World) (hb : Below w.heap.size w W) => rootM_any W v ps ((hr.below hb).more hb.size) hnl fr ((hb.block _ hn0).trans HK.out))
  have CP := Lib.hid (fun (W : World) (hb : Below w.heap.size w W) (key : ByteArray) (hks : key.size ≤ maxLen) => prove_any ps key v W ((hr.below hb).more hb.size) hnl hks fr ((hb.block _ hn0).trans HK.out))
  obtain ⟨A, c, rfl, hc, hm, hp⟩ := hr
  unfold maxLen at hm
  obtain ⟨n, hn⟩ : ∃ n, n = ps.length := ⟨_, rfl⟩
  rw [← hn] at hc CR CP ⊢
  have HN := Lib.hid hn
  have HP := Lib.hid hp
  have HNL := Lib.hid hnl
  clear hn hp hnl
  go_enter Tryd.func8, Tryd.ntmps8
  go_wp2_with fail
  refine (CR.out w (Below.refl _ _)).mono ?_
  rintro e w1 ⟨v1, rfl, ho1, hb1⟩
  go_wp2_with fail
  refine (fixed_any w1 fr ((hb1.block _ hn0).trans HK.out)).mono ?_
  rintro e w2 ⟨rfl, hb2⟩
  have hq2 := below_chain hb1 hb1.size hb2
  cases ho : ordB ps with
  | false =>
    rw [rootM_no ho] at ho1 ⊢
    obtain ⟨A1, c1, rfl⟩ := ho1.form' (n := 0) rfl
    clear ho
    go_wp2_with fail
    refine (fixed_any w2 fr ((hq2.block _ hn0).trans HK.out)).mono ?_
    rintro e w3 ⟨rfl, hb3⟩
    have hq3 := below_chain hq2 hq2.size hb3
    go_wp2_with fail
    go_ret
    exact ⟨rfl, hq3⟩
  | true =>
    have hn6 := ordB_len ho
    rw [← HN.out] at hn6
    have hR1 : (rootM ps).2 = 0 := by rw [rootM_two, if_pos ho]
    obtain ⟨A1, c1, rfl⟩ := ho1.form' (rootM_32 ho)
    rw [hR1]
    clear hR1
    by_cases h0 : n = 0
    · subst h0
      go_wp2_with fail
      refine (fixed_any w2 fr ((hq2.block _ hn0).trans HK.out)).mono ?_
      rintro e w3 ⟨rfl, hb3⟩
      have hq3 := below_chain hq2 hq2.size hb3
      go_wp2_with fail
      go_ret
      exact ⟨rfl, hq3⟩
    · have i1 : ¬ (n : Int) = 0 := by omega
      obtain ⟨i, hi⟩ : ∃ i : Nat, (i : Int) = IntKind.u64.wrap at_ % (n : Int) := by
        have h1 : 0 ≤ IntKind.u64.wrap at_ % (n : Int) := Int.emod_nonneg _ i1
        exact ⟨(IntKind.u64.wrap at_ % (n : Int)).toNat, by omega⟩
      have hin : i < n := by
        have h1 : IntKind.u64.wrap at_ % (n : Int) < (n : Int) := Int.emod_lt_of_pos _ (by omega)
        omega
      have hu : 0 ≤ IntKind.u64.wrap at_ ∧ IntKind.u64.wrap at_ ≤ 18446744073709551615 := by rw [IntKind.wrap_u64]; omega
      have hii : IntKind.u64.wrap at_ % (n : Int) = (i : Int) := hi.symm
      have hil : i < ps.length := by have := HN.out; omega
      obtain ⟨b, o, rfl, hbl, hcell⟩ := HP.out (by omega)
      obtain ⟨q1, x, q2, q3⟩ := hcell i hil
      have hks := HNL.out _ (List.getElem_mem hil)
      obtain ⟨hkb, hvb⟩ := ordB_pair ho (List.getElem_mem hil)
      have hpr := proveM_yes ho hkb
      rw [hit_is ho i hil, ← HN.out] at hpr
      have CP2 := CP.out w2 hq2 _ hks
      rw [hpr] at CP2
      have a1 := (hq2.cell (p := ⟨b, o + i * 2, none⟩) hbl).trans q1
      have a2 := (hq2.cell (p := ⟨b, o + i * 2 + 1, none⟩) hbl).trans q2
      have hlm := leafM_is ps i hil
      have hpl := wayT_length nodeH 16 (leaves ps) i (by rw [leaves_length]; have := HN.out; omega)
      have hback := back_ord ho (by omega)
      replace CP2 := Lib.hid CP2
      have HB := Lib.hid hback
      have HR1 := Lib.hid (ho1.rd)
      clear hcell hpr hkb ho hi hback ho1
      generalize ps[i].1 = s at *
      have i2 : (0 : Int) ≤ (i : Int) := by omega
      have i3 : (i : Int) < (n : Int) := by omega
      go_wp2_with fail
      refine CP2.out.mono ?_
      rintro e w3 ⟨v3, rfl, ⟨lv, rfl, hol⟩, hb3⟩
      have hq3 := below_chain hq2 hq2.size hb3
      obtain ⟨Al, cl, hlv⟩ := hol.form
      try dsimp only at hlv hol
      subst hlv
      obtain ⟨bl, cs, rfl, -, -, -, -, hll, -, hcl, sv, pv, hcs, hsv, hpv, -⟩ := hol.at_ 0 (by simp)
      rw [hlm] at hcs
      try dsimp only at hcs
      subst hcs
      have l0 := hcl 0 (by omega)
      have l2 := hcl 2 (by omega)
      have l3 := hcl 3 (by omega)
      rw [hlm] at hsv hpv
      simp only [List.length_cons, List.length_nil, Nat.zero_add, List.getElem_cons_zero, Nat.zero_mul, Nat.add_zero, List.getElem?_cons_zero, List.getElem?_cons_succ] at l0 l2 l3 hsv hpv hol ⊢
      obtain ⟨Ap, cp, rfl⟩ := hpv.form
      have hpl2 : ((wayT nodeH (leaves ps) i).length : Int) ≤ 16 := by omega
      generalize (wayT nodeH (leaves ps) i).length = pl at *
      have hbx : Below w3.heap.size w3 (w3.alloc (.cells #[.int .i64 (n : Int), .slice (some ⟨bl, 0, none⟩) 1 cl] 33)) := (Below.refl _ _).alloc (Nat.le_refl _) _
      have hgx := heap_alloc_new w3 (.cells #[.int .i64 (n : Int), .slice (some ⟨bl, 0, none⟩) 1 cl] 33)
      clear CP2 hol hcl
      go_wp2_with fail
      generalize w3.alloc (.cells #[.int .i64 (n : Int), .slice (some ⟨bl, 0, none⟩) 1 cl] 33) = W3 at *
      have hq4 := below_chain hq3 hq3.size hbx
      have b1 := (hq4.cell (p := ⟨b, o + i * 2, none⟩) hbl).trans q1
      have b2 := (hq4.cell (p := ⟨b, o + i * 2 + 1, none⟩) hbl).trans q2
      have x0 : W3.cell? ⟨w3.heap.size, 0, none⟩ = some (.int .i64 (n : Int)) := blk_cell hgx 0
      have x1 : W3.cell? ⟨w3.heap.size, 1, none⟩ = some (.slice (some ⟨bl, 0, none⟩) 1 cl) := blk_cell hgx 1
      have m0 := (hbx.cell (p := ⟨bl, 0, none⟩) hll).trans l0
      have m2 := (hbx.cell (p := ⟨bl, 2, none⟩) hll).trans l2
      have m3 := (hbx.cell (p := ⟨bl, 3, none⟩) hll).trans l3
      obtain ⟨Ax, cx, rfl⟩ := q3.form
      obtain ⟨As, cs2, rfl⟩ := hsv.1.form
      obtain ⟨vl, hvl⟩ : ∃ vl, vl = ps[i].2.length := ⟨_, rfl⟩
      obtain ⟨SV, hSV⟩ : ∃ SV : ByteArray, SV = ⟨ps[i].2.toArray⟩ := ⟨_, rfl⟩
      rw [← hvl] at q3 q2 a2 b2 hsv l2 m2
      have hb2l := blk_lt hgx
      have hll3 := Nat.lt_of_lt_of_le hll hbx.size
      have HS : Hid (∀ W : World, Below W3.heap.size W3 W → W.cell? ⟨w3.heap.size, 0, none⟩ = some (.int .i64 (n : Int)) ∧ W.cell? ⟨w3.heap.size, 1, none⟩ = some (.slice (some ⟨bl, 0, none⟩) 1 cl) ∧ W.cell? ⟨bl, 0, none⟩ = some (.int .i64 (i : Int)) ∧ W.cell? ⟨bl, 2, none⟩ = some (.slice As vl cs2) ∧ W.cell? ⟨bl, 3, none⟩ = some (.slice Ap pl cp) ∧ W.cell? ⟨b, o + i * 2 + 1, none⟩ = some (.slice Ax vl cx) ∧ (convert 23 9 (.slice Ax vl cx)).run Tryd.prog W = .ok (.string SV) W ∧ (convert 23 9 (.slice As vl cs2)).run Tryd.prog W = .ok (.string SV) W) := Lib.hid fun W hb => by
        refine ⟨(hb.cell (p := ⟨w3.heap.size, 0, none⟩) hb2l).trans x0, (hb.cell (p := ⟨w3.heap.size, 1, none⟩) hb2l).trans x1, (hb.cell (p := ⟨bl, 0, none⟩) hll3).trans m0, (hb.cell (p := ⟨bl, 2, none⟩) hll3).trans m2, (hb.cell (p := ⟨bl, 3, none⟩) hll3).trans m3, (hb.cell (p := ⟨b, o + i * 2 + 1, none⟩) (Nat.lt_of_lt_of_le hbl hq4.size)).trans b2, ?_, ?_⟩
        · rw [hSV]; exact run_str Tryd.underlying23 Tryd.underlying5 Tryd.isString ((q3.below (below_chain hq4 hq4.size hb)).more (Nat.le_trans hq4.size hb.size))
        · rw [hSV]; exact run_str Tryd.underlying23 Tryd.underlying5 Tryd.isString ((hsv.1.up (Nat.le_refl _) hbx).up (Nat.le_refl _) hb)
      have hbd : Below W3.heap.size W3 W3.drew := (Below.refl _ _).drew
      clear q1 q2 q3 a1 a2 b1 b2 l0 l2 l3 m0 m2 m3 x0 x1 hsv hpv hgx hvl hSV hlm hb3 hvb
      go_region_held_law (fun W => W.cell? ⟨w3.heap.size, 0, none⟩ = some (.int .i64 (n : Int)) ∧ W.cell? ⟨w3.heap.size, 1, none⟩ = some (.slice (some ⟨bl, 0, none⟩) 1 cl) ∧ W.cell? ⟨bl, 0, none⟩ = some (.int .i64 (i : Int)) ∧ W.cell? ⟨bl, 2, none⟩ = some (.slice As vl cs2) ∧ W.cell? ⟨bl, 3, none⟩ = some (.slice Ap pl cp) ∧ W.cell? ⟨b, o + i * 2 + 1, none⟩ = some (.slice Ax vl cx) ∧ (convert 23 9 (.slice Ax vl cx)).run Tryd.prog W = .ok (.string SV) W ∧ (convert 23 9 (.slice As vl cs2)).run Tryd.prog W = .ok (.string SV) W)
        (with_reducible exact HS.out _ hbd)
        (fail)
      have hqd : Below w.heap.size w W3.drew := hq4.drew
      obtain ⟨i0, hi0, hz, hsz, hby⟩ := info_parts Tryd.infoPairL
      generalize W3.drew = Wd at *
      clear HS hbd hbx hb2l hll3
      go_wp2_with fail
      go_loopw [10, 11] (fun bv kv wr => ∃ m : Nat, m ≤ n ∧ kv = .int .i64 ((m : Int) - 1) ∧ OwnP w.heap.size wr Wd.heap.size bv ((ps.drop m).reverse) ∧ Below Wd.heap.size Wd wr)
        (fun _ kv _ => (intOf kv + 1).toNat)
      case atStart => exact ⟨n, Nat.le_refl _, rfl, by rw [HN.out, List.drop_length]; exact OwnX.nil _ _, Below.refl _ _⟩
      case round =>
        obtain ⟨m, hmn, hkv, hob, hb⟩ := hrel
        rcases m with _ | q
        · have e0 : ((0 : Nat) : Int) - 1 = -1 := rfl
          rw [e0] at hkv
          subst hkv
          rw [List.drop_zero] at hob
          have hbw := below_chain hqd hqd.size hb
          have CB := rootM_any wr _ ps.reverse (OwnP.rdP hob) (fun p hp => HNL.out p (List.mem_reverse.1 hp)) fr ((hbw.block _ hn0).trans HK.out)
          have h2 := rootM_two ps.reverse
          rw [HB.out, ← HN.out] at h2
          obtain ⟨Ab, cb, rfl⟩ := hob.form
          replace CB := Lib.hid CB
          have H2 := Lib.hid h2
          clear h2 hob
          generalize ps.reverse.length = lb at *
          go_wp2_with fail
          refine (CB.out).mono ?_
          rintro e w5 ⟨v5, rfl, -, hb5⟩
          have hq5 := below_chain hbw hbw.size hb5
          by_cases h1 : n = 1
          · have h3 := H2.out
            rw [h1] at h3
            have h3' : (rootM ps.reverse).2 = 0 := h3
            rw [h3']
            clear h3 h3' H2
            subst h1
            go_wp2_with fail
            go_ret
            exact ⟨rfl, hq5⟩
          · have h3 := H2.out
            rw [decide_eq_false h1] at h3
            have h3' : (rootM ps.reverse).2 = 60 := h3
            rw [h3']
            have i9 : ¬ (n : Int) = 1 := by omega
            have i9b : ((n : Int) == 1) = false := by simpa using i9
            clear h3 h3' H2
            go_wp2_with fail
            go_ret
            exact ⟨by first | rfl | simp [i9b], hq5⟩
        · have e0 : ((q + 1 : Nat) : Int) - 1 = (q : Int) := by omega
          rw [e0] at hkv
          subst hkv
          have hql : q < ps.length := by have := HN.out; omega
          have hbw := below_chain hqd hqd.size hb
          obtain ⟨b', o', e, hbl', hcell'⟩ := HP.out (by omega)
          injection e with e
          injection e with e e2
          subst e; subst e2
          obtain ⟨r1, y, r2, r3⟩ := hcell' q hql
          have d1 := (hbw.cell (p := ⟨b, o + q * 2, none⟩) hbl).trans r1
          have d2 := (hbw.cell (p := ⟨b, o + q * 2 + 1, none⟩) hbl).trans r2
          have j1 : (0 : Int) ≤ (q : Int) := by omega
          have j2 : (q : Int) < (n : Int) := by omega
          have HSN : Hid ((ps.drop q).reverse = (ps.drop (q + 1)).reverse ++ [ps[q]]) := Lib.hid (by rw [List.drop_eq_getElem_cons hql, List.reverse_cons])
          have hyr : RdS wr w.heap.size y ps[q].2 := RdS.old (r3.below hbw) hbw.size
          have hpc : PrC w.heap.size wr [.string ps[q].1, y] ps[q] := ⟨y, rfl, hyr⟩
          obtain ⟨Ay, cy, hy⟩ := r3.form
          obtain ⟨Ab, cb, rfl⟩ := hob.form
          have hlb : ((ps.drop (q + 1)).reverse).length ≤ 65536 := by rw [List.length_reverse, List.length_drop]; have := HN.out; omega
          generalize (ps.drop (q + 1)).reverse = L at *
          generalize ps[q].2.length = yl at *
          subst hy
          generalize ps[q] = pq at *
          obtain ⟨sq, lq⟩ := pq
          dsimp only at d1 hpc
          have hbz : Below wr.heap.size wr (wr.alloc (.cells #[.string sq, .slice Ay yl cy] 25)) := (Below.refl _ _).alloc (Nat.le_refl _) _
          have hgz := heap_alloc_new wr (.cells #[.string sq, .slice Ay yl cy] 25)
          have hpz := hpc.up hbz
          have hoz := OwnP.up hob hbz
          have hWz := below_chain hb hb.size hbz
          have hWs := hWz.size
          have hBW := hqd.size
          clear hcell' r1 r2 r3 hyr hpc hob
          go_wp2_with (at_builtin; refine wpList_append_x (b := wr.heap.size) (off := 0) rfl (.tmp 117) (.tmp 122) _ rfl i0 _ 40 Tryd.underlying22 hi0 hz hsz hby rfl (by decide) rfl hoz rfl _ hpz.len (fun j hj => (by rw [Nat.zero_add]; exact pairCells_get hgz j hj)) hpz.one hpz (fun w' c a hc hg => hc.grow hg (by decide)) hBW (by unfold maxLen; omega) (by omega) hWs ?_; intro v6 w6 ho6 hg6; have hb6 := OwnX.below hoz hWz hWs hg6)
          refine ⟨⟨q, by omega, rfl, ?_⟩, by simp [intOf]; omega⟩
          rw [HSN.out]
          first | exact ⟨ho6, hb6⟩ | exact ho6
end Go.Proofs.YtpnfdfnbnoplgaaDoor
