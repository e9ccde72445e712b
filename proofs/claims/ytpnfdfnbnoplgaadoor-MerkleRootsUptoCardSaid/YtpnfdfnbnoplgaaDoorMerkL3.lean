
/- The law MerkleRoots, walked. -/
import Derived.Test.YtpnfdfnbnoplgaaDoorMerkL2
import Derived.Test.YtpnfdfnbnoplgaaDoorRMerkF
namespace Go.Proofs.YtpnfdfnbnoplgaaDoor
open Go Go.RowKit
set_option linter.unusedVariables false
variable {w w' : World} {B B0 : Nat}

set_option maxHeartbeats 4000000 in
theorem roots_law (w : World) (v : Value) (ps : List Pr) (hr : RdP w w.heap.size v ps) (hnl : ∀ p ∈ ps, p.1.size ≤ maxLen) (hn1 : ps.length ≤ 2000000) (hvl : ∀ p ∈ ps, p.2.length ≤ 2000000) (fr : TypeId × Nat × Nat) (hk : w.heap[0]? = some (.cells kVals fr.1 fr.2)) (fr2 : TypeId × Nat × Nat) (hk2 : w.heap[1]? = some (.cells kVals fr2.1 fr2.2)) :
    Calls Tryd.prog 3 #[v] w fun e w' => e = .returned (.bool true) ∧ Below w.heap.size w w' := by
  have hn0 := blk_lt hk
  have hn2 := blk_lt hk2
  have HK := Lib.hid hk
  have HK2 := Lib.hid hk2
  clear hk hk2
  obtain ⟨i0, hi0, hz, hsz, hby⟩ := info_parts Tryd.infoPairL
  obtain ⟨j0, hj0, hjz, hjs, hjb⟩ := info_parts Tryd.infoByte
  have CR := Lib.hid (fun (W : World) (hb : Below w.heap.size w W) => rootM_any W v ps ((hr.below hb).more hb.size) hnl fr ((hb.block _ hn0).trans HK.out))
  obtain ⟨A, c, rfl, hc, hm, hp⟩ := hr
  unfold maxLen at hm
  obtain ⟨n, hn⟩ : ∃ n, n = ps.length := ⟨_, rfl⟩
  rw [← hn] at hc CR hn1 ⊢
  have HN := Lib.hid hn
  have HP := Lib.hid hp
  have HNL := Lib.hid hnl
  have HVL := Lib.hid hvl
  clear hn hp hnl hvl
  go_enter Tryd.func3, Tryd.ntmps3
  go_wp2_with fail
  go_loopw [3, 5, 13] (fun bv _ kv wr => ∃ k : Nat, k ≤ n ∧ kv = .int .i64 (k : Int) ∧ OwnP 0 wr w.heap.size bv (ps.take k) ∧ Below w.heap.size w wr)
    (fun _ _ kv _ => n - (intOf kv).toNat)
  case atStart => exact ⟨0, Nat.zero_le _, rfl, by rw [List.take_zero]; exact OwnX.nil _ _, Below.refl _ _⟩
  case round =>
    obtain ⟨k, hkn, rfl, hob, hb⟩ := hrel
    by_cases hlt : k < n
    · have hkl : k < ps.length := by have := HN.out; omega
      obtain ⟨b, o, rfl, hbl, hcell⟩ := HP.out (by omega)
      obtain ⟨q1, x, q2, q3⟩ := hcell k hkl
      have a1 := (hb.cell (p := ⟨b, o + k * 2, none⟩) hbl).trans q1
      have a2 := (hb.cell (p := ⟨b, o + k * 2 + 1, none⟩) hbl).trans q2
      have i1 : (0 : Int) ≤ (k : Int) := by omega
      have i2 : (k : Int) < (n : Int) := by omega
      have HSN : Hid (ps.take (k + 1) = ps.take k ++ [ps[k]]) := Lib.hid (by rw [List.take_append_getElem hkl])
      have hvk := HVL.out _ (List.getElem_mem hkl)
      have hxr := (q3.below hb).more hb.size
      obtain ⟨Ax, cx, rfl⟩ := q3.form
      obtain ⟨Ab, cb, rfl⟩ := hob.form
      have hlb : (ps.take k).length ≤ 2000000 := by rw [List.length_take]; omega
      generalize ps.take k = L at *
      generalize ps[k] = pk at *
      obtain ⟨s, l⟩ := pk
      dsimp only at a1 a2 hxr hvk
      have hbz : Below wr.heap.size wr (wr.alloc (.cells #[.string s, .slice Ax l.length cx] 25)) := (Below.refl _ _).alloc (Nat.le_refl _) _
      have hgz := heap_alloc_new wr (.cells #[.string s, .slice Ax l.length cx] 25)
      clear hcell q1 q2 q3
      have hrz := hxr.up (Nat.le_refl _) hbz
      go_wp2_with fail
      clear a1 a2
      generalize wr.alloc (.cells #[.string s, .slice Ax l.length cx] 25) = W0 at *
      have hq0 := below_chain hb hb.size hbz
      have z0 : W0.cell? ⟨wr.heap.size, 0, none⟩ = some (.string s) := blk_cell hgz 0
      have z1 : W0.cell? ⟨wr.heap.size, 1, none⟩ = some (.slice Ax l.length cx) := blk_cell hgz 1
      have hbE : Below W0.heap.size W0 (W0.alloc (.cells #[] 5)) := (Below.refl _ _).alloc (Nat.le_refl _) _
      have hED : Own (W0.alloc (.cells #[] 5)).drew W0.heap.size (.slice (some ⟨W0.heap.size, 0, none⟩) 0 0) [] := own_empty W0 (Nat.le_refl _)
      have hbD : Below W0.heap.size W0 (W0.alloc (.cells #[] 5)).drew := hbE.drew
      have HLE := Lib.hid (show W0.heap.size ≤ (W0.alloc (.cells #[] 5)).drew.heap.size by simp)
      have hrD := hrz.up (Nat.le_refl _) hbD
      have hob0 := OwnP.up hob hbz
      have hl0 := blk_lt hgz
      have hbd0 : Below W0.heap.size W0 W0.drew := (Below.refl _ _).drew
      have hbr0 : Below W0.heap.size W0 W0 := Below.refl _ _
      have HS : Hid (∀ W : World, Below W0.heap.size W0 W → W.cell? ⟨wr.heap.size, 0, none⟩ = some (.string s) ∧ W.cell? ⟨wr.heap.size, 1, none⟩ = some (.slice Ax l.length cx)) := Lib.hid fun W hb => ⟨(hb.cell (p := ⟨wr.heap.size, 0, none⟩) hl0).trans z0, (hb.cell (p := ⟨wr.heap.size, 1, none⟩) hl0).trans z1⟩
      have hWr := hb.size
      have HLT := Lib.hid (fun k (e : (Value.slice Ab L.length cb).ownBlock = some k) => (hob.lt k e).2)
      clear hbz hgz hob z0 z1 hrz
      go_region_held_law (fun W => W.cell? ⟨wr.heap.size, 0, none⟩ = some (.string s) ∧ W.cell? ⟨wr.heap.size, 1, none⟩ = some (.slice Ax l.length cx))
        (with_reducible first | exact HS.out _ hbd0 | exact HS.out _ hbr0 | exact HS.out _ hbE | exact HS.out _ hbD | exact HS.out _ hb5 | exact HS.out _ hx6 | exact ⟨e7, f7⟩)
        (first
          | (rw [if_pos (by rfl)]; refine wp_append_x (B0 := 0) (b := w5.heap.size) (off := 0) (.tmp 17) (.tmp 25) _ rfl i0 _ 40 Tryd.underlying22 hi0 hz hsz hby rfl (by decide) rfl hob6 rfl _ hpc6.len (fun j hj => (by rw [Nat.zero_add]; exact pairCells_get hgz6 j hj)) hpc6.one hpc6 (fun w' c a hc hg => hc.grow hg (by decide)) (Nat.zero_le _) (by unfold maxLen; omega) (by omega) hws6 ?_; intro v7 w7 ho7 hg7; have hbo := OwnX.below hob6 hq6 hws6 hg7; (go_loud ((have h07 := hg7.block wr.heap.size (Nat.lt_of_lt_of_le hl0 hx6.size) (fun e => Nat.lt_irrefl _ (HLT.out _ e.symm)); have e7 := (World.cell?_of_block (a := ⟨wr.heap.size, 0, none⟩) h07).trans (HS.out _ hx6).1; have f7 := (World.cell?_of_block (a := ⟨wr.heap.size, 1, none⟩) h07).trans (HS.out _ hx6).2))))
          | (rw [if_pos (by rfl)]; refine wp_append_rd (.tmp 20) (.tmp 22) _ rfl j0 Tryd.underlying23 hj0 hjz hjs hjb rfl hED rfl hrD (by simp; omega) HLE.out ?_; intro v5 w5 ho5 hg5 _; have hb5 : Below W0.heap.size W0 w5 := hbD.grown hg5 HLE.out (fun k hk => (hED.lt k hk).1); replace ho5 : Own w5 W0.heap.size v5 l := ho5; obtain ⟨A5, c5, rfl⟩ := ho5.form; have hx6 := hb5.alloc hb5.size (.cells #[.string s, .slice A5 l.length c5] 25); have hbx6 : Below w5.heap.size w5 (w5.alloc (.cells #[.string s, .slice A5 l.length c5] 25)) := (Below.refl _ _).alloc (Nat.le_refl _) _; have hgz6 := heap_alloc_new w5 (.cells #[.string s, .slice A5 l.length c5] 25); have hpc5 : PrC 0 w5 [.string s, .slice A5 l.length c5] (s, l) := ⟨_, rfl, ho5.rdS⟩; have hpc6 := hpc5.up hbx6; have hob6 := OwnP.up hob0 hx6; have hq6 := below_chain hq0 hq0.size hx6; have hws6 := hq6.size))
      all_goals (
        simp only [Act.put, List.setIfInBounds_toArray, List.set_cons_zero, List.set_cons_succ, List.getElem_toArray, List.getElem_cons_zero, List.getElem_cons_succ]
        go_wp2_with fail
        refine ⟨⟨k + 1, by omega, by go_num, ?_⟩, by simp [intOf]; omega⟩
        rw [HSN.out]
        first | exact ⟨ho7, hbo⟩ | exact ho7)
    · have i2 : ¬ (k : Int) < (n : Int) := by omega
      have hfull : ps.take k = ps := List.take_of_length_le (by have := HN.out; omega)
      rw [hfull] at hob
      have CRE := Lib.hid (fun (W : World) (hbW : Below wr.heap.size wr W) => rroot_any W _ ps (OwnP.rdP (OwnP.up hob hbW)) HNL.out fr2 (((below_chain hb hb.size hbW).block _ hn2).trans HK2.out))
      have HOB := Lib.hid hob
      obtain ⟨Ab, cb, rfl⟩ := hob.form
      rw [← HN.out] at CRE HOB
      rw [← HN.out]
      clear hfull hob
      go_wp2_with fail
      refine (CR.out wr hb).mono ?_
      rintro e w4 ⟨v4, rfl, ho4, hb4⟩
      have hq4 := below_chain hb hb.size hb4
      go_wp2_with fail
      refine (CRE.out w4 hb4).mono ?_
      rintro e w5 ⟨v5, rfl, ho5, hb5⟩
      have hq5 := below_chain hq4 hq4.size hb5
      generalize (rootM ps).1 = R at *
      generalize (rootM ps).2 = E at *
      obtain ⟨A4, c4, rfl⟩ := ho4.form
      obtain ⟨A5, c5, rfl⟩ := ho5.form
      go_wp2_with fail
      refine (fixed_any w5 fr ((hq5.block _ hn0).trans HK.out)).mono ?_
      rintro e w6 ⟨rfl, hb6⟩
      have hq6 := below_chain hq5 hq5.size hb6
      have cv1 := run_str (P := Tryd.prog) (src := 23) (dst := 9) Tryd.underlying23 Tryd.underlying5 Tryd.isString (ho4.rd.up (Nat.le_refl _) (below_chain hb5 hb5.size hb6))
      have cv2 := run_str (P := Tryd.prog) (src := 23) (dst := 9) Tryd.underlying23 Tryd.underlying5 Tryd.isString (ho5.rd.up (Nat.le_refl _) hb6)
      generalize R.length = rl at *
      generalize (⟨R.toArray⟩ : ByteArray) = SR at *
      have hb46 := below_chain hb4 hb4.size (below_chain hb5 hb5.size hb6)
      clear ho4 ho5 hb5 hb4 hq4 hq5 hb6
      go_wp2_with fail
      clear cv1 cv2
      go_loopw [10, 54] (fun _ kv W => ∃ q : Nat, q ≤ n ∧ kv = .int .i64 (q : Int) ∧ Below w6.heap.size w6 W)
        (fun _ kv _ => n - (intOf kv).toNat)
      case atStart => exact ⟨0, Nat.zero_le _, rfl, Below.refl _ _⟩
      case round =>
        rename World => W7
        obtain ⟨q, hqn, rfl, hb7⟩ := hrel
        by_cases hltq : q < n
        · have hql : q < ps.length := by have := HN.out; omega
          obtain ⟨b, o, rfl, hbl, hcell⟩ := HP.out (by omega)
          obtain ⟨q1, x, q2, q3⟩ := hcell q hql
          obtain ⟨bw, cs, rfl, -, -, -, -, hwl, -, hwc, y, hcs, hyr⟩ := HOB.out.at_ q hql
          subst hcs
          have r1 := hwc 0 (by omega)
          have r2 := hwc 1 (by omega)
          have hb67 := below_chain hb46 hb46.size hb7
          have hw7 := below_chain hq6 hq6.size hb7
          have a1 := (hw7.cell (p := ⟨b, o + q * 2, none⟩) hbl).trans q1
          have a2 := (hw7.cell (p := ⟨b, o + q * 2 + 1, none⟩) hbl).trans q2
          have a3 := (hb67.cell (p := ⟨bw, q * 2 + 0, none⟩) hwl).trans r1
          have a4 := (hb67.cell (p := ⟨bw, q * 2 + 1, none⟩) hwl).trans r2
          have hxr := (q3.below hw7).more hw7.size
          have hyr7 := hyr.1.up (Nat.le_refl _) hb67
          simp only [Nat.add_zero, List.getElem?_cons_zero, List.getElem?_cons_succ] at a3 a4
          obtain ⟨Ax, cx, rfl⟩ := q3.form
          obtain ⟨Ay, cy, rfl⟩ := hyr.1.form
          have i1 : (0 : Int) ≤ (q : Int) := by omega
          have i2 : (q : Int) < (n : Int) := by omega
          generalize ps[q] = pq at *
          obtain ⟨s, l⟩ := pq
          dsimp only at a1 a2 a3 a4 hxr hyr7
          obtain ⟨SV, hSV⟩ : ∃ SV : ByteArray, SV = ⟨l.toArray⟩ := ⟨_, rfl⟩
          have hbd : Below W7.heap.size W7 W7.drew := (Below.refl _ _).drew
          have hbl7 := Nat.lt_of_lt_of_le hbl hw7.size
          have hwl7 := Nat.lt_of_lt_of_le hwl hb67.size
          have HS : Hid (∀ W : World, Below W7.heap.size W7 W → W.cell? ⟨b, o + q * 2, none⟩ = some (.string s) ∧ W.cell? ⟨b, o + q * 2 + 1, none⟩ = some (.slice Ax l.length cx) ∧ W.cell? ⟨bw, q * 2, none⟩ = some (.string s) ∧ W.cell? ⟨bw, q * 2 + 1, none⟩ = some (.slice Ay l.length cy) ∧ (convert 23 9 (.slice Ax l.length cx)).run Tryd.prog W = .ok (.string SV) W ∧ (convert 23 9 (.slice Ay l.length cy)).run Tryd.prog W = .ok (.string SV) W) := Lib.hid fun W hb => by
            refine ⟨(hb.cell (p := ⟨b, o + q * 2, none⟩) hbl7).trans a1, (hb.cell (p := ⟨b, o + q * 2 + 1, none⟩) hbl7).trans a2, (hb.cell (p := ⟨bw, q * 2, none⟩) hwl7).trans a3, (hb.cell (p := ⟨bw, q * 2 + 1, none⟩) hwl7).trans a4, ?_, ?_⟩
            · rw [hSV]; exact run_str Tryd.underlying23 Tryd.underlying5 Tryd.isString (hxr.up (Nat.le_refl _) hb)
            · rw [hSV]; exact run_str Tryd.underlying23 Tryd.underlying5 Tryd.isString (hyr7.up (Nat.le_refl _) hb)
          clear hcell q1 q2 q3 r1 r2 a1 a2 a3 a4 hxr hyr7 hSV hyr hwc
          go_wp2_with fail
          go_region_held_law (fun W => W.cell? ⟨b, o + q * 2, none⟩ = some (.string s) ∧ W.cell? ⟨b, o + q * 2 + 1, none⟩ = some (.slice Ax l.length cx) ∧ W.cell? ⟨bw, q * 2, none⟩ = some (.string s) ∧ W.cell? ⟨bw, q * 2 + 1, none⟩ = some (.slice Ay l.length cy) ∧ (convert 23 9 (.slice Ax l.length cx)).run Tryd.prog W = .ok (.string SV) W ∧ (convert 23 9 (.slice Ay l.length cy)).run Tryd.prog W = .ok (.string SV) W)
            (with_reducible exact HS.out _ hbd)
            (fail)
          have hbo := below_chain hb7 hb7.size hbd
          go_wp2_with fail
          refine ⟨⟨q + 1, by omega, by go_num, ?_⟩, by simp [intOf]; omega⟩
          exact hbo
        · have i2 : ¬ (q : Int) < (n : Int) := by omega
          have hbo := below_chain hq6 hq6.size hb7
          go_wp2_with fail
          go_ret
          exact ⟨rfl, hbo⟩
end Go.Proofs.YtpnfdfnbnoplgaaDoor
