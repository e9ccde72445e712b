
/- The document's store, walked: all, Pairs. -/
import Derived.Test.YtgiciaeaibonbaaGreatRBankA0
import Derived.Test.YtgiciaeaibonbaaGreatStoS1
namespace Go.Proofs.YtgiciaeaibonbaaGreat
set_option maxRecDepth 100000
open Go Go.RowKit
set_option linter.unusedVariables false

theorem rbegins_any (s pfx : ByteArray) (w : World) (hs : s.size ≤ maxLen) (hp : pfx.size ≤ maxLen) : Calls Tryz.prog 30 #[.string s, .string pfx] w fun e w' => e = .returned (.bool (begB pfx s)) ∧ w = w' := by
  unfold maxLen at hs hp
  by_cases h : pfx.size ≤ s.size
  · have j1 : (pfx.size : Int) ≤ (s.size : Int) := by omega
    have hcut := begB_cut h
    cases hb0 : begB pfx s with
    | true =>
      rw [hb0] at hcut
      have hcut' := hcut.symm
      clear hb0 hcut
      go_enter Tryz.func30, Tryz.ntmps30
      go_wp2
      go_ret
      exact ⟨rfl, rfl⟩
    | false =>
      rw [hb0] at hcut
      have hcut' := hcut.symm
      clear hb0 hcut
      go_enter Tryz.func30, Tryz.ntmps30
      go_wp2
      go_ret
      exact ⟨rfl, rfl⟩
  · have j1 : ¬ (pfx.size : Int) ≤ (s.size : Int) := by omega
    rw [begB_long h]
    go_enter Tryz.func30, Tryz.ntmps30
    go_wp2
    go_ret
    exact ⟨rfl, rfl⟩
set_option maxHeartbeats 1000000 in
theorem rall_any {w : World} {b : Nat} {v : Value} (hb : w.heap[b]? = some (.cells #[v, .pointer none, .slice none 0 0] 50 (0, 0))) (hv : ∃ A n c, v = .slice A n c) :
    Calls Tryz.prog 29 #[.pointer (some ⟨b, 0, none⟩)] w fun e w' => e = .returned v ∧ w = w' := by
  obtain ⟨A, n, c, rfl⟩ := hv
  have c0 : w.cell? ⟨b, 0, none⟩ = some (.slice A n c) := blk_cell hb 0
  have c1 : w.cell? ⟨b, 1, none⟩ = some (.pointer none) := blk_cell hb 1
  go_enter Tryz.func29, Tryz.ntmps29
  go_wp2_with fail
  go_ret
  exact ⟨rfl, rfl⟩
theorem filter_take_next {ps : List Pr} (b : Pr → Bool) (k : Nat) (h : k < ps.length) : (ps.take (k + 1)).filter b = (ps.take k).filter b ++ (if b ps[k] = true then [ps[k]] else []) := by
  rw [← List.take_append_getElem h, List.filter_append]
  congr 1
  by_cases e : b ps[k] = true <;> simp [e]
set_option maxHeartbeats 8000000 in
theorem rpairs_any {w : World} {b : Nat} {R : List Pr} (h : DocR w b R) (pfx : ByteArray) (hpf : pfx.size ≤ maxLen) (hks : ∀ p ∈ R, p.1.size ≤ maxLen) :
    Calls Tryz.prog 11 #[.pointer (some ⟨b, 0, none⟩), .string pfx] w fun e w' => ∃ v, e = .returned v ∧ RdP w' w'.heap.size v (R.filter (fun p => begB pfx p.1)) ∧ Below w.heap.size w w' := by
  obtain ⟨i0, hi0, hiz, hisz, hiby⟩ := info_parts Tryz.infoPairL
  obtain ⟨j0, hj0, hjz, hjs, hjb⟩ := info_parts Tryz.infoByte
  obtain ⟨⟨v, hb, hr⟩, hn, hvl⟩ := h
  have HA := Lib.hid (rall_any hb (by obtain ⟨A, c, h⟩ := RdP.form hr; exact ⟨A, _, c, h⟩))
  have HBG := Lib.hid (fun (s : ByteArray) (W : World) (hs : s.size ≤ maxLen) => rbegins_any s pfx W hs hpf)
  obtain ⟨A, c, rfl, hc, hm, hp⟩ := hr
  unfold maxLen at hm
  obtain ⟨n, hnn⟩ : ∃ n, n = R.length := ⟨_, rfl⟩
  rw [← hnn] at hc hn HA
  have HN := Lib.hid hnn
  have HP := Lib.hid hp
  have HV := Lib.hid hvl
  have HK := Lib.hid hks
  clear hp hnn hvl hks hb hpf
  go_enter Tryz.func11, Tryz.ntmps11
  go_wp2_with fail
  refine HA.out.mono ?_
  rintro e w0 ⟨rfl, rfl⟩
  clear HA
  go_wp2_with fail
  go_loopw [5, 11] (fun out i wr => ∃ k : Nat, k ≤ n ∧ i = .int .i64 (k : Int) ∧ OwnP 0 wr w.heap.size out ((R.take k).filter (fun p => begB pfx p.1)) ∧ Below w.heap.size w wr)
    (fun _ i _ => n - (intOf i).toNat)
  case atStart => exact ⟨0, Nat.zero_le _, rfl, by simpa using OwnX.nil _ _, Below.refl _ _⟩
  case round =>
    rename World => W
    obtain ⟨k, hkn, rfl, hob, hb⟩ := hrel
    by_cases hlt : k < n
    · have hkl : k < R.length := by have := HN.out; omega
      obtain ⟨g, o, rfl, hgl, hcell⟩ := HP.out (by omega)
      obtain ⟨q1, x, q2, q3⟩ := hcell k hkl
      have a1 := (hb.cell (p := ⟨g, o + k * 2, none⟩) hgl).trans q1
      have a2 := (hb.cell (p := ⟨g, o + k * 2 + 1, none⟩) hgl).trans q2
      have hvk := HV.out _ (List.getElem_mem hkl)
      have hkk := HK.out _ (List.getElem_mem hkl)
      have i1 : (0 : Int) ≤ (k : Int) := by omega
      have i2 : (k : Int) < (n : Int) := by omega
      obtain ⟨Ax, cx, rfl⟩ := q3.form
      have hlb : ((R.take k).filter (fun p => begB pfx p.1)).length ≤ n := by
        have h1 := List.length_filter_le (fun p : Pr => begB pfx p.1) (R.take k)
        rw [List.length_take] at h1
        omega
      have HSN := Lib.hid (filter_take_next (fun p => begB pfx p.1) k hkl)
      have hal : Below W.heap.size W (W.alloc (.cells #[.string R[k].1, .slice Ax R[k].2.length cx] 46)) := (Below.refl _ _).alloc (Nat.le_refl _) _
      have hcs := heap_alloc_new W (.cells #[.string R[k].1, .slice Ax R[k].2.length cx] 46)
      have hq1 := below_chain hb hb.size hal
      have hob1 := OwnP.up hob hal
      have hne := OwnX.lt hob
      have hr1 := (q3.below hq1).more hq1.size
      generalize (R.take k).filter (fun p => begB pfx p.1) = L at *
      clear hcell q1 q2 q3 hob
      generalize R[k] = pk at *
      obtain ⟨s, l⟩ := pk
      dsimp only at a1 a2 hal hcs hq1 hob1 hr1 hvk hkk HSN
      obtain ⟨Ab, cb, rfl⟩ := hob1.form
      have HNE := Lib.hid hne
      clear hne
      have HB := Lib.hid (fun W => HBG.out s W hkk)
      have d0 : (W.alloc (.cells #[.string s, .slice Ax l.length cx] 46)).cell? ⟨W.heap.size, 0, none⟩ = some (.string s) := blk_cell hcs 0
      have d1 : (W.alloc (.cells #[.string s, .slice Ax l.length cx] 46)).cell? ⟨W.heap.size, 1, none⟩ = some (.slice Ax l.length cx) := blk_cell hcs 1
      have hlz : W.heap.size < (W.alloc (.cells #[.string s, .slice Ax l.length cx] 46)).heap.size := by simp
      have HX := Lib.hid (And.intro hq1 (And.intro hob1 (And.intro hr1 (And.intro d0 (And.intro d1 hlz)))))
      clear hal hcs hq1 hob1 hr1 d1 hlz hb
      cases hbg : begB pfx s with
      | false =>
        rw [hbg] at HB HSN
        simp only [Bool.false_eq_true, if_false, List.append_nil] at HSN
        clear hbg
        go_wp2_with fail
        refine (HB.out _).mono ?_
        rintro e w1 ⟨rfl, rfl⟩
        go_wp2_with fail
        exact ⟨⟨k + 1, by omega, by go_num, by rw [HSN.out]; exact HX.out.2.1, HX.out.1⟩, by simp [intOf]; omega⟩
      | true =>
        rw [hbg] at HB HSN
        simp only [if_true] at HSN
        clear hbg
        go_wp2_with fail
        generalize hW1 : W.alloc (.cells #[.string s, .slice Ax l.length cx] 46) = W1 at *
        clear hW1 d0
        refine (HB.out _).mono ?_
        rintro e w1 ⟨rfl, rfl⟩
        obtain ⟨hq1, hob1, hr1, d0, d1, hlz⟩ := HX.out
        have hbE : Below W1.heap.size W1 (W1.alloc (.cells #[] 5)) := (Below.refl _ _).alloc (Nat.le_refl _) _
        have hED : Own (W1.alloc (.cells #[] 5)).drew W1.heap.size (.slice (some ⟨W1.heap.size, 0, none⟩) 0 0) [] := own_empty W1 (Nat.le_refl _)
        have hbD : Below W1.heap.size W1 (W1.alloc (.cells #[] 5)).drew := hbE.drew
        have HLE := Lib.hid (show W1.heap.size ≤ (W1.alloc (.cells #[] 5)).drew.heap.size by simp)
        have hrD := hr1.up (Nat.le_refl _) hbD
        have HCL : Hid (∀ Z, Below W1.heap.size W1 Z → Z.cell? ⟨W.heap.size, 0, none⟩ = some (.string s) ∧ Z.cell? ⟨W.heap.size, 1, none⟩ = some (.slice Ax l.length cx)) := Lib.hid fun Z hz => ⟨(hz.cell (p := ⟨W.heap.size, 0, none⟩) hlz).trans d0, (hz.cell (p := ⟨W.heap.size, 1, none⟩) hlz).trans d1⟩
        have hz0 : Below W1.heap.size W1 W1.drew := (Below.refl _ _).drew
        have HG := Lib.hid hlz
        clear d0 d1 HX hbE hlz
        go_wp2_with fail
        go_region_held_law (fun Z => Z.cell? ⟨W.heap.size, 0, none⟩ = some (.string s) ∧ Z.cell? ⟨W.heap.size, 1, none⟩ = some (.slice Ax l.length cx))
          (with_reducible first | exact hcl7 | exact HCL.out _ hbx6 | exact HCL.out _ hb5 | exact HCL.out _ hbD | exact HCL.out _ hz0)
          (first
            | (refine wp_append_rd (.tmp 22) (.tmp 24) _ rfl j0 Tryz.underlying44 hj0 hjz hjs hjb rfl hED rfl hrD (by simp; omega) HLE.out ?_; intro v5 w5 ho5 hg5 _; have hb5 : Below W1.heap.size W1 w5 := hbD.grown hg5 HLE.out (fun k hk => (hED.lt k hk).1); replace ho5 : Own w5 W1.heap.size v5 l := ho5; obtain ⟨A5, c5, hv5⟩ := ho5.form; subst hv5; have hbx6 := hb5.alloc hb5.size (.cells #[.string s, .slice A5 l.length c5] 46); have hbz6 : Below w5.heap.size w5 (w5.alloc (.cells #[.string s, .slice A5 l.length c5] 46)) := (Below.refl _ _).alloc (Nat.le_refl _) _; have hgz6 := heap_alloc_new w5 (.cells #[.string s, .slice A5 l.length c5] 46); have hpc5 : PrC 0 w5 [.string s, .slice A5 l.length c5] (s, l) := ⟨_, rfl, ho5.rdS⟩; have hpc6 := hpc5.up hbz6; have hob6 := OwnP.up hob1 hbx6; have hq6 := below_chain hq1 hq1.size hbx6; have hws6 : w.heap.size ≤ (w5.alloc (.cells #[.string s, .slice A5 l.length c5] 46)).heap.size := Nat.le_trans hq1.size hbx6.size)
            | (have hob6' := hob6; refine wp_append_x (B0 := 0) (b := w5.heap.size) (off := 0) (.tmp 19) (.tmp 27) _ rfl i0 _ 40 Tryz.underlying22 hi0 hiz hisz hiby rfl (by decide) rfl hob6' rfl _ hpc6.len (fun j hj => (by rw [Nat.zero_add]; exact pairCells_get hgz6 j hj)) hpc6.one hpc6 (fun w' c a hc hg => hc.grow hg (by decide)) (Nat.zero_le _) (by unfold maxLen; omega) (by omega) hws6 ?_; intro v7 w7 ho7 hg7; have hb7 := OwnX.below hob6' hq6 hws6 hg7; have hcl6 := HCL.out _ hbx6; have hbk7 := hg7.block W.heap.size (Nat.lt_of_lt_of_le HG.out hbx6.size) (fun e => by have := (HNE.out _ e.symm).2; omega); have hcl7 : w7.cell? ⟨W.heap.size, 0, none⟩ = some (.string s) ∧ w7.cell? ⟨W.heap.size, 1, none⟩ = some (.slice Ax l.length cx) := ⟨(cell_same (p := ⟨W.heap.size, 0, none⟩) hbk7).trans hcl6.1, (cell_same (p := ⟨W.heap.size, 1, none⟩) hbk7).trans hcl6.2⟩))
        all_goals
          go_wp2_with fail
          exact ⟨⟨k + 1, by omega, by go_num, by rw [HSN.out]; exact ho7, hb7⟩, by simp [intOf]; omega⟩
    · have i2 : ¬ (k : Int) < (n : Int) := by omega
      have hdr : R.take k = R := List.take_of_length_le (by have := HN.out; omega)
      rw [hdr] at hob
      obtain ⟨Ab, cb, hv⟩ := hob.form
      have HO := Lib.hid (OwnP.rdP hob)
      subst hv
      clear hdr hob
      go_wp2_with fail
      go_ret
      exact ⟨_, rfl, HO.out, hb⟩
end Go.Proofs.YtgiciaeaibonbaaGreat
