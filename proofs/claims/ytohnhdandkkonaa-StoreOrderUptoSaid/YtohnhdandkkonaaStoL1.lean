
/- The law StoreOrder, walked. -/
import Derived.Test.YtohnhdandkkonaaStoY0
import Derived.Test.YtohnhdandkkonaaSto1
namespace Go.Proofs.Ytohnhdandkkonaa
open Go Go.RowKit
set_option linter.unusedVariables false

theorem filter_take_succ {ps : List Pr} (b : Pr → Bool) (k : Nat) (h : k < ps.length) : (ps.take (k + 1)).filter b = (ps.take k).filter b ++ (if b ps[k] = true then [ps[k]] else []) := by
  rw [← List.take_append_getElem h, List.filter_append]
  congr 1
  by_cases e : b ps[k] = true <;> simp [e]
set_option maxHeartbeats 16000000 in
theorem order_law (w : World) (v : Value) (ps : List Pr) (hr : RdP w w.heap.size v ps) (hnl : ∀ p ∈ ps, p.1.size ≤ maxLen) (hn1 : ps.length ≤ 2000000) (pfx : ByteArray) (hpf : pfx.size ≤ maxLen) :
    Calls Try.prog 4 #[v, .string pfx] w fun e w' => e = .returned (.bool true) ∧ Below w.heap.size w w' := by
  obtain ⟨i0, hi0, hiz, hisz, hiby⟩ := info_parts Try.infoPairL
  have HNEW := Lib.hid (new_any w v ps hr hnl)
  have HRP := Lib.hid hr
  obtain ⟨A, c, rfl, hc, hm, hp⟩ := hr
  unfold maxLen at hm
  obtain ⟨n, hn⟩ : ∃ n, n = ps.length := ⟨_, rfl⟩
  rw [← hn] at hc hn1 HNEW HRP ⊢
  have HN := Lib.hid hn
  have HP := Lib.hid hp
  have HNL := Lib.hid hnl
  clear hn hp hnl
  go_enter Try.func4, Try.ntmps4
  go_wp2_with fail
  refine HNEW.out.mono ?_
  clear HNEW
  rintro e w1 ⟨⟨-, rfl⟩ | ⟨-, y, rfl, hyb, hym, hyn, hly, hri, hp1⟩, hb1⟩
  · go_wp2_with fail
    refine (sfixed_any w1).mono ?_
    rintro e w2 ⟨rfl, hb2⟩
    go_wp2_with fail
    refine (sfixed_any w2).mono ?_
    rintro e w3 ⟨rfl, hb3⟩
    have hq := below_chain (below_chain hb1 hb1.size hb2) (by have := hb1.size; have := hb2.size; omega) hb3
    go_wp2_with fail
    go_ret
    exact ⟨rfl, hq⟩
  · obtain ⟨yb, ym, yn, yf⟩ := y
    dsimp only at hyb hym hyn ⊢
    have HP1 := Lib.hid hp1
    have HLY := Lib.hid (And.intro hyn (And.intro hly hri))
    clear hyn hly hri hp1
    go_wp2_with fail
    refine (sfixed_any w1).mono ?_
    rintro e w2 ⟨rfl, hb2⟩
    have hq2 := below_chain hb1 hb1.size hb2
    go_wp2_with fail
    go_loopw [7, 34] (fun bv iv W => ∃ k : Nat, k ≤ n ∧ iv = .int .i64 (k : Int) ∧ OwnP w.heap.size W w2.heap.size bv ((ps.take k).filter (fun p => begB pfx p.1)) ∧ Below w2.heap.size w2 W)
      (fun _ iv _ => n - (intOf iv).toNat)
    case atStart => exact ⟨0, Nat.zero_le _, rfl, by rw [List.take_zero]; exact OwnX.nil _ _, Below.refl _ _⟩
    case round =>
      rename World => W
      obtain ⟨k, hkn, rfl, hob, hb⟩ := hrel
      by_cases hlt : k < n
      · have hkl : k < ps.length := by have := HN.out; omega
        obtain ⟨b, o, rfl, hbl, hcell⟩ := HP.out (by omega)
        obtain ⟨q1, x, q2, q3⟩ := hcell k hkl
        have hqW := below_chain hq2 hq2.size hb
        have a1 := (hqW.cell (p := ⟨b, o + k * 2, none⟩) hbl).trans q1
        have a2 := (hqW.cell (p := ⟨b, o + k * 2 + 1, none⟩) hbl).trans q2
        have hxr := (q3.below hqW).more hqW.size
        have i1 : (0 : Int) ≤ (k : Int) := by omega
        have i2 : (k : Int) < (n : Int) := by omega
        have HSN := Lib.hid (filter_take_succ (fun p => begB pfx p.1) k hkl)
        have hlb : ((ps.take k).filter (fun p => begB pfx p.1)).length ≤ 2000000 := by
          have h1 := List.length_filter_le (fun p : Pr => begB pfx p.1) (ps.take k)
          rw [List.length_take] at h1
          omega
        have hks := HNL.out _ (List.getElem_mem hkl)
        obtain ⟨Ax, cx, rfl⟩ := q3.form
        obtain ⟨Ab, cb, rfl⟩ := hob.form
        have HQ3 := Lib.hid q3
        clear q3
        generalize (ps.take k).filter (fun p => begB pfx p.1) = L at *
        generalize ps[k] = pk at *
        obtain ⟨s, l⟩ := pk
        dsimp only at a1 a2 hxr hks HSN
        have hbz : Below W.heap.size W (W.alloc (.cells #[.string s, .slice Ax l.length cx] 36)) := (Below.refl _ _).alloc (Nat.le_refl _) _
        have hgz := heap_alloc_new W (.cells #[.string s, .slice Ax l.length cx] 36)
        have hrz := hxr.up (Nat.le_refl _) hbz
        have hobz := OwnP.up hob hbz
        have hbb := below_chain hb hb.size hbz
        clear hcell q1 q2
        dsimp only at HQ3
        by_cases hs : pfx.size ≤ s.size
        · have j1 : (pfx.size : Int) ≤ (s.size : Int) := by omega
          have hcut := begB_cut hs
          cases hb0 : begB pfx s with
          | true =>
            rw [hb0] at hcut
            have hcut' := hcut.symm
            rw [hb0, if_pos rfl] at HSN
            have z0 : (W.alloc (.cells #[.string s, .slice Ax l.length cx] 36)).cell? ⟨W.heap.size, 0, none⟩ = some (.string s) := blk_cell hgz 0
            have z1 : (W.alloc (.cells #[.string s, .slice Ax l.length cx] 36)).cell? ⟨W.heap.size, 1, none⟩ = some (.slice Ax l.length cx) := blk_cell hgz 1
            have hsz1 : (W.alloc (.cells #[.string s, .slice Ax l.length cx] 36)).heap.size = W.heap.size + 1 := by simp
            have hb2z : Below (W.alloc (.cells #[.string s, .slice Ax l.length cx] 36)).heap.size (W.alloc (.cells #[.string s, .slice Ax l.length cx] 36)) ((W.alloc (.cells #[.string s, .slice Ax l.length cx] 36)).alloc (.cells #[.string s, .slice Ax l.length cx] 36)) := (Below.refl _ _).alloc (Nat.le_refl _) _
            have hg2 := heap_alloc_new (W.alloc (.cells #[.string s, .slice Ax l.length cx] 36)) (.cells #[.string s, .slice Ax l.length cx] 36)
            rw [hsz1] at hg2
            have hob2 := OwnP.up hobz hb2z
            have hbb2 := below_chain hbb hbb.size hb2z
            have hqW2 := below_chain hq2 hq2.size hbb2
            have hpc : PrC w.heap.size ((W.alloc (.cells #[.string s, .slice Ax l.length cx] 36)).alloc (.cells #[.string s, .slice Ax l.length cx] 36)) [.string s, .slice Ax l.length cx] (s, l) := ⟨_, rfl, RdS.old (HQ3.out.below hqW2) hqW2.size⟩
            have hwB : w.heap.size ≤ w2.heap.size := hq2.size
            have hwsz : w2.heap.size ≤ ((W.alloc (.cells #[.string s, .slice Ax l.length cx] 36)).alloc (.cells #[.string s, .slice Ax l.length cx] 36)).heap.size := hbb2.size
            clear hb0 hcut hb2z
            go_wp2_with (at_builtin; refine wpList_append_x (B0 := w.heap.size) (b := W.heap.size + 1) (off := 0) rfl (.tmp 53) (.tmp 55) _ rfl i0 _ 40 Try.underlying22 hi0 hiz hisz hiby rfl (by decide) rfl hob2 rfl _ hpc.len (fun j hj => (by rw [Nat.zero_add]; exact pairCells_get hg2 j hj)) hpc.one hpc (fun w' c a hc hg => hc.grow hg (by decide)) hwB (by unfold maxLen; omega) (by omega) hwsz ?_; intro v7 w7 ho7 hg7)
            have hb7 := OwnX.below hob2 hbb2 hwsz hg7
            exact ⟨⟨k + 1, by omega, by go_num, by rw [HSN.out]; exact ho7, hb7⟩, by simp [intOf]; omega⟩
          | false =>
            rw [hb0] at hcut
            have hcut' := hcut.symm
            rw [hb0, if_neg (by simp), List.append_nil] at HSN
            clear hb0 hcut
            go_wp2_with fail
            exact ⟨⟨k + 1, by omega, by go_num, by rw [HSN.out]; exact hobz, hbb⟩, by simp [intOf]; omega⟩
        · have j1 : ¬ (pfx.size : Int) ≤ (s.size : Int) := by omega
          have hb0 := begB_long hs
          rw [hb0, if_neg (by simp), List.append_nil] at HSN
          clear hb0
          go_wp2_with fail
          exact ⟨⟨k + 1, by omega, by go_num, by rw [HSN.out]; exact hobz, hbb⟩, by simp [intOf]; omega⟩
      · have i2 : ¬ (k : Int) < (n : Int) := by omega
        have hfull : ps.take k = ps := List.take_of_length_le (by have := HN.out; omega)
        rw [hfull] at hob
        obtain ⟨hyn, hly, hri⟩ := HLY.out
        have hpW := (HP1.out.up hb2).up hb
        have hs0 : (⟨#[]⟩ : ByteArray).size ≤ maxLen := by decide +kernel
        have hsum : sumN [⟨yb, ym, yn, yf⟩] ≤ 1000000000 := by simp [sumN]; omega
        have HPA : Hid (Calls Try.prog 9 #[.pointer (some ⟨yb, 0, none⟩), .string ⟨#[]⟩] W fun e w' => ∃ v, e = .returned v ∧ OutP w' W.heap.size v ps ∧ Below W.heap.size W w') :=
          Lib.hid (pairs_any hpW hsum ⟨#[]⟩ hs0 (seen_bot0 hly hri HNL.out))
        have HPB : Hid (∀ Z, Below W.heap.size W Z → Calls Try.prog 9 #[.pointer (some ⟨yb, 0, none⟩), .string pfx] Z fun e w' => ∃ v, e = .returned v ∧ OutP w' Z.heap.size v (ps.filter (fun p => begB pfx p.1)) ∧ Below Z.heap.size Z w') :=
          Lib.hid fun Z hZ => pairs_any (hpW.up hZ) hsum pfx hpf (seen_bot hly hri HNL.out pfx)
        have HOB := Lib.hid hob
        have HRI := Lib.hid hri
        have hqW := below_chain hq2 hq2.size hb
        obtain ⟨Ab, cb, rfl⟩ := hob.form
        obtain ⟨nb, hnb⟩ : ∃ nb, nb = (ps.filter (fun p => begB pfx p.1)).length := ⟨_, rfl⟩
        rw [← hnb] at HOB ⊢
        clear hfull hob hyn hly hri hpW hs0 hsum hnb hb hb2 hq2 HP1 HLY
        go_wp2_with fail
        refine HPA.out.mono ?_
        rintro e w3 ⟨v3, rfl, ho3, hb3⟩
        obtain ⟨A3, c3, hv3⟩ : ∃ A c, v3 = .slice A n c := by rw [HN.out]; exact ho3.form
        subst hv3
        have HO3 := Lib.hid ho3
        clear ho3 HPA
        go_wp2_with fail
        go_loopw [62] (fun iv Z => ∃ q : Nat, q ≤ n ∧ iv = .int .i64 (q : Int) ∧ Below w3.heap.size w3 Z)
          (fun iv _ => n - (intOf iv).toNat)
        case atStart => exact ⟨0, Nat.zero_le _, rfl, Below.refl _ _⟩
        case round =>
          rename World => Z
          obtain ⟨q, hqn, rfl, hbZ⟩ := hrel
          by_cases hltq : q < n
          · have hql : q < ps.length := by have := HN.out; omega
            obtain ⟨B1, -, -, hox⟩ := HO3.out
            obtain ⟨g, cs, hA3, -, -, -, -, hgl, -, hcell, x, hcs, -⟩ := hox.at_ q hql
            subst hA3
            have i3 : (0 : Int) ≤ (q : Int) := by omega
            have i4 : (q : Int) < (n : Int) := by omega
            have k0 := hcell 0 (by omega)
            rw [hcs] at k0
            have a1 : Z.cell? ⟨g, q * 2, none⟩ = some (.string ps[q].1) := (hbZ.cell (p := ⟨g, q * 2, none⟩) hgl).trans k0
            by_cases h0 : q = 0
            · have j1 : ¬ (0 : Int) < (q : Int) := by omega
              have j2 : decide (0 < q) = false := by simp [h0]
              clear h0 hcell k0 hcs hox
              go_wp2_with fail
              go_quiet (fail)
              go_wp2_with fail
              exact ⟨⟨q + 1, by omega, by go_num, below_drewN' hbZ _⟩, by simp [intOf]; omega⟩
            · obtain ⟨m, hm'⟩ : ∃ m, m + 1 = q := ⟨q - 1, by omega⟩
              have hml : m < ps.length := by omega
              obtain ⟨g', cs', hA', -, -, -, -, -, -, hcell', x', hcs', -⟩ := hox.at_ m hml
              injection hA' with hA'
              injection hA' with hA'
              subst hA'
              have k1 := hcell' 0 (by omega)
              rw [hcs'] at k1
              have a2 : Z.cell? ⟨g, m * 2, none⟩ = some (.string ps[m].1) := (hbZ.cell (p := ⟨g, m * 2, none⟩) hgl).trans k1
              have hlt0 : ltS ps[m].1 ps[q].1 = true := List.pairwise_iff_getElem.1 HRI.out m q hml hql (by omega)
              have j1 : (0 : Int) < (q : Int) := by omega
              have j2 : IntKind.i64.wrap ((q : Int) - 1) = (m : Int) := by rw [IntKind.wrap_i64]; omega
              have j3 : (m : Int) < (n : Int) := by omega
              have j4 : (0 : Int) ≤ (m : Int) := by omega
              have j5 : decide (0 < q) = true := by simp; omega
              clear hcell k0 hcs hox hcell' k1 hcs' hm' h0
              generalize ps[m].1 = s0 at *
              generalize ps[q].1 = s1 at *
              have hl : Op.bytesLess s0.toList s1.toList = true := hlt0
              clear hlt0
              go_wp2_with fail
              go_quiet (fail)
              go_wp2_with fail
              exact ⟨⟨q + 1, by omega, by go_num, below_drewN' hbZ _⟩, by simp [intOf]; omega⟩
          · have i4 : ¬ (q : Int) < (n : Int) := by omega
            have hbWZ := below_chain hb3 hb3.size hbZ
            have HPC := Lib.hid (HPB.out Z hbWZ)
            go_wp2_with fail
            refine HPC.out.mono ?_
            rintro e w5 ⟨v5, rfl, ho5, hb5⟩
            have hbW5 := below_chain hbWZ hbWZ.size hb5
            have HSA := Lib.hid (samePs_any w5 v5 (.slice Ab nb cb) _ _ ho5.rdP (OwnP.rdP (OwnP.up HOB.out hbW5)))
            obtain ⟨A5, c5, rfl⟩ := ho5.form
            clear ho5
            go_wp2_with fail
            refine HSA.out.mono ?_
            rintro e w6 ⟨rfl, hb6⟩
            have hq6 := below_chain (below_chain hqW hqW.size hbW5) (Nat.le_trans hqW.size hbW5.size) hb6
            simp only [decide_true]
            go_wp2_with fail
            go_ret
            exact ⟨rfl, hq6⟩
end Go.Proofs.Ytohnhdandkkonaa
