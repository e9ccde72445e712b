
/- The law NodeKeeps, walked. -/
import Derived.Test.YtbbpkenbeenocaaNodeV
import Derived.Deep.QuietTactic
import Derived.BigQuiet
namespace Go.Proofs.Ytbbpkenbeenocaa
open Go Go.RowKit
set_option linter.unusedVariables false

/-- the bounds at the head of the loop -/
structure SizeK (ops : List OpN) (k : Nat) (m : DM) (sure : List (List UInt8)) (may : List UInt8) : Prop where
  good : GoodL m.files
  tot : totM m.files + bytesN (ops.drop k) ≤ 20000000
  num : sure.length ≤ k
  len : ∀ r ∈ sure ++ [may], r.length ≤ 1048576
section
variable {ops : List OpN} {k : Nat} {m : DM} {sure : List (List UInt8)} {may : List UInt8}
theorem SizeK.big (h : SizeK ops k m sure may) : (∀ f ∈ m.files, f.data.length ≤ 1000000000) ∧ totM m.files ≤ 1000000000 ∧ m.files.length ≤ 1000 ∧ totM m.files ≤ 100000000 :=
  ⟨fun f hf => by have := totM_mem hf; have := h.tot; omega, by have := h.tot; omega, by have := h.good.len; omega, by have := h.tot; omega⟩
theorem SizeK.small (h : SizeK ops k m sure may) : ∀ r ∈ sure ++ [may], r.length < 18446744073709551616 := fun r hr => by have := h.len r hr; omega
theorem SizeK.smallS (h : SizeK ops k m sure may) : ∀ r ∈ sure, r.length < 18446744073709551616 := fun r hr => h.small r (by simp [hr])
theorem SizeK.step (h : SizeK ops k m sure may) (hk : k < ops.length) : SizeK ops (k + 1) m sure may :=
  ⟨h.good, by have h1 := h.tot; rw [bytesN_drop ops k hk] at h1; omega, by have := h.num; omega, h.len⟩
theorem SizeK.arm (h : SizeK ops k m sure may) (n : Int) : SizeK ops k (armM m n) sure may :=
  ⟨(arm_files m n h.good).1, Nat.le_trans (Nat.add_le_add_right (arm_files m n h.good).2 _) h.tot, h.num, h.len⟩
theorem SizeK.crash (h : SizeK ops k m sure may) (ks : List Bool) : SizeK ops k ⟨asNew (crashM m.files ks), false, 0⟩ sure may := by
  obtain ⟨g1, g2, g3, g4, g5⟩ := h.good.new ks
  exact ⟨g2, by show totM (asNew (crashM m.files ks)) + _ ≤ _; rw [new_tot]; have := h.tot; omega, h.num, h.len⟩
theorem SizeK.open_ (h : SizeK ops k m sure may) {e : Int} {m' : DM} {rs : List (List UInt8)} (ho : openN m = (e, m', rs)) : SizeK ops k m' sure may := by
  obtain ⟨q1, q2⟩ := open_files m h.good
  rw [ho] at q1 q2
  exact ⟨q1, Nat.le_trans (Nat.add_le_add_right q2 _) h.tot, h.num, h.len⟩
theorem SizeK.put (h : SizeK ops k m sure may) (hk : k < ops.length) {r : List UInt8} (hr : r.length = ops[k].b.length) {e : Int} {m' : DM} (hp : putE r m = (e, m')) : GoodL m'.files ∧ totM m'.files + bytesN (ops.drop (k + 1)) ≤ 20000000 := by
  obtain ⟨q1, q2⟩ := put_files r m h.good
  rw [hp] at q1 q2
  dsimp only at q1 q2
  exact ⟨q1, by have h1 := h.tot; rw [bytesN_drop ops k hk] at h1; omega⟩
end
theorem lside_none {w : World} {S : Nat → Prop} {d : Nat} {m : DM} {nv : Value} (h : LSide w S d m nv none) : nv = .pointer none := h.1
theorem keep_well {m : DM} {sure : List (List UInt8)} {under : Bool} {may : List UInt8} {c : Nat} (h : KeepN m sure under may (some (c, false))) : ∃ l, m = ⟨m.files, false, l⟩ ∧ Clean m.files sure ∧ c = sure.length := by
  obtain ⟨h1, h2⟩ := h
  obtain ⟨fs, off, l⟩ := m
  have e : off = false := h1
  subst e
  exact ⟨l, rfl, h2⟩

theorem LSide.of {w : World} {S : Nat → Prop} {d nd c : Nat} {b : Bool} {m : DM} (h : NodeIn w S nd d c b m) : LSide w S d m (.pointer (some ⟨nd, 0, none⟩)) (some (c, b)) := ⟨nd, rfl, h⟩
theorem kcases3 (kk : Int) : kk = 1 ∨ kk = 2 ∨ kk = 3 ∨ ((kk == 1) = false ∧ (kk == 2) = false ∧ (kk == 3) = false) := by
  by_cases h1 : kk = 1
  · exact .inl h1
  by_cases h2 : kk = 2
  · exact .inr (.inl h2)
  by_cases h3 : kk = 3
  · exact .inr (.inr (.inl h3))
  · exact .inr (.inr (.inr ⟨by simp [h1], by simp [h2], by simp [h3]⟩))

set_option maxRecDepth 100000 in
set_option maxHeartbeats 8000000 in
theorem keeps_any (w : World) (vo : Value) (ops : List OpN) (ho : RdOpsN w w.heap.size vo ops) (hb : bytesN ops ≤ 10485760) (hk : ∀ o ∈ ops, o.ks.length ≤ 1048576 ∧ o.b.length ≤ 1048576) (hN : ops.length ≤ 1048576) :
    Calls Try.prog 4 #[vo] w fun e w' => e = .returned (.bool true) ∧ Below w.heap.size w w' := by
  obtain ⟨ib, hib, hibz, hib1, hib2⟩ := info_parts Try.infoByte
  obtain ⟨i0, hi, hz, hsz, hby⟩ := info_parts Try.infoRow
  obtain ⟨B, hB⟩ : ∃ B, B = w.heap.size := ⟨_, rfl⟩
  have hBw : B ≤ w.heap.size := by omega
  rw [← hB] at ho
  obtain ⟨A, c, rfl, hoc, hom, hop⟩ := ho
  unfold maxLen at hom
  obtain ⟨n, hn⟩ : ∃ n, n = ops.length := ⟨_, rfl⟩
  rw [← hn] at hoc hN ⊢
  have HN := Lib.hid hn
  have HP := Lib.hid hop
  have HB := Lib.hid hB
  have HKS := Lib.hid hk
  have HBY := Lib.hid hb
  clear hB hn hop hk hb
  go_enter Try.func4, Try.ntmps4
  go_wp2_with fail
  refine (fixed_any _).mono ?_
  rintro e w0 ⟨rfl, hb0⟩
  have hB0 : Below B w w0 := hb0.mono hBw
  have hs0 : B ≤ w0.heap.size := Nat.le_trans hBw hb0.size
  clear hb0
  go_wp2_with fail
  refine (new_any _ (fun _ => False)).mono ?_
  rintro e w1 ⟨rfl, h1, hb1⟩
  obtain ⟨d, hd⟩ : ∃ d, d = w0.heap.size := ⟨_, rfl⟩
  rw [← hd] at h1 hb1 hs0 ⊢
  have hB1 : Below B w w1 := hB0.trans (hb1.mono hs0)
  have hs1 : B ≤ w1.heap.size := Nat.le_trans hs0 (Nat.le_of_lt (h1.lt d rfl))
  have hF1 : ∀ k, (fun k => k = d) k → B ≤ k := fun k hk => by have : k = d := hk; omega
  generalize (fun k => k = d) = F1 at *
  clear hd hb1 hB0 hs0
  go_wp2_with fail
  refine (nopen_any h1 (by intro f hf; exact absurd hf (by simp))).mono ?_
  intro e w2 hq
  rw [show openN ⟨[], false, 0⟩ = (0, newM, []) from fixn1] at hq
  obtain ⟨hq1, h2, hc2⟩ := hq
  rw [if_pos rfl] at hq1
  obtain ⟨nd, rv, rfl, hnl, hn2, hor2⟩ := hq1
  have hI := NodeIn.made h2 hc2 h1.lt hn2 hnl
  have hB2 : Below B w w2 := hB1.trans (hc2.below hF1 hs1)
  have hs2 := Nat.le_trans hs1 hc2.size
  have hS2 : ∀ k, Ext F1 w1 w2 k → B ≤ k := Ext.ge hF1 hs1
  generalize Ext F1 w1 w2 = S2 at *
  obtain ⟨Ar, cr, rfl⟩ := hor2.form
  have hH : HeadK w w2 B S2 (fun _ => False) d newM (.pointer (some ⟨nd, 0, none⟩)) (some (0, false)) (.slice none 0 0) [] (.slice none 0 0) [] :=
    ⟨LSide.of hI, OutIn.nil _ _ _, ⟨Own.nil _ _, by simp [Value.ownBlock]⟩, fun _ _ => id, fun _ h => h.elim, hS2, fun _ h => h.elim, hs2, hB2⟩
  have HSK : Hid (SizeK ops 0 newM [] []) := Lib.hid ⟨good_new, by have := HBY.out; simp only [List.drop_zero]; show totM newM.files + _ ≤ _; have e : totM newM.files = 0 := rfl; omega, by simp, by simp⟩
  have HKK : Hid (KeepN newM [] false [] (some (0, false))) := Lib.hid ⟨rfl, clean_new, rfl⟩
  clear h1 h2 hB1 hc2 hn2 hnl hor2 hF1 hs1 hI hB2 hs2 hS2
  go_wp2_with fail
  go_loopw [3, 4, 7, 8, 9, 34] (fun v3 v4 v7 v8 v9 i wr => ∃ (k d : Nat) (m : DM) (st : Option (Nat × Bool)) (S R : Nat → Prop) (sure : List (List UInt8)) (under : Bool) (may : List UInt8), k ≤ n ∧ v3 = .pointer (some ⟨d, 0, none⟩) ∧ v9 = .bool under ∧ i = .int .i64 (k : Int) ∧ HeadK w wr B S R d m v4 st v7 sure v8 may ∧ SizeK ops k m sure may ∧ KeepN m sure under may st)
    (fun _ _ _ _ _ i _ => n - (intOf i).toNat)
  case atStart => exact ⟨0, d, newM, _, _, _, [], false, [], Nat.zero_le _, rfl, rfl, rfl, hH, HSK.out, HKK.out⟩
  case round =>
    clear hH HSK HKK hBw
    obtain ⟨k, d, m, st, S, R, sure, under, may, hk, rfl, rfl, rfl, hH, hSK, hKK⟩ := hrel
    by_cases hlt : k < n
    · have hkl : k < ops.length := by have := HN.out; omega
      obtain ⟨g, o, rfl, hgl, hcell⟩ := HP.out (by omega)
      obtain ⟨x0, x1, x2, x3, hat⟩ := hcell k hkl
      have hks := HKS.out _ (List.getElem_mem hkl)
      obtain ⟨op, hop⟩ : ∃ op, op = ops[k] := ⟨_, rfl⟩
      have HLEN := Lib.hid (show op.b.length = ops[k].b.length by rw [hop])
      rw [← hop] at x0 x1 x2 x3 hat hks
      obtain ⟨kk, nn, b, ks, A1, c1, A2, c2⟩ := op
      dsimp only at x0 x1 x2 x3 hks HLEN
      obtain ⟨hks, hbl⟩ := hks
      have hBr := hH.below
      have y0 := (hBr.cell (p := ⟨g, o + k * 4, none⟩) hgl).trans x0
      have y1 := (hBr.cell (p := ⟨g, o + k * 4 + 1, none⟩) hgl).trans x1
      have y2 := (hBr.cell (p := ⟨g, o + k * 4 + 2, none⟩) hgl).trans x2
      have y3 := (hBr.cell (p := ⟨g, o + k * 4 + 3, none⟩) hgl).trans x3
      have i1 : (0 : Int) ≤ (k : Int) := by omega
      have i2 : (k : Int) < (n : Int) := by omega
      have HAT := Lib.hid hat
      have HSK := Lib.hid hSK
      have HKK := Lib.hid hKK
      have HKL := Lib.hid hkl
      have hal := (Below.refl wr.heap.size wr).alloc (Nat.le_refl _) (.cells #[.int .i64 kk, .int .i64 nn, .slice A1 b.length c1, .slice A2 ks.length c2] 43)
      have hR0 : RoundK w (wr.alloc (.cells #[.int .i64 kk, .int .i64 nn, .slice A1 b.length c1, .slice A2 ks.length c2] 43)) B wr.heap.size #[.int .i64 kk, .int .i64 nn, .slice A1 b.length c1, .slice A2 ks.length c2] S R d m u4 st u7 sure u8 may :=
        ⟨hH.turn (Chg.of_below hal S) (fun k => .inl) (hH.one.keep (G := fun _ => False) (Chg.of_below hal _) fun _ _ => id), heap_alloc_new wr _, fun hS => by have := hH.one.lt _ hS; omega, fun hS => by have := hH.ltR _ hS; omega⟩
      have hfs := hH.sure.out.form
      obtain ⟨As, cs, rfl⟩ := hfs
      clear hcell x0 x1 x2 x3 hop hat hSK hKK hBr hH hal
      have hnn := HAT.out.n
      dsimp only at hnn
      rcases kcases3 kk with rfl | rfl | rfl | ⟨f1, f2, f3⟩
      · cases st with
        | none =>
          have e4 := lside_none hR0.head.one
          subst e4
          go_wp2_with fail
          exact ⟨⟨k + 1, _, _, _, _, _, _, _, _, by omega, rfl, rfl, by go_num, hR0.head, HSK.out.step HKL.out, HKK.out⟩, by simp [intOf]; omega⟩
        | some p =>
          obtain ⟨cnt, bad⟩ := p
          obtain ⟨nd, rfl, hn0⟩ := id hR0.head.one
          go_wp2_with fail
          obtain ⟨gb, hgb⟩ : ∃ gb, gb = wr.heap.size := ⟨_, rfl⟩
          rw [← hgb] at hR0
          simp only [← hgb]
          have hgx : gb < (wr.alloc (.cells #[.int .i64 1, .int .i64 nn, .slice A1 b.length c1, .slice A2 ks.length c2] 43)).heap.size := by rw [hgb]; simp
          generalize wr.alloc _ = wx at *
          clear hgb
          refine (sick_any hn0.node).mono ?_
          rintro e w3 ⟨rfl, rfl⟩
          cases bad with
          | true =>
            clear hn0 hgx
            go_wp2_with fail
            exact ⟨⟨k + 1, _, _, _, _, _, _, _, _, by omega, rfl, rfl, by go_num, hR0.head, HSK.out.step HKL.out, HKK.out⟩, by simp [intOf]; omega⟩
          | false =>
            obtain ⟨l, hm, hcl, hcs⟩ := keep_well HKK.out
            have z2 : wx.cell? ⟨gb, 2, none⟩ = some (.slice A1 b.length c1) := hR0.cell 2
            have hrd := (HAT.out.b.below hR0.head.below).more hR0.head.size
            have hcnt : cnt ≤ 1000000000 := by have := HSK.out.num; omega
            have hsl : sure.length ≤ 1000000000 := by have := HSK.out.num; omega
            have HCS := Lib.hid hcs
            clear hcs
            obtain ⟨fs, hfs⟩ : ∃ fs, fs = m.files := ⟨_, rfl⟩
            rw [← hfs] at hm hcl
            clear hfs
            subst hm
            rcases put_clean hcl l b with ⟨l', fs', he, hcl'⟩ | ⟨fs', he, hpd⟩
            · have HPL := Lib.hid (nput_ok hn0 (.slice A1 b.length c1) b hrd (by omega) HSK.out.good HSK.out.big.2.2.2 hcnt he)
              clear hn0 hgx hrd
              go_wp2_with fail
              refine HPL.out.mono ?_
              rintro e w4 ⟨rfl, hc4, hn4⟩
              have hR4 := hR0.turn hc4 (fun k hk => hk.imp id And.left) (LSide.of hn4)
              have z4 : w4.cell? ⟨gb, 2, none⟩ = some (.slice A1 b.length c1) := hR4.cell 2
              obtain ⟨q1, q2⟩ := HSK.out.put HKL.out HLEN.out he
              have HSK9 : Hid (SizeK ops (k + 1) ⟨fs', false, l'⟩ (sure ++ [b]) may) := Lib.hid ⟨q1, q2, by have := HSK.out.num; simp; omega, fun r hr => by
                simp only [List.mem_append, List.mem_cons, List.not_mem_nil, or_false] at hr
                rcases hr with (hr | rfl) | rfl
                · exact HSK.out.len r (by simp [hr])
                · exact hbl
                · exact HSK.out.len r (by simp)⟩
              have HKK9 : Hid (KeepN ⟨fs', false, l'⟩ (sure ++ [b]) under may (some (cnt + 1, false))) := Lib.hid ⟨rfl, hcl', by rw [HCS.out]; simp⟩
              have HR4 := Lib.hid hR4
              have HB4 := Lib.hid (HAT.out.b.below hR4.head.below)
              have HSZ := Lib.hid ((Below.refl w4.heap.size w4).alloc (Nat.le_refl _) (.cells #[] 5))
              have z5 : (w4.alloc (.cells #[] 5)).cell? ⟨gb, 2, none⟩ = some (.slice A1 b.length c1) := (HSZ.out.cell (p := ⟨gb, 2, none⟩) (blk_lt hR4.box)).trans z4
              clear hR0 hc4 hn4 hR4 q1 q2 hcl hcl' z2 hcnt
              go_wp2_with (
                first
                  | (at_builtin; refine wpList_append_rd rfl (.tmp 54) (.tmp 56) _ rfl ib Try.underlying40 hib hibz hib1 hib2 rfl (own_empty w4 (Nat.le_refl _)) rfl (HB4.out.below (HSZ.out.mono HR4.out.head.size)) (by rw [List.length_nil]; omega) HSZ.out.size ?_; intro v5 w5 ho5 hg5 _; have hb5 : Below w4.heap.size w4 w5 := Own.below_grown HSZ.out (own_empty w4 (Nat.le_refl _)) (Nat.le_refl _) HSZ.out.size hg5; have ho5a : Own w5 w4.heap.size v5 b := ho5; obtain ⟨A5, c5, hv5⟩ := ho5a.form; subst hv5; have hbx : Below w5.heap.size w5 (w5.alloc (.cells #[.slice A5 b.length c5] 40)) := (Below.refl _ _).alloc (Nat.le_refl _) _; have hc5 : (w5.alloc (.cells #[.slice A5 b.length c5] 40)).cell? ⟨w5.heap.size, 0, none⟩ = some (.slice A5 b.length c5) := blk_cell (heap_alloc_new w5 _) 0; clear ho5 hg5)
                  | (at_builtin; refine wpList_append_in rfl (.tmp 53) (.tmp 58) _ rfl i0 Try.underlying33 hi hz hsz hby rfl HR4.out.head.sure (hb5.trans (hbx.mono hb5.size)) HR4.out.head.size rfl hc5 (ho5a.below hbx) hsl ?_; intro v6 w6 hs6 hg6; have hH6 := HR4.out.head.push (hb5.trans (hbx.mono hb5.size)) hg6 hs6))
              exact ⟨⟨k + 1, _, _, _, _, _, sure ++ [b], under, may, by omega, rfl, rfl, by go_num, hH6, HSK9.out, HKK9.out⟩, by simp [intOf]; omega⟩
            · have HPL := Lib.hid (nput_err hn0 (.slice A1 b.length c1) b hrd (by omega) HSK.out.good HSK.out.big.2.2.2 hcnt (show ¬ (51 : Int) = 0 by decide) he)
              clear hn0 hgx hrd
              go_wp2_with fail
              refine HPL.out.mono ?_
              rintro e w4 ⟨rfl, hc4, hn4⟩
              have hR4 := hR0.turn hc4 (fun k hk => hk.imp id And.left) (LSide.of hn4)
              have z4 : w4.cell? ⟨gb, 2, none⟩ = some (.slice A1 b.length c1) := hR4.cell 2
              obtain ⟨q1, q2⟩ := HSK.out.put HKL.out HLEN.out he
              have HSK9 : Hid (SizeK ops (k + 1) ⟨fs', true, 0⟩ sure b) := Lib.hid ⟨q1, q2, by have := HSK.out.num; omega, fun r hr => by
                simp only [List.mem_append, List.mem_cons, List.not_mem_nil, or_false] at hr
                rcases hr with hr | rfl
                · exact HSK.out.len r (by simp [hr])
                · exact hbl⟩
              have HKK9 : Hid (KeepN ⟨fs', true, 0⟩ sure true b (some (cnt, true))) := Lib.hid (show Pend1 _ _ ∨ _ from hpd.imp id fun h => ⟨rfl, h⟩)
              have HR4 := Lib.hid hR4
              have HB4 := Lib.hid (HAT.out.b.below hR4.head.below)
              have HSZ := Lib.hid ((Below.refl w4.heap.size w4).alloc (Nat.le_refl _) (.cells #[] 5))
              have z5 : (w4.alloc (.cells #[] 5)).cell? ⟨gb, 2, none⟩ = some (.slice A1 b.length c1) := (HSZ.out.cell (p := ⟨gb, 2, none⟩) (blk_lt hR4.box)).trans z4
              clear hR0 hc4 hn4 hR4 q1 q2 hcl hpd z2 hcnt
              go_wp2_with (at_builtin; refine wpList_append_rd rfl (.tmp 60) (.tmp 62) _ rfl ib Try.underlying40 hib hibz hib1 hib2 rfl (own_empty w4 (Nat.le_refl _)) rfl (HB4.out.below (HSZ.out.mono HR4.out.head.size)) (by rw [List.length_nil]; omega) HSZ.out.size ?_; intro v5 w5 ho5 hg5 _; have hb5 : Below w4.heap.size w4 w5 := Own.below_grown HSZ.out (own_empty w4 (Nat.le_refl _)) (Nat.le_refl _) HSZ.out.size hg5; have ho5a : Own w5 w4.heap.size v5 b := ho5; have hH5 := HR4.out.head.turnMay hb5 ho5a; clear ho5 hg5)
              exact ⟨⟨k + 1, _, _, _, _, _, sure, true, b, by omega, rfl, rfl, by go_num, hH5, HSK9.out, HKK9.out⟩, by simp [intOf]; omega⟩
      · go_wp2_with fail
        obtain ⟨gb, hgb⟩ : ∃ gb, gb = wr.heap.size := ⟨_, rfl⟩
        rw [← hgb] at hR0
        simp only [← hgb]
        have hgx : gb < (wr.alloc (.cells #[.int .i64 2, .int .i64 nn, .slice A1 b.length c1, .slice A2 ks.length c2] 43)).heap.size := by rw [hgb]; simp
        generalize wr.alloc _ = wx at *
        clear hgb

        refine (larm_any hR0.head.one nn hnn).mono ?_
        rintro e wA ⟨rfl, hcA, hlA⟩
        have hRA := hR0.turn hcA (fun k => .inl) hlA
        clear hR0 hcA hlA hgx
        go_wp2_with fail
        exact ⟨⟨k + 1, _, _, _, _, _, _, _, _, by omega, rfl, rfl, by go_num, hRA.head, (HSK.out.arm nn).step HKL.out, HKK.out.arm nn⟩, by simp [intOf]; omega⟩
      · go_wp2_with fail
        obtain ⟨gb, hgb⟩ : ∃ gb, gb = wr.heap.size := ⟨_, rfl⟩
        rw [← hgb] at hR0
        simp only [← hgb]
        have hgx : gb < (wr.alloc (.cells #[.int .i64 3, .int .i64 nn, .slice A1 b.length c1, .slice A2 ks.length c2] 43)).heap.size := by rw [hgb]; simp
        generalize wr.alloc _ = wx at *
        clear hgb

        obtain ⟨g1, g2, g3, g4, g5⟩ := HSK.out.good.new ks
        have HNEW := Lib.hid (And.intro g1 (And.intro g3 (And.intro (show ((crashM m.files ks).map fun f => f.2.length).sum ≤ 1000000000 from Nat.le_trans g4 HSK.out.big.2.1) g5)))
        clear g1 g2 g3 g4 g5
        obtain ⟨F1, hD1, _⟩ := hR0.head.one.disk
        have hksx := (HAT.out.ks.below hR0.head.below).more hR0.head.size
        refine (crash_any hD1 _ ks hksx HSK.out.big.2.1 HSK.out.big.2.2.1).mono ?_
        rintro e1 w3 ⟨v3, rfl, ho3, hb3⟩
        have hR3 := hR0.next hb3
        have hg3 : gb < w3.heap.size := Nat.lt_of_lt_of_le hgx hb3.size
        clear hD1 hksx hR0 hb3 hgx
        go_wp2_with fail
        refine (load_some w3 v3 (crashM m.files ks) ho3.rdFs HNEW.out.2.2.1 HNEW.out.2.2.2 _ HNEW.out.1 HNEW.out.2.1).mono ?_
        rintro e2 w4 ⟨d', rfl, h4, hb4⟩
        obtain ⟨F4, h4, hF4⟩ := h4
        have hR4 := hR3.next hb4
        have hR5 : RoundK w w4 B gb _ F4 R d' ⟨asNew (crashM m.files ks), false, 0⟩ (.pointer none) none _ sure _ may :=
          ⟨⟨⟨rfl, F4, h4, fun _ => id, h4.lt⟩, hR4.head.sure, hR4.head.may, fun k hk hR => by have := hF4 k hk; have := hR3.head.ltR k hR; omega, hR4.head.ltR, fun k hk => Nat.le_trans hR3.head.size (hF4 k hk), hR4.head.fromR, hR4.head.size, hR4.head.below⟩, hR4.box, fun hk => by have := hF4 gb hk; omega, hR4.notR⟩
        have HSK5 := Lib.hid ((HSK.out.crash ks).arm nn)
        have HKK5 := Lib.hid ((HKK.out.crash ks).arm nn)
        have z5 : w4.cell? ⟨gb, 1, none⟩ = some (.int .i64 nn) := hR5.cell 1
        clear hR3 hb4 ho3 hR4 hF4 h4
        go_wp2_with fail
        refine (larm_any hR5.head.one nn hnn).mono ?_
        rintro e w5 ⟨rfl, hc5, hl5⟩
        have hR6 := hR5.turn hc5 (fun k => .inl) hl5
        have hM : (armM ⟨asNew (crashM m.files ks), false, 0⟩ nn) = ⟨asNew (crashM m.files ks), false, max 0 nn⟩ := rfl
        rw [hM] at HSK5 HKK5 hR6
        clear hR5 hc5 hl5 z5 hM
        obtain ⟨fs, hfs⟩ : ∃ fs, fs = asNew (crashM m.files ks) := ⟨_, rfl⟩
        obtain ⟨l, hl⟩ : ∃ l, l = max 0 nn := ⟨_, rfl⟩
        rw [← hfs, ← hl] at HSK5 HKK5 hR6
        clear hfs hl
        go_wp2_with fail
        obtain ⟨F6, hD6, hF6⟩ := hR6.head.one.disk
        have hres : ∃ (e : Int) (fs' : List FM) (off : Bool) (l' : Int) (rs : List (List UInt8)), openN ⟨fs, false, l⟩ = (e, ⟨fs', off, l'⟩, rs) ∧
            ((e = 0 ∧ off = false ∧ rs = sure ∧ Clean fs' sure) ∨ (e = 51 ∧ off = true ∧ rs = [] ∧ (Pend1 fs' sure ∨ (under = true ∧ Pend2 fs' sure may))) ∨ (e = 0 ∧ off = false ∧ rs = sure ++ [may] ∧ under = true ∧ Clean fs' (sure ++ [may]))) := by
          rcases HKK5.out.pend with hp | ⟨hu, hp⟩
          · rcases open_pend1 hp l HSK5.out.smallS with ⟨l', fs', e, q⟩ | ⟨fs', e, q⟩
            · exact ⟨_, _, _, _, _, e, .inl ⟨rfl, rfl, rfl, q⟩⟩
            · exact ⟨_, _, _, _, _, e, .inr (.inl ⟨rfl, rfl, rfl, .inl q⟩)⟩
          · rcases open_pend2 hp l HSK5.out.small with ⟨l', fs', e, q⟩ | ⟨fs', e, q⟩
            · exact ⟨_, _, _, _, _, e, .inr (.inr ⟨rfl, rfl, rfl, hu, q⟩)⟩
            · exact ⟨_, _, _, _, _, e, .inr (.inl ⟨rfl, rfl, rfl, .inr ⟨hu, q⟩⟩)⟩
        obtain ⟨e, fs', off, l', rs, hop, hres⟩ := hres
        have HSK6 := Lib.hid (HSK5.out.open_ hop)
        have HOP := Lib.hid hop
        clear hop
        refine (nopen_any hD6 HSK5.out.big.1).mono ?_
        intro e6 w6 hq
        rw [HOP.out] at hq
        obtain ⟨hq1, hD7, hc7⟩ := hq
        have hF6' : ∀ k, F6 k → k < w5.heap.size := hD6.lt
        rcases hres with ⟨rfl, rfl, hrs, hcl⟩ | ⟨rfl, rfl, rfl, hpd⟩ | ⟨rfl, rfl, rfl, rfl, hcl⟩
        · obtain rfl : sure = rs := hrs.symm
          rw [if_pos rfl] at hq1
          obtain ⟨nd, rv, rfl, hnl, hnd, hor⟩ := hq1
          obtain ⟨A7, c7, rfl⟩ := hor.form
          have hR7 : RoundK w w6 B gb _ (fun k => F6 k ∨ k = nd) R d' ⟨fs', false, l'⟩ (.pointer (some ⟨nd, 0, none⟩)) (some (_, false)) _ sure _ may :=
            hR6.turn (hc7.mono fun k _ => hF6 k) (fun k hk => hk.elim (fun h => .inl (hF6 k h)) fun h => .inr (by omega))
              (LSide.of ⟨F6, hD7, hnd, fun hk => by have := hF6' nd hk; omega, fun k => .inl, .inr rfl, fun k hk => hk.elim (fun h => Nat.lt_of_lt_of_le (hF6' k h) hc7.size) fun h => by rw [h]; exact blk_lt hnd⟩)
          have HF6 := Lib.hid (And.intro hF6' hR6.head.size)
          have HRI := Lib.hid (hor.in_ hnd (by decide) (by decide))
          have HRT := Lib.hid hR7
          have hls := HSK5.out.num
          obtain ⟨ns, hns⟩ : ∃ ns, ns = sure.length := ⟨_, rfl⟩
          have hcs7 := hor.cap
          have hpre := hor.rdR.takeN (n := sure.length) (by simp)
          have hsame : RdR w6 w6.heap.size (.slice A7 sure.length c7) sure := by simpa using hpre
          have hsure := hR7.head.sure.out.rdR
          clear hR6 hD6 hD7 hc7 hF6' hR7 hpre hor hnd hnl

          rw [← hns] at hls hsame hsure hcs7 ⊢
          have HNS := Lib.hid hns
          have hsl : ∀ W : World, (Instr.slice 33 (.slice A7 ns c7) none (some (.int .i64 (ns : Int))) none).run Try.prog W = .ok (.slice A7 ns c7) W := run_slice_to _ _ i0 Try.underlying33 hi A7 ns c7 ns (by omega)
          clear hns
          go_wp2_with fail
          refine (nsame_any _ _ _ sure hsame hsure).mono ?_
          rintro e7 w7 ⟨rfl, hb7⟩
          have hR8 := HRT.out.next hb7
          clear hsame hsure hb7 hsl
          go_wp2_with fail
          have hR8h := hR8.head
          rw [← HNS.out] at hR8h
          exact ⟨⟨k + 1, _, _, some (ns, false), _, _, sure, false, may, by omega, rfl, rfl, by go_num, hR8h, HSK6.out.step HKL.out, ⟨rfl, hcl, HNS.out⟩⟩, by simp [intOf]; omega⟩
        · rw [if_neg (show ¬ ((51 : Int) = 0) by decide)] at hq1
          subst hq1
          have hR7 : RoundK w w6 B gb _ _ R d' ⟨fs', true, l'⟩ (.pointer none) none _ sure _ may :=
            hR6.turn (hc7.mono fun k _ => hF6 k) (fun k => .inl) ⟨rfl, F6, hD7, hF6, fun k hk => Nat.lt_of_lt_of_le (hR6.head.one.lt k hk) hc7.size⟩
          clear hR6 hD6 hc7 hF6'
          go_wp2_with fail
          refine (down_any hD7).mono ?_
          rintro e7 w7 ⟨rfl, rfl⟩
          clear hD7
          go_wp2_with fail
          exact ⟨⟨k + 1, _, _, _, _, _, _, _, _, by omega, rfl, rfl, by go_num, hR7.head, HSK6.out.step HKL.out, hpd⟩, by simp [intOf]; omega⟩
        · rw [if_pos rfl] at hq1
          obtain ⟨nd, rv, rfl, hnl, hnd, hor⟩ := hq1
          obtain ⟨A7, c7, rfl⟩ := hor.form
          have hR7 : RoundK w w6 B gb _ (fun k => F6 k ∨ k = nd) R d' ⟨fs', false, l'⟩ (.pointer (some ⟨nd, 0, none⟩)) (some (_, false)) _ sure _ may :=
            hR6.turn (hc7.mono fun k _ => hF6 k) (fun k hk => hk.elim (fun h => .inl (hF6 k h)) fun h => .inr (by omega))
              (LSide.of ⟨F6, hD7, hnd, fun hk => by have := hF6' nd hk; omega, fun k => .inl, .inr rfl, fun k hk => hk.elim (fun h => Nat.lt_of_lt_of_le (hF6' k h) hc7.size) fun h => by rw [h]; exact blk_lt hnd⟩)
          have HF6 := Lib.hid (And.intro hF6' hR6.head.size)
          have HRI := Lib.hid (hor.in_ hnd (by decide) (by decide))
          have HRT := Lib.hid hR7
          have hls := HSK5.out.num
          obtain ⟨ns, hns⟩ : ∃ ns, ns = sure.length := ⟨_, rfl⟩
          have hcs7 := hor.cap
          have hpre := hor.rdR.takeN (n := sure.length) (by simp)
          have hsame : RdR w6 w6.heap.size (.slice A7 sure.length c7) sure := by simpa using hpre
          have hsure := hR7.head.sure.out.rdR
          clear hR6 hD6 hD7 hc7 hF6' hR7 hpre hor hnd hnl

          have hlc : (sure ++ [may]).length = sure.length + 1 := by simp
          rw [hlc] at HRI HRT hcs7 ⊢
          have hcell := (show RdR w6 w6.heap.size (.slice A7 (sure.length + 1) c7) (sure ++ [may]) by have h := HRI.out.out.rdR; exact h)
          obtain ⟨Ax, cx, he1, _, _, hp⟩ := hcell
          injection he1 with he1 he2 he3
          subst he1
          obtain ⟨gx, ox, rfl, hgx, hcx⟩ := hp (by simp)
          obtain ⟨x, hxc, hxr⟩ := hcx sure.length (by simp)
          have hxr : Rd w6 w6.heap.size x may := by simpa using hxr
          have hmay := HRT.out.head.may.1
          obtain ⟨Am, cm, rfl⟩ := hmay.form
          have HNUM := Lib.hid hls
          rw [← hns] at hls hsame hsure hcs7 hxc HRI HRT ⊢
          have HNS := Lib.hid hns
          have hc7 : ns + 1 ≤ c7 := hcs7.2.1
          have hsl : ∀ W : World, (Instr.slice 33 (.slice (some ⟨gx, ox, none⟩) (ns + 1) c7) none (some (.int .i64 (ns : Int))) none).run Try.prog W = .ok (.slice (some ⟨gx, ox, none⟩) ns c7) W := run_slice_to _ _ i0 Try.underlying33 hi _ (ns + 1) c7 ns (by omega)
          have hHS := HRT.out.head
          clear hns he2 he3 hp hcx hcs7
          obtain ⟨n1, hn1⟩ : ∃ n1, n1 = ns + 1 := ⟨_, rfl⟩
          rw [← hn1] at hsl HRI HRT hc7 ⊢
          have hlt1 : ns < n1 := by omega
          have HN1 := Lib.hid hn1
          clear hn1
          go_wp2_with fail
          refine (nsame_any _ _ _ sure hsame hsure).mono ?_
          rintro e7 w7 ⟨rfl, hb7⟩
          have hR8 := HRT.out.next hb7
          have hri8 := HRI.out.chg (Chg.of_below hb7 fun _ => False) fun _ h => h.elim
          have hxc7 := (hb7.cell (p := ⟨gx, ox + ns, none⟩) hgx).trans hxc
          have q1 : ∀ j : Nat, (convert 40 9 x).run Try.prog (w7.drewN j) = .ok (.string ⟨may.toArray⟩) (w7.drewN j) := fun j => run_str (w := w7.drewN j) Try.underlying40 Try.underlying5 Try.isString ((hxr.below hb7).drewN j)
          have q2 : ∀ j : Nat, (convert 40 9 (.slice Am may.length cm)).run Try.prog (w7.drewN j) = .ok (.string ⟨may.toArray⟩) (w7.drewN j) := fun j => run_str (w := w7.drewN j) Try.underlying40 Try.underlying5 Try.isString (hR8.head.may.1.rd.drewN j)
          obtain ⟨SM, hSM⟩ : ∃ SM : ByteArray, SM = ⟨may.toArray⟩ := ⟨_, rfl⟩
          rw [← hSM] at q1 q2
          have hne : (SM.toList != SM.toList) = false := by simp
          have hw1 : IntKind.i64.wrap ((ns : Int) + 1) = (n1 : Int) := by rw [IntKind.wrap_i64]; have := HN1.out; omega
          have hi0 : (0 : Int) ≤ (ns : Int) := by omega
          have hi1 : (ns : Int) < (n1 : Int) := by omega
          have HR8 := Lib.hid hR8
          have HRI8 := Lib.hid hri8
          have HB7 := Lib.hid hb7.size
          clear hsame hsure hsl hb7 hxc hxr hSM hR8 hri8 hHS hmay
          go_wp2_with fail
          go_quiet (fail)
          clear q1 q2 hxc7
          have hR9 := HR8.out.next (below_drewN' (Below.refl _ _) nq)
          have hH9 := hR9.head.swap (sv' := .slice (some ⟨gx, ox, none⟩) n1 c7) ((HRI8.out.more HF6.out.2).chg (Chg.of_below (below_drewN' (Below.refl _ _) nq) fun _ => False) fun _ h => h.elim) (fun k hk hR => hk.elim (fun h => by have := HF6.out.1 k h; have := hR.1; omega) fun h => hR.2.2 h) (fun k hR => Nat.lt_of_lt_of_le hR.2.1 HB7.out) (fun k hR => Nat.le_trans HF6.out.2 hR.1)
          have HSK9 : Hid (SizeK ops (k + 1) ⟨fs', false, l'⟩ (sure ++ [may]) may) := Lib.hid ⟨HSK6.out.good, (HSK6.out.step HKL.out).tot, by have := HSK6.out.num; simp; omega, fun r hr => by
            simp only [List.mem_append, List.mem_cons, List.not_mem_nil, or_false] at hr
            rcases hr with (hr | rfl) | rfl
            · exact HSK6.out.len r (by simp [hr])
            · exact HSK6.out.len r (by simp)
            · exact HSK6.out.len r (by simp)⟩
          have HKK9 : Hid (KeepN ⟨fs', false, l'⟩ (sure ++ [may]) false may (some (n1, false))) := Lib.hid ⟨rfl, hcl, by rw [HN1.out, HNS.out]; simp⟩
          clear hR9
          go_wp2_with fail
          exact ⟨⟨k + 1, _, _, some (n1, false), _, _, sure ++ [may], false, may, by omega, rfl, rfl, by go_num, hH9, HSK9.out, HKK9.out⟩, by simp [intOf]; omega⟩
      · go_wp2_with fail
        exact ⟨⟨k + 1, _, _, _, _, _, _, _, _, by omega, rfl, rfl, by go_num, hR0.head, HSK.out.step HKL.out, HKK.out⟩, by simp [intOf]; omega⟩
    · obtain rfl : k = n := by omega
      have i2 : ¬ (k : Int) < (k : Int) := by omega
      go_wp2_with fail
      go_ret
      exact ⟨rfl, by rw [← HB.out]; exact hH.below⟩
end Go.Proofs.Ytbbpkenbeenocaa
