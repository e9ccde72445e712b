
/- The law NodeLives, walked. -/
import Derived.Test.YtbbpkenbeenocaaNodeT
import Derived.Test.YtbbpkenbeenocaaRDiskD
import Derived.Test.YtbbpkenbeenocaaHeldBy
import Derived.Deep.RegionHeldLaw
import Derived.Deep.QuietTactic
import Derived.BigQuiet
namespace Go.Proofs.Ytbbpkenbeenocaa
open Go Go.RowKit
set_option linter.unusedVariables false

/-- what holds at the loop's head -/
structure HeadN (ops : List OpN) (k : Nat) (m : DM) (st : Option (Nat × Bool)) : Prop where
  good : GoodL m.files
  tot : totM m.files + bytesN (ops.drop k) ≤ 20000000
  cnt : ∀ c b, st = some (c, b) → c ≤ 20000000 + k
theorem HeadN.open_ {ops : List OpN} {k : Nat} {m : DM} {st : Option (Nat × Bool)} (h : HeadN ops k m st) : HeadN ops k (openN m).2.1 (openSt (openN m)) := by
  obtain ⟨q1, q2⟩ := open_files m h.good
  refine ⟨q1, Nat.le_trans (Nat.add_le_add_right q2 _) h.tot, fun c b hc => ?_⟩
  unfold openSt at hc
  split at hc
  · injection hc with hc
    injection hc with hc _
    have := open_count m
    have := h.tot
    omega
  · cases hc
theorem HeadN.arm {ops : List OpN} {k : Nat} {m : DM} {st : Option (Nat × Bool)} (h : HeadN ops k m st) (n : Int) : HeadN ops k (armM m n) st :=
  ⟨(arm_files m n h.good).1, Nat.le_trans (Nat.add_le_add_right (arm_files m n h.good).2 _) h.tot, h.cnt⟩
theorem HeadN.crash {ops : List OpN} {k : Nat} {m : DM} {st : Option (Nat × Bool)} (h : HeadN ops k m st) (ks : List Bool) : HeadN ops k ⟨asNew (crashM m.files ks), false, 0⟩ none := by
  obtain ⟨g1, g2, g3, g4, g5⟩ := h.good.new ks
  exact ⟨g2, by show totM (asNew (crashM m.files ks)) + _ ≤ _; rw [new_tot]; have := h.tot; omega, fun c b hc => by cases hc⟩
theorem HeadN.put {ops : List OpN} {k c : Nat} {m : DM} {b : Bool} (h : HeadN ops k m (some (c, b))) (hk : k < ops.length) (r : List UInt8) (hr : r.length = ops[k].b.length) : HeadN ops (k + 1) (putM c b r m) (some (putC c b r m, putB c b r m)) := by
  obtain ⟨q1, q2⟩ := putM_files c b r m h.good
  refine ⟨q1, by have h1 := h.tot; rw [bytesN_drop ops k hk] at h1; omega, fun c' b' hc => ?_⟩
  injection hc with hc
  injection hc with hc _
  have h1 := putC_le c b r m
  have h2 := h.cnt c b rfl
  omega
theorem HeadN.step {ops : List OpN} {k : Nat} {m : DM} {st : Option (Nat × Bool)} (h : HeadN ops k m st) (hk : k < ops.length) : HeadN ops (k + 1) m st :=
  ⟨h.good, by have h1 := h.tot; rw [bytesN_drop ops k hk] at h1; omega, fun c b hc => by have := h.cnt c b hc; omega⟩
theorem HeadN.big {ops : List OpN} {k : Nat} {m : DM} {st : Option (Nat × Bool)} (h : HeadN ops k m st) : (∀ f ∈ m.files, f.data.length ≤ 1000000000) ∧ totM m.files ≤ 1000000000 ∧ m.files.length ≤ 1000 ∧ totM m.files ≤ 100000000 :=
  ⟨fun f hf => by have := totM_mem hf; have := h.tot; omega, by have := h.tot; omega, by have := h.good.len; omega, by have := h.tot; omega⟩

theorem TwoN.pointers {w : World} {B : Nat} {S T : Nat → Prop} {d e : Nat} {m n : DM} {nv xv : Value} {st : Option (Nat × Bool)} (h : TwoN w B S T d e m n nv xv st st) : ∃ p q : Option Addr, nv = .pointer p ∧ xv = .pointer q ∧ (!p.isNone == q.isNone) = false := by
  have h1 := h.one
  have h2 := h.two
  cases st with
  | none => exact ⟨none, none, h1.1, h2.1, rfl⟩
  | some c => obtain ⟨nd, e1, _⟩ := h1; obtain ⟨xd, e2, _⟩ := h2; exact ⟨_, _, e1, e2, rfl⟩
theorem LSide.node {w : World} {S : Nat → Prop} {d nd c : Nat} {b : Bool} {m : DM} (h : LSide w S d m (.pointer (some ⟨nd, 0, none⟩)) (some (c, b))) : NodeIn w S nd d c b m := by
  obtain ⟨nd', e, h⟩ := h
  injection e with e; injection e with e; injection e with e
  subst e
  exact h
theorem RSide.node {w : World} {S : Nat → Prop} {d nd c : Nat} {b : Bool} {m : DM} (h : RSide w S d m (.pointer (some ⟨nd, 0, none⟩)) (some (c, b))) : RNodeIs w nd d c b := by
  obtain ⟨nd', e, F, _, h, _⟩ := h
  injection e with e; injection e with e; injection e with e
  subst e
  exact h
theorem LSide.of {w : World} {S : Nat → Prop} {d nd c : Nat} {b : Bool} {m : DM} (h : NodeIn w S nd d c b m) : LSide w S d m (.pointer (some ⟨nd, 0, none⟩)) (some (c, b)) := ⟨nd, rfl, h⟩
theorem RSide.of {w : World} {S : Nat → Prop} {d nd c : Nat} {b : Bool} {m : DM} (h : RNodeIn w S nd d c b m) : RSide w S d m (.pointer (some ⟨nd, 0, none⟩)) (some (c, b)) := ⟨nd, rfl, h⟩
/-- new disks in the old ones' place -/
theorem RoundN.renew {w w4 w6 : World} {B gb C D : Nat} {box : Array Value} {S T : Nat → Prop} {d e d' e' : Nat} {m n m' n' : DM} {nv xv : Value} {st su : Option (Nat × Bool)} (h : RoundN w w6 B gb box S T d e m n nv xv st su)
    (h1 : DiskFrom w4 C d' m') (hC : gb < C) (hBC : B ≤ C) (h2 : RefFrom w6 D e' n') (hD : w4.heap.size ≤ D) (hb : Below w4.heap.size w4 w6) (hBs : B ≤ w4.heap.size) (hg : gb < w4.heap.size) :
    ∃ S T, RoundN w w6 B gb box S T d' e' m' n' (.pointer none) (.pointer none) none none := by
  obtain ⟨F, h1, hF⟩ := h1
  obtain ⟨G, h2, hG⟩ := h2
  exact ⟨F, G, ⟨⟨rfl, F, h1.below hb, fun _ => id, (h1.below hb).lt⟩, ⟨rfl, G, h2, fun _ => id, h2.lt⟩, fun k hf hg => by have := h1.lt k hf; have := hG k hg; omega, fun k hk => Nat.le_trans hBC (hF k hk), fun k hk => by have := hG k hk; omega, Nat.le_trans hBs hb.size⟩, h.below, h.box, fun hk => by have := hF gb hk; omega, fun hk => by have := hG gb hk; omega⟩
theorem kcases (kk : Int) : kk = 1 ∨ kk = 2 ∨ kk = 3 ∨ kk = 4 ∨ ((kk == 1) = false ∧ (kk == 2) = false ∧ (kk == 3) = false ∧ (kk == 4) = false) := by
  by_cases h1 : kk = 1
  · exact .inl h1
  by_cases h2 : kk = 2
  · exact .inr (.inl h2)
  by_cases h3 : kk = 3
  · exact .inr (.inr (.inl h3))
  by_cases h4 : kk = 4
  · exact .inr (.inr (.inr (.inl h4)))
  · exact .inr (.inr (.inr (.inr ⟨by simp [h1], by simp [h2], by simp [h3], by simp [h4]⟩)))

set_option maxRecDepth 100000 in
set_option maxHeartbeats 8000000 in
theorem lives_any (w : World) (v vo : Value) (fs : List (ByteArray × List UInt8)) (ops : List OpN) (hr : RdFs w w.heap.size v fs) (ho : RdOpsN w w.heap.size vo ops) (hlen : (fs.map fun f => f.2.length).sum ≤ 1048576) (hnl : ∀ f ∈ fs, f.1.size ≤ maxLen) (hfl : fs.length ≤ 1048576)
    (hb : bytesN ops ≤ 10485760) (hk : ∀ o ∈ ops, o.ks.length ≤ 1048576 ∧ o.b.length ≤ 1048576) (hN : ops.length ≤ 1048576) :
    Calls Try.prog 3 #[v, vo] w fun e w' => e = .returned (.bool true) ∧ Below w.heap.size w w' := by
  obtain ⟨B, hB⟩ : ∃ B, B = w.heap.size := ⟨_, rfl⟩
  have hBw : B ≤ w.heap.size := by omega
  have hr0 : RdFs w B v fs := by rw [hB]; exact hr
  rw [← hB] at ho
  obtain ⟨A, c, rfl, hoc, hom, hop⟩ := ho
  unfold maxLen at hom
  obtain ⟨n, hn⟩ : ∃ n, n = ops.length := ⟨_, rfl⟩
  rw [← hn] at hoc hN ⊢
  have HN := Lib.hid hn
  have HP := Lib.hid hop
  have HB := Lib.hid hB
  have HKS := Lib.hid hk
  have HBY := Lib.hid hb
  clear hB hn hop hk hb
  go_enter Try.func3, Try.ntmps3
  go_wp2_with fail
  refine (fixed_any _).mono ?_
  rintro e w0 ⟨rfl, hb0⟩
  have hB0 : Below B w w0 := hb0.mono hBw
  have hs0 : B ≤ w0.heap.size := Nat.le_trans hBw hb0.size
  clear hb0
  have hr1 := (hr0.below hB0).more hs0
  by_cases hgood : fs.length ≤ 16 ∧ ∃ l, loadL fs [] = some l
  · obtain ⟨h16, l, hl⟩ := hgood
    obtain ⟨hgl, hle⟩ := GoodL.load hl h16
    have htt : totM l ≤ 1048576 := by rw [hle, new_tot]; exact hlen
    have hhead : HeadN ops 0 ⟨l, false, 0⟩ none := ⟨hgl, by have := HBY.out; simp only [List.drop_zero]; show totM l + _ ≤ _; omega, fun c b hc => by cases hc⟩
    have HL := Lib.hid hl
    have HH := Lib.hid hhead
    clear hle hl hgl htt hhead
    go_wp2_with fail
    refine (load_some w0 v fs hr1 (by omega) hnl l HL.out h16).mono ?_
    rintro e w1 ⟨d, rfl, h1, hb1⟩
    have hB1 : Below B w w1 := hB0.trans (hb1.mono hs0)
    have hs1 : B ≤ w1.heap.size := Nat.le_trans hs0 hb1.size
    clear hb1 hB0 hr1
    go_wp2_with fail
    refine (rload_some w1 v fs ((hr0.below hB1).more hs1) (by omega) hnl l HL.out h16).mono ?_
    rintro e w2 ⟨d2, rfl, h2, hb2⟩
    have hB2 := hB1.trans (hb2.mono hs1)
    obtain ⟨S0, T0, hT2⟩ := TwoN.made h1 hs0 h2 (Nat.le_refl _) hb2 hs1
    clear h1 h2 hB1 hb2 hr0 hr hs0 hs1
    go_wp2_with fail
    refine (lopen_any hT2.one HH.out.big.1).mono ?_
    rintro e w3 ⟨nv, A3, c3, rfl, hl3, ho3, hc3⟩
    obtain ⟨hT3, hb3⟩ := hT2.left hc3 hl3
    have hB3 := hB2.trans hb3
    have hsz3 : ∀ k, T0 k → k < w2.heap.size := hT2.two.lt
    clear hT2 hB2 hb3 hl3 hc3
    go_wp2_with fail
    refine (ropen_any hT3.two HH.out.big.1).mono ?_
    rintro e w4 ⟨xv, A4, c4, rfl, hl4, ho4, hc4⟩
    obtain ⟨hT4, hb4⟩ := hT3.right hc4 hl4
    have hB4 := hB3.trans hb4
    have ho34 := ho3.chg hc4 hsz3
    have HH4 := Lib.hid HH.out.open_
    clear hT3 hB3 hb4 hl4 hc4 ho3 hsz3
    generalize Ext S0 w2 w3 = S4 at *
    generalize Ext T0 w3 w4 = T4 at *
    obtain ⟨p, q, rfl, rfl, hpq⟩ := hT4.pointers
    generalize openSt (openN ⟨l, false, 0⟩) = st4 at *
    generalize openN ⟨l, false, 0⟩ = r at *
    obtain ⟨x, m', rs⟩ := r
    dsimp only at hT4 HH4 ho34 ho4 ⊢
    have hxx : (x != x) = false := by simp
    go_wp2_with fail
    refine (nsame_any _ _ _ rs ho34.rdR ho4.rdR).mono ?_
    rintro e w5 ⟨rfl, hb5⟩
    have hT5 := hT4.below hb5
    have hB5 := hB4.trans (hb5.mono hT4.size)
    clear hT4 hB4 hb5 ho34 ho4
    go_wp2_with fail
    go_loopw [5, 7, 9, 11, 71] (fun v5 v7 v9 v11 i wr => ∃ (k d e : Nat) (m : DM) (st : Option (Nat × Bool)) (S T : Nat → Prop), k ≤ n ∧ v5 = .pointer (some ⟨d, 0, none⟩) ∧ v7 = .pointer (some ⟨e, 0, none⟩) ∧ i = .int .i64 (k : Int) ∧ TwoN wr B S T d e m m v9 v11 st st ∧ HeadN ops k m st ∧ Below B w wr)
      (fun _ _ _ _ i _ => n - (intOf i).toNat)
    case atStart => exact ⟨0, d, d2, m', _, S4, T4, Nat.zero_le _, rfl, rfl, rfl, hT5, HH4.out, hB5⟩
    case round =>
      obtain ⟨k, d, e, m, st, S, T, hk, rfl, rfl, rfl, hT, hH, hBr⟩ := hrel
      by_cases hlt : k < n
      · have hkl : k < ops.length := by have := HN.out; omega
        obtain ⟨g, o, rfl, hgl, hcell⟩ := HP.out (by omega)
        obtain ⟨x0, x1, x2, x3, hat⟩ := hcell k hkl
        have hks := HKS.out _ (List.getElem_mem hkl)
        have hbd := bytesN_drop ops k hkl
        have htb := hH.tot
        obtain ⟨op, hop⟩ : ∃ op, op = ops[k] := ⟨_, rfl⟩
        have HLEN := Lib.hid (show op.b.length = ops[k].b.length by rw [hop])
        rw [← hop] at x0 x1 x2 x3 hat hks hbd
        obtain ⟨kk, nn, b, ks, A1, c1, A2, c2⟩ := op
        dsimp only at x0 x1 x2 x3 hks hbd HLEN
        have y0 := (hBr.cell (p := ⟨g, o + k * 4, none⟩) hgl).trans x0
        have y1 := (hBr.cell (p := ⟨g, o + k * 4 + 1, none⟩) hgl).trans x1
        have y2 := (hBr.cell (p := ⟨g, o + k * 4 + 2, none⟩) hgl).trans x2
        have y3 := (hBr.cell (p := ⟨g, o + k * 4 + 3, none⟩) hgl).trans x3
        have i1 : (0 : Int) ≤ (k : Int) := by omega
        have i2 : (k : Int) < (n : Int) := by omega
        obtain ⟨hks, hbl⟩ := hks
        have HAT := Lib.hid hat
        have HH := Lib.hid hH
        have HKL := Lib.hid hkl
        have hal := (Below.refl wr.heap.size wr).alloc (Nat.le_refl _) (.cells #[.int .i64 kk, .int .i64 nn, .slice A1 b.length c1, .slice A2 ks.length c2] 43)
        have hR0 : RoundN w (wr.alloc (.cells #[.int .i64 kk, .int .i64 nn, .slice A1 b.length c1, .slice A2 ks.length c2] 43)) B wr.heap.size #[.int .i64 kk, .int .i64 nn, .slice A1 b.length c1, .slice A2 ks.length c2] S T d e m m u9 u11 st st :=
          ⟨hT.below hal, hBr.alloc hT.size _, heap_alloc_new wr _, fun hS => by have := hT.one.lt _ hS; omega, fun hS => by have := hT.two.lt _ hS; omega⟩
        clear hcell x0 x1 x2 x3 hop hat hH hbd htb hT hBr hal
        have hnn := HAT.out.n
        dsimp only at hnn
        rcases kcases kk with rfl | rfl | rfl | rfl | ⟨f1, f2, f3, f4⟩
        · cases st with
          | none =>
            obtain ⟨rfl, _⟩ := id hR0.two.one
            obtain ⟨rfl, _⟩ := id hR0.two.two
            go_wp2_with fail
            obtain ⟨gb, hgb⟩ : ∃ gb, gb = wr.heap.size := ⟨_, rfl⟩
            rw [← hgb] at hR0
            simp only [← hgb]
            have hgx : gb < (wr.alloc (.cells #[.int .i64 1, .int .i64 nn, .slice A1 b.length c1, .slice A2 ks.length c2] 43)).heap.size := by rw [hgb]; simp
            generalize wr.alloc _ = wx at *
            clear hgb
            go_quiet (fail)
            have hRq := hR0.next (below_drewN' (Below.refl _ _) nq)
            have HHK := Lib.hid (HH.out.step HKL.out)
            clear hR0 hgx
            obtain ⟨F9, hD9, _⟩ := hRq.two.one.disk
            have HR9 := Lib.hid hRq
            clear hRq
            go_wp2_with fail
            refine (crash_any hD9 _ [] (rdL_nil _ _) HHK.out.big.2.1 HHK.out.big.2.2.1).mono ?_
            rintro e1 wa ⟨va, rfl, hoa, hba⟩
            have hRa := HR9.out.next hba
            obtain ⟨G9, hE9, _⟩ := hRa.two.two.disk
            have HRa := Lib.hid hRa
            clear hD9 hRa hba
            go_wp2_with fail
            refine (rcrash_any hE9 _ [] (rdL_nil _ _) HHK.out.big.2.1 (by simp) HHK.out.big.2.2.1).mono ?_
            rintro e2 wb ⟨vb, rfl, hob, hbb⟩
            have hRb := HRa.out.next hbb
            have hoab := hoa.below hbb
            have HRb := Lib.hid hRb
            clear hE9 hRb hbb hoa
            go_wp2_with fail
            refine (same_any _ _ _ _ hoab.rdFs hob.rdFs).mono ?_
            rintro e3 wc ⟨rfl, hbc⟩
            have hRc := HRb.out.next hbc
            obtain ⟨F8, hD8, _⟩ := hRc.two.one.disk
            have HRc := Lib.hid hRc
            clear hoab hob hbc hRc
            go_wp2_with fail
            refine (waiting_any hD8 HHK.out.big.2.1).mono ?_
            rintro e4 wd ⟨rfl, hbd⟩
            have hRd := HRc.out.next hbd
            obtain ⟨G8, hE8, _⟩ := hRd.two.two.disk
            have HRd := Lib.hid hRd
            clear hD8 hbd hRd
            go_wp2_with fail
            refine (rwaiting_any hE8 HHK.out.big.2.1).mono ?_
            rintro e5 we ⟨rfl, hbe⟩
            have hRe := HRd.out.next hbe
            have HRe := Lib.hid hRe
            clear hE8 hbe hRe
            go_wp2_with fail
            exact ⟨⟨k + 1, _, _, _, _, _, _, by omega, rfl, rfl, by go_num, HRe.out.two, HHK.out, HRe.out.below⟩, by simp [intOf]; omega⟩
          | some p =>
            obtain ⟨cnt, bad⟩ := p
            obtain ⟨nd, rfl, hn0⟩ := id hR0.two.one
            obtain ⟨xd, rfl, hx0⟩ := id hR0.two.two
            go_wp2_with fail
            obtain ⟨gb, hgb⟩ : ∃ gb, gb = wr.heap.size := ⟨_, rfl⟩
            rw [← hgb] at hR0
            simp only [← hgb]
            have hgx : gb < (wr.alloc (.cells #[.int .i64 1, .int .i64 nn, .slice A1 b.length c1, .slice A2 ks.length c2] 43)).heap.size := by rw [hgb]; simp
            generalize wr.alloc _ = wx at *
            clear hgb
            have HHK := Lib.hid (HH.out.put HKL.out b HLEN.out)
            have hcl := HH.out.cnt cnt bad rfl
            have HPL := Lib.hid (lput_any (w := wx.drew) hn0 (.slice A1 b.length c1) b ((HAT.out.b.below hR0.below).more hR0.two.size) (by omega) HH.out.good HH.out.big.2.2.2 (by omega))
            have hR0d : RoundN w wx.drew B gb _ S T d e m m _ _ _ _ := hR0.next (Below.refl _ _).drew
            have HR0 := Lib.hid hR0d
            have z0 : wx.drew.cell? ⟨gb, 2, none⟩ = some (.slice A1 b.length c1) := hR0d.cell 2
            have hNlt : nd < wx.heap.size := blk_lt hn0.node
            have HX0 := Lib.hid hx0
            clear hn0 hx0 hR0 hR0d
            refine wp_region_held_drew (S := fun W => W.cell? ⟨gb, 2, none⟩ = some (.slice A1 b.length c1)) (by kernel_rfl) z0 (fun hHeld => ?_)
            clear hHeld
            refine wpAnyH_take (i := 0) (oi := _) (v := ?_) rfl (by kernel_rfl) (by kernel_rfl) (by kernel_rfl) (fun _ _ _ h => h) (Or.inl ⟨by rfl, ?_⟩) z0 ?_
            rotate_left
            · intro W hSW
              try (obtain ⟨sw0, sw1, sw2⟩ := hSW)
              try go_simp
              all_goals with_reducible rfl
            simp only [Act.put, List.setIfInBounds_toArray, List.set_cons_zero, List.set_cons_succ, List.getElem_toArray, List.getElem_cons_zero, List.getElem_cons_succ]
            refine wpAnyH_take (i := 1) (oi := _) (v := ?_) rfl (by kernel_rfl) (by kernel_rfl) (by kernel_rfl) (fun _ _ _ h => h) (Or.inl ⟨by rfl, ?_⟩) z0 ?_
            rotate_left
            · intro W hSW
              try (obtain ⟨sw0, sw1, sw2⟩ := hSW)
              try go_simp
              all_goals with_reducible rfl
            simp only [Act.put, List.setIfInBounds_toArray, List.set_cons_zero, List.set_cons_succ, List.getElem_toArray, List.getElem_cons_zero, List.getElem_cons_succ]
            refine wpAnyH_take (i := 2) (oi := _) (v := ?_) rfl (by kernel_rfl) (by kernel_rfl) (by kernel_rfl) (fun _ _ _ h => h) (Or.inl ⟨by rfl, ?_⟩) z0 ?_
            rotate_left
            · intro W hSW
              try (obtain ⟨sw0, sw1, sw2⟩ := hSW)
              try go_simp
              all_goals with_reducible rfl
            simp only [Act.put, List.setIfInBounds_toArray, List.set_cons_zero, List.set_cons_succ, List.getElem_toArray, List.getElem_cons_zero, List.getElem_cons_succ]
            refine wpAnyH_take (i := 3) (oi := _) (v := ?_) rfl (by kernel_rfl) (by kernel_rfl) (by kernel_rfl) (fun _ _ _ h => h) (Or.inl ⟨by rfl, ?_⟩) z0 ?_
            rotate_left
            · intro W hSW
              try (obtain ⟨sw0, sw1, sw2⟩ := hSW)
              try go_simp
              all_goals with_reducible rfl
            simp only [Act.put, List.setIfInBounds_toArray, List.set_cons_zero, List.set_cons_succ, List.getElem_toArray, List.getElem_cons_zero, List.getElem_cons_succ]
            refine wpAnyH_take (i := 4) (oi := _) (v := ?_) rfl (by kernel_rfl) (by kernel_rfl) (by kernel_rfl) (fun _ _ _ h => h) (Or.inl ⟨by rfl, ?_⟩) z0 ?_
            rotate_left
            · intro W hSW
              try (obtain ⟨sw0, sw1, sw2⟩ := hSW)
              try go_simp
              all_goals with_reducible rfl
            simp only [Act.put, List.setIfInBounds_toArray, List.set_cons_zero, List.set_cons_succ, List.getElem_toArray, List.getElem_cons_zero, List.getElem_cons_succ]
            refine wpAnyH_take (i := 5) (oi := _) (v := ?_) rfl (by kernel_rfl) (by kernel_rfl) (by kernel_rfl) (fun _ _ _ h => h) (Or.inl ⟨by rfl, ?_⟩) z0 ?_
            rotate_left
            · intro W hSW
              try (obtain ⟨sw0, sw1, sw2⟩ := hSW)
              try go_simp
              all_goals with_reducible rfl
            simp only [Act.put, List.setIfInBounds_toArray, List.set_cons_zero, List.set_cons_succ, List.getElem_toArray, List.getElem_cons_zero, List.getElem_cons_succ]
            refine wpAnyH_take (i := 7) (oi := _) (v := ?_) rfl (by kernel_rfl) (by kernel_rfl) (by kernel_rfl) (fun _ _ _ h => h) (Or.inl ⟨by rfl, ?_⟩) z0 ?_
            rotate_left
            · intro W hSW
              try (obtain ⟨sw0, sw1, sw2⟩ := hSW)
              try go_simp
              all_goals with_reducible rfl
            simp only [Act.put, List.setIfInBounds_toArray, List.set_cons_zero, List.set_cons_succ, List.getElem_toArray, List.getElem_cons_zero, List.getElem_cons_succ]
            refine wpAnyH_take (i := 8) (oi := _) (v := ?_) rfl (by kernel_rfl) (by kernel_rfl) (by kernel_rfl) (fun _ _ _ h => h) (Or.inl ⟨by rfl, ?_⟩) z0 ?_
            rotate_left
            · intro W hSW
              try (obtain ⟨sw0, sw1, sw2⟩ := hSW)
              try go_simp
              all_goals with_reducible rfl
            simp only [Act.put, List.setIfInBounds_toArray, List.set_cons_zero, List.set_cons_succ, List.getElem_toArray, List.getElem_cons_zero, List.getElem_cons_succ]
            refine wpAnyH_take (i := 9) (oi := _) (v := ?_) rfl (by kernel_rfl) (by kernel_rfl) (by kernel_rfl) (fun _ _ _ h => h) (Or.inl ⟨by rfl, ?_⟩) z0 ?_
            rotate_left
            · intro W hSW
              try (obtain ⟨sw0, sw1, sw2⟩ := hSW)
              try go_simp
              all_goals with_reducible rfl
            simp only [Act.put, List.setIfInBounds_toArray, List.set_cons_zero, List.set_cons_succ, List.getElem_toArray, List.getElem_cons_zero, List.getElem_cons_succ]
            refine wpAnyH_ready (rs := [6]) (by kernel_rfl) (by simp) (AllReadyH.cons rfl (fun K hK => ?_) AllReadyH.nil)
            go_simp
            refine HPL.out.mono ?_
            rintro e w3 ⟨rfl, hc3, hn3⟩
            try dsimp only
            have hR3 := HR0.out.left hc3 (LSide.of hn3)
            have hx3 : RNodeIn w3 T xd e cnt bad m := HX0.out.keep (w := wx.drew) hc3 (fun k hk hs => HR0.out.two.apart k hs hk)
            have hb3 := (HAT.out.b.below hR3.below).more hR3.two.size
            refine hK.out _ _ (hR3.cell 2) (fun _ => ?_)
            clear hK K
            try simp only [Act.put, List.setIfInBounds_toArray, List.set_cons_zero, List.set_cons_succ, List.getElem_toArray, List.getElem_cons_zero, List.getElem_cons_succ]
            refine wpAnyH_ready (rs := [10]) (by kernel_rfl) (by simp) (AllReadyH.cons rfl (fun K hK => ?_) AllReadyH.nil)
            go_simp
            refine (rput_any hx3 (.slice A1 b.length c1) b hb3 (by omega) HH.out.good HH.out.big.2.2.2 (by omega)).mono ?_
            rintro e w4 ⟨rfl, hc4, hx4⟩
            try dsimp only
            have hR4 := hR3.right hc4 (RSide.of hx4)
            have hnode := hR4.two.one.node.node
            have k1 : w4.cell? ⟨xd, 1, none⟩ = some (.int .i64 (putC cnt bad b m : Int)) := blk_cell hR4.two.two.node 1
            have k2 : w4.cell? ⟨xd, 2, none⟩ = some (.bool (putB cnt bad b m)) := blk_cell hR4.two.two.node 2
            refine hK.out _ _ (hR4.cell 2) (fun _ => ?_)
            clear hK K
            try simp only [Act.put, List.setIfInBounds_toArray, List.set_cons_zero, List.set_cons_succ, List.getElem_toArray, List.getElem_cons_zero, List.getElem_cons_succ]
            refine wpAnyH_stronger (S' := fun W => W.cell? ⟨xd, 1, none⟩ = some (.int .i64 (putC cnt bad b m : Int)) ∧ W.cell? ⟨xd, 2, none⟩ = some (.bool (putB cnt bad b m)) ∧ W.cell? ⟨gb, 2, none⟩ = some (.slice A1 b.length c1)) (fun _ h => h.2.2) _ _ _ _ ?_
            have hS4 := And.intro k1 (And.intro k2 (hR4.cell 2))
            refine wpAnyH_take (i := 11) (oi := _) (v := ?_) rfl (by kernel_rfl) (by kernel_rfl) (by kernel_rfl) (fun _ _ _ h => h) (Or.inl ⟨by rfl, ?_⟩) hS4 ?_
            rotate_left
            · intro W hSW
              try (obtain ⟨sw0, sw1, sw2⟩ := hSW)
              try go_simp
              all_goals with_reducible rfl
            simp only [Act.put, List.setIfInBounds_toArray, List.set_cons_zero, List.set_cons_succ, List.getElem_toArray, List.getElem_cons_zero, List.getElem_cons_succ]
            refine wpAnyH_take (i := 12) (oi := _) (v := ?_) rfl (by kernel_rfl) (by kernel_rfl) (by kernel_rfl) (fun _ _ _ h => h) (Or.inl ⟨by rfl, ?_⟩) hS4 ?_
            rotate_left
            · intro W hSW
              try (obtain ⟨sw0, sw1, sw2⟩ := hSW)
              try go_simp
              all_goals with_reducible rfl
            simp only [Act.put, List.setIfInBounds_toArray, List.set_cons_zero, List.set_cons_succ, List.getElem_toArray, List.getElem_cons_zero, List.getElem_cons_succ]
            refine wpAnyH_take (i := 13) (oi := _) (v := ?_) rfl (by kernel_rfl) (by kernel_rfl) (by kernel_rfl) (fun _ _ _ h => h) (Or.inl ⟨by rfl, ?_⟩) hS4 ?_
            rotate_left
            · intro W hSW
              try (obtain ⟨sw0, sw1, sw2⟩ := hSW)
              try go_simp
              all_goals with_reducible rfl
            simp only [Act.put, List.setIfInBounds_toArray, List.set_cons_zero, List.set_cons_succ, List.getElem_toArray, List.getElem_cons_zero, List.getElem_cons_succ]
            refine wpAnyH_take (i := 15) (oi := _) (v := ?_) rfl (by kernel_rfl) (by kernel_rfl) (by kernel_rfl) (fun _ _ _ h => h) (Or.inl ⟨by rfl, ?_⟩) hS4 ?_
            rotate_left
            · intro W hSW
              try (obtain ⟨sw0, sw1, sw2⟩ := hSW)
              try go_simp
              all_goals with_reducible rfl
            simp only [Act.put, List.setIfInBounds_toArray, List.set_cons_zero, List.set_cons_succ, List.getElem_toArray, List.getElem_cons_zero, List.getElem_cons_succ]
            refine wpAnyH_take (i := 16) (oi := _) (v := ?_) rfl (by kernel_rfl) (by kernel_rfl) (by kernel_rfl) (fun _ _ _ h => h) (Or.inl ⟨by rfl, ?_⟩) hS4 ?_
            rotate_left
            · intro W hSW
              try (obtain ⟨sw0, sw1, sw2⟩ := hSW)
              try go_simp
              all_goals with_reducible rfl
            simp only [Act.put, List.setIfInBounds_toArray, List.set_cons_zero, List.set_cons_succ, List.getElem_toArray, List.getElem_cons_zero, List.getElem_cons_succ]
            refine wpAnyH_take (i := 17) (oi := _) (v := ?_) rfl (by kernel_rfl) (by kernel_rfl) (by kernel_rfl) (fun _ _ _ h => h) (Or.inl ⟨by rfl, ?_⟩) hS4 ?_
            rotate_left
            · intro W hSW
              try (obtain ⟨sw0, sw1, sw2⟩ := hSW)
              try go_simp
              all_goals with_reducible rfl
            simp only [Act.put, List.setIfInBounds_toArray, List.set_cons_zero, List.set_cons_succ, List.getElem_toArray, List.getElem_cons_zero, List.getElem_cons_succ]
            refine wpAnyH_take (i := 18) (oi := _) (v := ?_) rfl (by kernel_rfl) (by kernel_rfl) (by kernel_rfl) (fun _ _ _ h => h) (Or.inl ⟨by rfl, ?_⟩) hS4 ?_
            rotate_left
            · intro W hSW
              try (obtain ⟨sw0, sw1, sw2⟩ := hSW)
              try go_simp
              all_goals with_reducible rfl
            simp only [Act.put, List.setIfInBounds_toArray, List.set_cons_zero, List.set_cons_succ, List.getElem_toArray, List.getElem_cons_zero, List.getElem_cons_succ]
            refine wpAnyH_ready (rs := [14]) (by kernel_rfl) (by simp) (AllReadyH.cons rfl (fun K hK => ?_) AllReadyH.nil)
            go_simp
            refine (count_any hnode).mono ?_
            rintro e w5 ⟨rfl, rfl⟩
            try dsimp only
            refine hK.out _ _ hS4 (fun _ => ?_)
            clear hK K
            try simp only [Act.put, List.setIfInBounds_toArray, List.set_cons_zero, List.set_cons_succ, List.getElem_toArray, List.getElem_cons_zero, List.getElem_cons_succ]
            refine wpAnyH_take (i := 19) (oi := _) (v := ?_) rfl (by kernel_rfl) (by kernel_rfl) (by kernel_rfl) (fun _ _ _ h => h) (Or.inl ⟨by rfl, ?_⟩) hS4 ?_
            rotate_left
            · intro W hSW
              try (obtain ⟨sw0, sw1, sw2⟩ := hSW)
              try go_simp
              all_goals with_reducible rfl
            simp only [Act.put, List.setIfInBounds_toArray, List.set_cons_zero, List.set_cons_succ, List.getElem_toArray, List.getElem_cons_zero, List.getElem_cons_succ]
            refine wpAnyH_take (i := 20) (oi := _) (v := ?_) rfl (by kernel_rfl) (by kernel_rfl) (by kernel_rfl) (fun _ _ _ h => h) (Or.inl ⟨by rfl, ?_⟩) hS4 ?_
            rotate_left
            · intro W hSW
              try (obtain ⟨sw0, sw1, sw2⟩ := hSW)
              try go_simp
              all_goals with_reducible rfl
            simp only [Act.put, List.setIfInBounds_toArray, List.set_cons_zero, List.set_cons_succ, List.getElem_toArray, List.getElem_cons_zero, List.getElem_cons_succ]
            refine wpAnyH_take (i := 21) (oi := _) (v := ?_) rfl (by kernel_rfl) (by kernel_rfl) (by kernel_rfl) (fun _ _ _ h => h) (Or.inl ⟨by rfl, ?_⟩) hS4 ?_
            rotate_left
            · intro W hSW
              try (obtain ⟨sw0, sw1, sw2⟩ := hSW)
              try go_simp
              all_goals with_reducible rfl
            simp only [Act.put, List.setIfInBounds_toArray, List.set_cons_zero, List.set_cons_succ, List.getElem_toArray, List.getElem_cons_zero, List.getElem_cons_succ]
            refine wpAnyH_take (i := 22) (oi := _) (v := ?_) rfl (by kernel_rfl) (by kernel_rfl) (by kernel_rfl) (fun _ _ _ h => h) (Or.inl ⟨by rfl, ?_⟩) hS4 ?_
            rotate_left
            · intro W hSW
              try (obtain ⟨sw0, sw1, sw2⟩ := hSW)
              try go_simp
              all_goals with_reducible rfl
            simp only [Act.put, List.setIfInBounds_toArray, List.set_cons_zero, List.set_cons_succ, List.getElem_toArray, List.getElem_cons_zero, List.getElem_cons_succ]
            refine wpAnyH_take (i := 24) (oi := _) (v := ?_) rfl (by kernel_rfl) (by kernel_rfl) (by kernel_rfl) (fun _ _ _ h => h) (Or.inl ⟨by rfl, ?_⟩) hS4 ?_
            rotate_left
            · intro W hSW
              try (obtain ⟨sw0, sw1, sw2⟩ := hSW)
              try go_simp
              all_goals with_reducible rfl
            simp only [Act.put, List.setIfInBounds_toArray, List.set_cons_zero, List.set_cons_succ, List.getElem_toArray, List.getElem_cons_zero, List.getElem_cons_succ]
            refine wpAnyH_take (i := 25) (oi := _) (v := ?_) rfl (by kernel_rfl) (by kernel_rfl) (by kernel_rfl) (fun _ _ _ h => h) (Or.inl ⟨by rfl, ?_⟩) hS4 ?_
            rotate_left
            · intro W hSW
              try (obtain ⟨sw0, sw1, sw2⟩ := hSW)
              try go_simp
              all_goals with_reducible rfl
            simp only [Act.put, List.setIfInBounds_toArray, List.set_cons_zero, List.set_cons_succ, List.getElem_toArray, List.getElem_cons_zero, List.getElem_cons_succ]
            refine wpAnyH_take (i := 26) (oi := _) (v := ?_) rfl (by kernel_rfl) (by kernel_rfl) (by kernel_rfl) (fun _ _ _ h => h) (Or.inl ⟨by rfl, ?_⟩) hS4 ?_
            rotate_left
            · intro W hSW
              try (obtain ⟨sw0, sw1, sw2⟩ := hSW)
              try go_simp
              all_goals with_reducible rfl
            simp only [Act.put, List.setIfInBounds_toArray, List.set_cons_zero, List.set_cons_succ, List.getElem_toArray, List.getElem_cons_zero, List.getElem_cons_succ]
            refine wpAnyH_take (i := 27) (oi := _) (v := ?_) rfl (by kernel_rfl) (by kernel_rfl) (by kernel_rfl) (fun _ _ _ h => h) (Or.inl ⟨by rfl, ?_⟩) hS4 ?_
            rotate_left
            · intro W hSW
              try (obtain ⟨sw0, sw1, sw2⟩ := hSW)
              try go_simp
              all_goals with_reducible rfl
            simp only [Act.put, List.setIfInBounds_toArray, List.set_cons_zero, List.set_cons_succ, List.getElem_toArray, List.getElem_cons_zero, List.getElem_cons_succ]
            refine wpAnyH_ready (rs := [23]) (by kernel_rfl) (by simp) (AllReadyH.cons rfl (fun K hK => ?_) AllReadyH.nil)
            go_simp
            refine (sick_any hnode).mono ?_
            rintro e w6 ⟨rfl, rfl⟩
            try dsimp only
            refine hK.out _ _ hS4 (fun _ => ?_)
            clear hK K
            try simp only [Act.put, List.setIfInBounds_toArray, List.set_cons_zero, List.set_cons_succ, List.getElem_toArray, List.getElem_cons_zero, List.getElem_cons_succ]
            refine wpAnyH_take (i := 28) (oi := _) (v := ?_) rfl (by kernel_rfl) (by kernel_rfl) (by kernel_rfl) (fun _ _ _ h => h) (Or.inl ⟨by rfl, ?_⟩) hS4 ?_
            rotate_left
            · intro W hSW
              try (obtain ⟨sw0, sw1, sw2⟩ := hSW)
              try go_simp
              all_goals with_reducible rfl
            simp only [Act.put, List.setIfInBounds_toArray, List.set_cons_zero, List.set_cons_succ, List.getElem_toArray, List.getElem_cons_zero, List.getElem_cons_succ]
            refine wpAnyH_take (i := 29) (oi := _) (v := ?_) rfl (by kernel_rfl) (by kernel_rfl) (by kernel_rfl) (fun _ _ _ h => h) (Or.inl ⟨by rfl, ?_⟩) hS4 ?_
            rotate_left
            · intro W hSW
              try (obtain ⟨sw0, sw1, sw2⟩ := hSW)
              try go_simp
              all_goals with_reducible rfl
            simp only [Act.put, List.setIfInBounds_toArray, List.set_cons_zero, List.set_cons_succ, List.getElem_toArray, List.getElem_cons_zero, List.getElem_cons_succ]
            refine wpAnyH_take (i := 30) (oi := _) (v := ?_) rfl (by kernel_rfl) (by kernel_rfl) (by kernel_rfl) (fun _ _ _ h => h) (Or.inl ⟨by rfl, ?_⟩) hS4 ?_
            rotate_left
            · intro W hSW
              try (obtain ⟨sw0, sw1, sw2⟩ := hSW)
              try go_simp
              all_goals with_reducible rfl
            simp only [Act.put, List.setIfInBounds_toArray, List.set_cons_zero, List.set_cons_succ, List.getElem_toArray, List.getElem_cons_zero, List.getElem_cons_succ]
            refine wpAnyH_done (by kernel_rfl) ?_ _
            clear hc3 hn3 hx3 hb3 hc4 hx4 hnode k1 k2 hR3 z0 hS4
            obtain ⟨F9, hD9, _⟩ := hR4.two.one.disk
            have HR9 := Lib.hid hR4
            clear hR4
            go_wp2_with fail
            refine (crash_any hD9 _ [] (rdL_nil _ _) HHK.out.big.2.1 HHK.out.big.2.2.1).mono ?_
            rintro e1 wa ⟨va, rfl, hoa, hba⟩
            have hRa := HR9.out.next hba
            obtain ⟨G9, hE9, _⟩ := hRa.two.two.disk
            have HRa := Lib.hid hRa
            clear hD9 hRa hba
            go_wp2_with fail
            refine (rcrash_any hE9 _ [] (rdL_nil _ _) HHK.out.big.2.1 (by simp) HHK.out.big.2.2.1).mono ?_
            rintro e2 wb ⟨vb, rfl, hob, hbb⟩
            have hRb := HRa.out.next hbb
            have hoab := hoa.below hbb
            have HRb := Lib.hid hRb
            clear hE9 hRb hbb hoa
            go_wp2_with fail
            refine (same_any _ _ _ _ hoab.rdFs hob.rdFs).mono ?_
            rintro e3 wc ⟨rfl, hbc⟩
            have hRc := HRb.out.next hbc
            obtain ⟨F8, hD8, _⟩ := hRc.two.one.disk
            have HRc := Lib.hid hRc
            clear hoab hob hbc hRc
            go_wp2_with fail
            refine (waiting_any hD8 HHK.out.big.2.1).mono ?_
            rintro e4 wd ⟨rfl, hbd⟩
            have hRd := HRc.out.next hbd
            obtain ⟨G8, hE8, _⟩ := hRd.two.two.disk
            have HRd := Lib.hid hRd
            clear hD8 hbd hRd
            go_wp2_with fail
            refine (rwaiting_any hE8 HHK.out.big.2.1).mono ?_
            rintro e5 we ⟨rfl, hbe⟩
            have hRe := HRd.out.next hbe
            have HRe := Lib.hid hRe
            clear hE8 hbe hRe
            go_wp2_with fail
            exact ⟨⟨k + 1, _, _, _, _, _, _, by omega, rfl, rfl, by go_num, HRe.out.two, HHK.out, HRe.out.below⟩, by simp [intOf]; omega⟩
        · go_wp2_with fail
          obtain ⟨gb, hgb⟩ : ∃ gb, gb = wr.heap.size := ⟨_, rfl⟩
          rw [← hgb] at hR0
          simp only [← hgb]
          have hgx : gb < (wr.alloc (.cells #[.int .i64 2, .int .i64 nn, .slice A1 b.length c1, .slice A2 ks.length c2] 43)).heap.size := by rw [hgb]; simp
          generalize wr.alloc _ = wx at *
          clear hgb

          refine (larm_any hR0.two.one nn hnn).mono ?_
          rintro e wA ⟨rfl, hcA, hlA⟩
          have hRA := hR0.left' hcA hlA
          have zA : wA.cell? ⟨gb, 1, none⟩ = some (.int .i64 nn) := hRA.cell 1
          clear hR0 hcA hlA hgx
          go_wp2_with fail
          refine (rarm_side hRA.two.two nn hnn).mono ?_
          rintro e wC ⟨rfl, hcC, hlC⟩
          have hRC := hRA.right' hcC hlC
          clear hRA hcC hlC zA
          have HHK := Lib.hid ((HH.out.arm nn).step HKL.out)

          obtain ⟨F9, hD9, _⟩ := hRC.two.one.disk
          have HR9 := Lib.hid hRC
          clear hRC
          go_wp2_with fail
          refine (crash_any hD9 _ [] (rdL_nil _ _) HHK.out.big.2.1 HHK.out.big.2.2.1).mono ?_
          rintro e1 wa ⟨va, rfl, hoa, hba⟩
          have hRa := HR9.out.next hba
          obtain ⟨G9, hE9, _⟩ := hRa.two.two.disk
          have HRa := Lib.hid hRa
          clear hD9 hRa hba
          go_wp2_with fail
          refine (rcrash_any hE9 _ [] (rdL_nil _ _) HHK.out.big.2.1 (by simp) HHK.out.big.2.2.1).mono ?_
          rintro e2 wb ⟨vb, rfl, hob, hbb⟩
          have hRb := HRa.out.next hbb
          have hoab := hoa.below hbb
          have HRb := Lib.hid hRb
          clear hE9 hRb hbb hoa
          go_wp2_with fail
          refine (same_any _ _ _ _ hoab.rdFs hob.rdFs).mono ?_
          rintro e3 wc ⟨rfl, hbc⟩
          have hRc := HRb.out.next hbc
          obtain ⟨F8, hD8, _⟩ := hRc.two.one.disk
          have HRc := Lib.hid hRc
          clear hoab hob hbc hRc
          go_wp2_with fail
          refine (waiting_any hD8 HHK.out.big.2.1).mono ?_
          rintro e4 wd ⟨rfl, hbd⟩
          have hRd := HRc.out.next hbd
          obtain ⟨G8, hE8, _⟩ := hRd.two.two.disk
          have HRd := Lib.hid hRd
          clear hD8 hbd hRd
          go_wp2_with fail
          refine (rwaiting_any hE8 HHK.out.big.2.1).mono ?_
          rintro e5 we ⟨rfl, hbe⟩
          have hRe := HRd.out.next hbe
          have HRe := Lib.hid hRe
          clear hE8 hbe hRe
          go_wp2_with fail
          exact ⟨⟨k + 1, _, _, _, _, _, _, by omega, rfl, rfl, by go_num, HRe.out.two, HHK.out, HRe.out.below⟩, by simp [intOf]; omega⟩
        · go_wp2_with fail
          obtain ⟨gb, hgb⟩ : ∃ gb, gb = wr.heap.size := ⟨_, rfl⟩
          rw [← hgb] at hR0
          simp only [← hgb]
          have hgx : gb < (wr.alloc (.cells #[.int .i64 3, .int .i64 nn, .slice A1 b.length c1, .slice A2 ks.length c2] 43)).heap.size := by rw [hgb]; simp
          generalize wr.alloc _ = wx at *
          clear hgb

          obtain ⟨g1, g2, g3, g4, g5⟩ := HH.out.good.new ks
          have HNEW := Lib.hid (And.intro g1 (And.intro g3 (And.intro (show ((crashM m.files ks).map fun f => f.2.length).sum ≤ 1000000000 from Nat.le_trans g4 HH.out.big.2.1) g5)))
          clear g1 g2 g3 g4 g5
          obtain ⟨F1, hD1, _⟩ := hR0.two.one.disk
          have hksx := (HAT.out.ks.below hR0.below).more hR0.two.size
          refine (crash_any hD1 _ ks hksx HH.out.big.2.1 HH.out.big.2.2.1).mono ?_
          rintro e1 w3 ⟨v3, rfl, ho3, hb3⟩
          have hR3 := hR0.next hb3
          have hg3 : gb < w3.heap.size := Nat.lt_of_lt_of_le hgx hb3.size
          clear hD1 hksx hR0 hb3 hgx
          go_wp2_with fail
          refine (load_some w3 v3 (crashM m.files ks) ho3.rdFs HNEW.out.2.2.1 HNEW.out.2.2.2 _ HNEW.out.1 HNEW.out.2.1).mono ?_
          rintro e2 w4 ⟨d', rfl, h4, hb4⟩
          have hR4 := hR3.next hb4
          have z4 : w4.cell? ⟨gb, 3, none⟩ = some (.slice A2 ks.length c2) := hR4.cell 3
          have hB3 := hR3.two.size
          have hs34 := hb4.size
          clear hR3 hb4 ho3
          go_wp2_with fail
          obtain ⟨G1, hE1, _⟩ := hR4.two.two.disk
          have hksx := (HAT.out.ks.below hR4.below).more hR4.two.size
          refine (rcrash_any hE1 _ ks hksx HH.out.big.2.1 (by omega) HH.out.big.2.2.1).mono ?_
          rintro e3 w5 ⟨v5, rfl, ho5, hb5⟩
          have hR5 := hR4.next hb5
          have hBs4 := hR4.two.size
          clear hE1 hksx hR4 z4
          go_wp2_with fail
          refine (rload_some w5 v5 (crashM m.files ks) ho5.rdFs HNEW.out.2.2.1 HNEW.out.2.2.2 _ HNEW.out.1 HNEW.out.2.1).mono ?_
          rintro e4 w6 ⟨e', rfl, h6, hb6⟩
          have hR6 := hR5.next hb6
          have hb46 : Below w4.heap.size w4 w6 := hb5.trans (hb6.mono hb5.size)
          obtain ⟨S6, T6, hR7⟩ := hR6.renew h4 hg3 hB3 h6 hb5.size hb46 hBs4 (Nat.lt_of_lt_of_le hg3 hs34)
          have HH3 := Lib.hid ((HH.out.crash ks).arm nn)
          have z6 : w6.cell? ⟨gb, 1, none⟩ = some (.int .i64 nn) := hR7.cell 1
          clear hR5 hR6 h4 h6 hb5 hb6 hb46 ho5 hB3 hBs4 hs34 hg3

          go_wp2_with fail
          refine (larm_any hR7.two.one nn hnn).mono ?_
          rintro e wA ⟨rfl, hcA, hlA⟩
          have hRA := hR7.left' hcA hlA
          have zA : wA.cell? ⟨gb, 1, none⟩ = some (.int .i64 nn) := hRA.cell 1
          clear hR7 hcA hlA z6
          go_wp2_with fail
          refine (rarm_side hRA.two.two nn hnn).mono ?_
          rintro e wC ⟨rfl, hcC, hlC⟩
          have hRC := hRA.right' hcC hlC
          clear hRA hcC hlC zA

          go_wp2_with fail
          refine (lopen_any hRC.two.one HH3.out.big.1).mono ?_
          rintro e w3 ⟨nv3, A3, c3, rfl, hl3, ho3, hc3⟩
          have hR3 := hRC.left hc3 hl3
          have hsz3 := hRC.two.two.lt
          have HSZ3 := Lib.hid hsz3
          clear hRC hl3 hc3 hsz3
          go_wp2_with fail
          refine (ropen_any hR3.two.two HH3.out.big.1).mono ?_
          rintro e w4 ⟨xv4, A4, c4, rfl, hl4, ho4, hc4⟩
          have hR4 := hR3.right hc4 hl4
          have ho34 := ho3.chg hc4 HSZ3.out
          have HH4 := Lib.hid HH3.out.open_
          clear hR3 hl4 hc4 ho3 HSZ3
          obtain ⟨p, q, rfl, rfl, hpq⟩ := hR4.two.pointers
          generalize openSt (openN _) = st4 at *
          generalize openN _ = r at *
          obtain ⟨x, m4, rs⟩ := r
          dsimp only at hR4 HH4 ho34 ho4 ⊢
          have hxx : (x != x) = false := by simp
          go_wp2_with fail
          refine (nsame_any _ _ _ rs ho34.rdR ho4.rdR).mono ?_
          rintro e w5 ⟨rfl, hb5⟩
          have hR5 := hR4.next hb5
          clear hR4 hb5 ho34 ho4
          have HHK := Lib.hid (HH4.out.step HKL.out)

          obtain ⟨F9, hD9, _⟩ := hR5.two.one.disk
          have HR9 := Lib.hid hR5
          clear hR5
          go_wp2_with fail
          refine (crash_any hD9 _ [] (rdL_nil _ _) HHK.out.big.2.1 HHK.out.big.2.2.1).mono ?_
          rintro e1 wa ⟨va, rfl, hoa, hba⟩
          have hRa := HR9.out.next hba
          obtain ⟨G9, hE9, _⟩ := hRa.two.two.disk
          have HRa := Lib.hid hRa
          clear hD9 hRa hba
          go_wp2_with fail
          refine (rcrash_any hE9 _ [] (rdL_nil _ _) HHK.out.big.2.1 (by simp) HHK.out.big.2.2.1).mono ?_
          rintro e2 wb ⟨vb, rfl, hob, hbb⟩
          have hRb := HRa.out.next hbb
          have hoab := hoa.below hbb
          have HRb := Lib.hid hRb
          clear hE9 hRb hbb hoa
          go_wp2_with fail
          refine (same_any _ _ _ _ hoab.rdFs hob.rdFs).mono ?_
          rintro e3 wc ⟨rfl, hbc⟩
          have hRc := HRb.out.next hbc
          obtain ⟨F8, hD8, _⟩ := hRc.two.one.disk
          have HRc := Lib.hid hRc
          clear hoab hob hbc hRc
          go_wp2_with fail
          refine (waiting_any hD8 HHK.out.big.2.1).mono ?_
          rintro e4 wd ⟨rfl, hbd⟩
          have hRd := HRc.out.next hbd
          obtain ⟨G8, hE8, _⟩ := hRd.two.two.disk
          have HRd := Lib.hid hRd
          clear hD8 hbd hRd
          go_wp2_with fail
          refine (rwaiting_any hE8 HHK.out.big.2.1).mono ?_
          rintro e5 we ⟨rfl, hbe⟩
          have hRe := HRd.out.next hbe
          have HRe := Lib.hid hRe
          clear hE8 hbe hRe
          go_wp2_with fail
          exact ⟨⟨k + 1, _, _, _, _, _, _, by omega, rfl, rfl, by go_num, HRe.out.two, HHK.out, HRe.out.below⟩, by simp [intOf]; omega⟩
        · go_wp2_with fail
          obtain ⟨gb, hgb⟩ : ∃ gb, gb = wr.heap.size := ⟨_, rfl⟩
          rw [← hgb] at hR0
          simp only [← hgb]
          have hgx : gb < (wr.alloc (.cells #[.int .i64 4, .int .i64 nn, .slice A1 b.length c1, .slice A2 ks.length c2] 43)).heap.size := by rw [hgb]; simp
          generalize wr.alloc _ = wx at *
          clear hgb

          refine (lopen_any hR0.two.one HH.out.big.1).mono ?_
          rintro e w3 ⟨nv3, A3, c3, rfl, hl3, ho3, hc3⟩
          have hR3 := hR0.left hc3 hl3
          have hsz3 := hR0.two.two.lt
          have HSZ3 := Lib.hid hsz3
          clear hR0 hl3 hc3 hsz3
          go_wp2_with fail
          refine (ropen_any hR3.two.two HH.out.big.1).mono ?_
          rintro e w4 ⟨xv4, A4, c4, rfl, hl4, ho4, hc4⟩
          have hR4 := hR3.right hc4 hl4
          have ho34 := ho3.chg hc4 HSZ3.out
          have HH4 := Lib.hid HH.out.open_
          clear hR3 hl4 hc4 ho3 HSZ3
          obtain ⟨p, q, rfl, rfl, hpq⟩ := hR4.two.pointers
          generalize openSt (openN _) = st4 at *
          generalize openN _ = r at *
          obtain ⟨x, m4, rs⟩ := r
          dsimp only at hR4 HH4 ho34 ho4 ⊢
          have hxx : (x != x) = false := by simp
          go_wp2_with fail
          refine (nsame_any _ _ _ rs ho34.rdR ho4.rdR).mono ?_
          rintro e w5 ⟨rfl, hb5⟩
          have hR5 := hR4.next hb5
          clear hR4 hb5 ho34 ho4
          have HHK := Lib.hid (HH4.out.step HKL.out)

          obtain ⟨F9, hD9, _⟩ := hR5.two.one.disk
          have HR9 := Lib.hid hR5
          clear hR5
          go_wp2_with fail
          refine (crash_any hD9 _ [] (rdL_nil _ _) HHK.out.big.2.1 HHK.out.big.2.2.1).mono ?_
          rintro e1 wa ⟨va, rfl, hoa, hba⟩
          have hRa := HR9.out.next hba
          obtain ⟨G9, hE9, _⟩ := hRa.two.two.disk
          have HRa := Lib.hid hRa
          clear hD9 hRa hba
          go_wp2_with fail
          refine (rcrash_any hE9 _ [] (rdL_nil _ _) HHK.out.big.2.1 (by simp) HHK.out.big.2.2.1).mono ?_
          rintro e2 wb ⟨vb, rfl, hob, hbb⟩
          have hRb := HRa.out.next hbb
          have hoab := hoa.below hbb
          have HRb := Lib.hid hRb
          clear hE9 hRb hbb hoa
          go_wp2_with fail
          refine (same_any _ _ _ _ hoab.rdFs hob.rdFs).mono ?_
          rintro e3 wc ⟨rfl, hbc⟩
          have hRc := HRb.out.next hbc
          obtain ⟨F8, hD8, _⟩ := hRc.two.one.disk
          have HRc := Lib.hid hRc
          clear hoab hob hbc hRc
          go_wp2_with fail
          refine (waiting_any hD8 HHK.out.big.2.1).mono ?_
          rintro e4 wd ⟨rfl, hbd⟩
          have hRd := HRc.out.next hbd
          obtain ⟨G8, hE8, _⟩ := hRd.two.two.disk
          have HRd := Lib.hid hRd
          clear hD8 hbd hRd
          go_wp2_with fail
          refine (rwaiting_any hE8 HHK.out.big.2.1).mono ?_
          rintro e5 we ⟨rfl, hbe⟩
          have hRe := HRd.out.next hbe
          have HRe := Lib.hid hRe
          clear hE8 hbe hRe
          go_wp2_with fail
          exact ⟨⟨k + 1, _, _, _, _, _, _, by omega, rfl, rfl, by go_num, HRe.out.two, HHK.out, HRe.out.below⟩, by simp [intOf]; omega⟩
        · obtain ⟨f1, f2, f3, f4⟩ := And.intro f1 (And.intro f2 (And.intro f3 f4))
          go_wp2_with fail
          generalize wr.alloc _ = wx at *
          generalize wr.heap.size = gb at *
          have HHK := Lib.hid (HH.out.step HKL.out)

          obtain ⟨F9, hD9, _⟩ := hR0.two.one.disk
          have HR9 := Lib.hid hR0
          clear hR0
          go_wp2_with fail
          refine (crash_any hD9 _ [] (rdL_nil _ _) HHK.out.big.2.1 HHK.out.big.2.2.1).mono ?_
          rintro e1 wa ⟨va, rfl, hoa, hba⟩
          have hRa := HR9.out.next hba
          obtain ⟨G9, hE9, _⟩ := hRa.two.two.disk
          have HRa := Lib.hid hRa
          clear hD9 hRa hba
          go_wp2_with fail
          refine (rcrash_any hE9 _ [] (rdL_nil _ _) HHK.out.big.2.1 (by simp) HHK.out.big.2.2.1).mono ?_
          rintro e2 wb ⟨vb, rfl, hob, hbb⟩
          have hRb := HRa.out.next hbb
          have hoab := hoa.below hbb
          have HRb := Lib.hid hRb
          clear hE9 hRb hbb hoa
          go_wp2_with fail
          refine (same_any _ _ _ _ hoab.rdFs hob.rdFs).mono ?_
          rintro e3 wc ⟨rfl, hbc⟩
          have hRc := HRb.out.next hbc
          obtain ⟨F8, hD8, _⟩ := hRc.two.one.disk
          have HRc := Lib.hid hRc
          clear hoab hob hbc hRc
          go_wp2_with fail
          refine (waiting_any hD8 HHK.out.big.2.1).mono ?_
          rintro e4 wd ⟨rfl, hbd⟩
          have hRd := HRc.out.next hbd
          obtain ⟨G8, hE8, _⟩ := hRd.two.two.disk
          have HRd := Lib.hid hRd
          clear hD8 hbd hRd
          go_wp2_with fail
          refine (rwaiting_any hE8 HHK.out.big.2.1).mono ?_
          rintro e5 we ⟨rfl, hbe⟩
          have hRe := HRd.out.next hbe
          have HRe := Lib.hid hRe
          clear hE8 hbe hRe
          go_wp2_with fail
          exact ⟨⟨k + 1, _, _, _, _, _, _, by omega, rfl, rfl, by go_num, HRe.out.two, HHK.out, HRe.out.below⟩, by simp [intOf]; omega⟩
      · obtain rfl : k = n := by omega
        have i2 : ¬ (k : Int) < (k : Int) := by omega
        go_wp2_with fail
        go_ret
        exact ⟨rfl, by rw [← HB.out]; exact hBr⟩
  · have hbad : loadL fs [] = none ∨ 16 < fs.length := by
      by_cases h16 : fs.length ≤ 16
      · left
        cases hl : loadL fs [] with
        | none => rfl
        | some l => exact absurd ⟨h16, l, hl⟩ hgood
      · right; omega
    have HBAD := Lib.hid hbad
    clear hbad hgood
    go_wp2_with fail
    refine (load_none w0 v fs hr1 (by omega) hnl HBAD.out).mono ?_
    rintro e w1 ⟨rfl, hb1⟩
    have hB1 : Below B w w1 := hB0.trans (hb1.mono hs0)
    have hs1 : B ≤ w1.heap.size := Nat.le_trans hs0 hb1.size
    clear hb1
    go_wp2_with fail
    refine (rload_none w1 v fs ((hr0.below hB1).more hs1) (by omega) hnl HBAD.out).mono ?_
    rintro e w2 ⟨⟨p, rfl⟩, hb2⟩
    have hB2 := hB1.trans (hb2.mono hs1)
    clear hB1 hb2
    go_wp2_with fail
    go_ret
    exact ⟨rfl, by rw [← HB.out]; exact hB2⟩
end Go.Proofs.Ytbbpkenbeenocaa
