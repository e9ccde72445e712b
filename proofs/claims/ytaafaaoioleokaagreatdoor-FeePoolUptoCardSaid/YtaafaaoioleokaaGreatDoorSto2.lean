
/- isthmusref09.New, walked: does it take the pairs? -/
import Derived.Test.YtaafaaoioleokaaGreatDoorStoA1
import Derived.Test.YtaafaaoioleokaaGreatDoorPrX
import Derived.Test.YtaafaaoioleokaaGreatDoorRStoG
import Derived.Deep.RegionLaw
import Derived.BigQuiet
namespace Go.Proofs.YtaafaaoioleokaaGreatDoor
set_option maxRecDepth 100000
open Go Go.RowKit
set_option linter.unusedVariables false

theorem rtakes_any (s : ByteArray) (v : Value) (l : List UInt8) (w : World) (hs : s.size ≤ maxLen) (hr : Rd w w.heap.size v l) : Calls Tryz.prog 78 #[.string s, v] w fun e w' => e = .returned (.bool (pairB (s, l))) ∧ w = w' := by
  obtain ⟨A, c, rfl, hc, hm, _⟩ := hr
  unfold maxLen at hs hm
  by_cases h1 : 1 ≤ s.size
  · by_cases h2 : s.size ≤ 200
    · by_cases h3 : l.length ≤ 65535
      · have e : pairB (s, l) = true := by simp [pairB, keyB, h1, h2, h3]
        have i1 : (1 : Int) ≤ (s.size : Int) := by omega
        have i2 : (s.size : Int) ≤ 200 := by omega
        have i3 : (l.length : Int) ≤ 65535 := by omega
        rw [e]; clear e
        go_enter Tryz.func78, Tryz.ntmps78
        go_wp2
        go_ret
        exact ⟨rfl, rfl⟩
      · have e : pairB (s, l) = false := by simp [pairB, h3]
        have i1 : (1 : Int) ≤ (s.size : Int) := by omega
        have i2 : (s.size : Int) ≤ 200 := by omega
        have i3 : ¬ (l.length : Int) ≤ 65535 := by omega
        rw [e]; clear e
        go_enter Tryz.func78, Tryz.ntmps78
        go_wp2
        go_ret
        exact ⟨rfl, rfl⟩
    · have e : pairB (s, l) = false := by simp [pairB, keyB, h2]
      have i1 : (1 : Int) ≤ (s.size : Int) := by omega
      have i2 : ¬ (s.size : Int) ≤ 200 := by omega
      rw [e]; clear e
      go_enter Tryz.func78, Tryz.ntmps78
      go_wp2
      go_ret
      exact ⟨rfl, rfl⟩
  · have e : pairB (s, l) = false := by simp [pairB, keyB, h1]
    have i1 : ¬ (1 : Int) ≤ (s.size : Int) := by omega
    rw [e]; clear e
    go_enter Tryz.func78, Tryz.ntmps78
    go_wp2
    go_ret
    exact ⟨rfl, rfl⟩
theorem rtakes_quiet (s : ByteArray) (v : Value) (l : List UInt8) (w : World) (n : Nat) (hs : s.size ≤ maxLen) (hr : Rd w w.heap.size v l) : Calls Tryz.prog 78 #[.string s, v] (w.drewN n) fun e w' => e = .returned (.bool (pairB (s, l))) ∧ ∃ k, w' = w.drewN k := by
  refine (rtakes_any s v l (w.drewN n) hs hr).mono ?_
  rintro e w' ⟨rfl, rfl⟩
  exact ⟨rfl, n, rfl⟩

set_option maxHeartbeats 8000000 in
theorem rnew_doc (w : World) (v : Value) (ps : List Pr) (hr : RdP w w.heap.size v ps) (hnl : ∀ p ∈ ps, p.1.size ≤ maxLen) (hvl : ∀ p ∈ ps, p.2.length ≤ 2000000) (hn1 : ps.length ≤ 2000000) :
    Calls Tryz.prog 21 #[v] w fun e w' => ((ordR none ps = false ∧ e = .returned (.tuple #[.pointer none, .int .i64 60])) ∨ (ordR none ps = true ∧ ∃ b, e = .returned (.tuple #[.pointer (some ⟨b, 0, none⟩), .int .i64 0]) ∧ w.heap.size ≤ b ∧ DocS w' b ps)) ∧ Below w.heap.size w w' := by
  obtain ⟨i0, hi0, hz, hsz, hby⟩ := info_parts Tryz.infoPairL
  obtain ⟨j0, hj0, hjz, hjs, hjb⟩ := info_parts Tryz.infoByte
  obtain ⟨A, c, rfl, hc, hm, hp⟩ := hr
  unfold maxLen at hm
  obtain ⟨n, hn⟩ : ∃ n, n = ps.length := ⟨_, rfl⟩
  rw [← hn] at hc hn1 ⊢
  have HN := Lib.hid hn
  have HP := Lib.hid hp
  have HL := Lib.hid hnl
  have HVL := Lib.hid hvl
  clear hp hnl hn hvl
  go_enter Tryz.func21, Tryz.ntmps21
  go_wp2_with fail
  have HZ : Hid (OwnP 0 (w.alloc (.cells #[.slice none 0 0, .pointer none, .slice none 0 0] 134)) (w.heap.size + 1) (.slice none 0 0) [] ∧ (w.alloc (.cells #[.slice none 0 0, .pointer none, .slice none 0 0] 134)).heap[w.heap.size]? = some (.cells #[.slice none 0 0, .pointer none, .slice none 0 0] 134 (0, 0)) ∧ Below w.heap.size w (w.alloc (.cells #[.slice none 0 0, .pointer none, .slice none 0 0] 134))) := Lib.hid ⟨OwnX.nil _ _, heap_alloc_new _ _, (Below.refl _ _).alloc (Nat.le_refl _) _⟩
  go_loopw [11] (fun i wr => ∃ k : Nat, k ≤ n ∧ i = .int .i64 (k : Int) ∧ Below w.heap.size w wr ∧ Hid (ordR none ps = ordR (prevK ps k) (ps.drop k)) ∧ Hid (∃ Ab cb, wr.heap[w.heap.size]? = some (.cells #[.slice Ab k cb, .pointer none, .slice none 0 0] 134 (0, 0)) ∧ OwnP 0 wr (w.heap.size + 1) (.slice Ab k cb) (ps.take k)))
    (fun i _ => n - (intOf i).toNat)
  case atStart => exact ⟨0, Nat.zero_le _, rfl, HZ.out.2.2, Lib.hid (by simp [prevK]), Lib.hid ⟨_, _, HZ.out.2.1, HZ.out.1⟩⟩
  case round =>
    clear HZ
    obtain ⟨k, hk, rfl, hb, HR, HO⟩ := hrel
    by_cases hlt : k < n
    · have hkl : k < ps.length := by have := HN.out; omega
      obtain ⟨b0, o, rfl, hbl, hcell⟩ := HP.out (by omega)
      obtain ⟨q1, x, q2, q3⟩ := hcell k hkl
      have a1 := (hb.cell (p := ⟨b0, o + k * 2, none⟩) hbl).trans q1
      have a2 := (hb.cell (p := ⟨b0, o + k * 2 + 1, none⟩) hbl).trans q2
      have hks := HL.out _ (List.getElem_mem hkl)
      have hvk := HVL.out _ (List.getElem_mem hkl)
      have i1 : (0 : Int) ≤ (k : Int) := by omega
      have i2 : (k : Int) < (n : Int) := by omega
      have hst := ordR_step ps k hkl
      have hrd := HR.out
      rw [← hrd] at hst
      have hgo : pairB ps[k] = true → (∀ a, prevK ps k = some a → ltS a ps[k].1 = true) → ordR none ps = ordR (prevK ps (k + 1)) (ps.drop (k + 1)) := fun hpb hlt' => by
        rw [hst, hpb]
        cases hpk : prevK ps k with
        | none => rfl
        | some a => rw [hpk] at hlt'; simp [hlt' a rfl]
      have hbadP : pairB ps[k] = false → ordR none ps = false := fun e => by rw [hst, e]; rfl
      have hbadO : ∀ a, prevK ps k = some a → ltS a ps[k].1 = false → ordR none ps = false := fun a e e' => by rw [hst, e]; dsimp only; rw [e']; simp
      obtain ⟨Ax, cx, rfl⟩ := q3.form
      have hxl : (ps[k].2).length ≤ 9223372036854775807 := q3.len
      obtain ⟨Ab, cb, hG, ho⟩ := HO.out
      have hbz : Below wr.heap.size wr (wr.alloc (.cells #[.string ps[k].1, .slice Ax ps[k].2.length cx] 76)) := (Below.refl _ _).alloc (Nat.le_refl _) _
      have hbx := hb.alloc hb.size (.cells #[.string ps[k].1, .slice Ax ps[k].2.length cx] 76)
      have hrx := (q3.below hbx).more hbx.size
      have hcs := heap_alloc_new wr (.cells #[.string ps[k].1, .slice Ax ps[k].2.length cx] 76)
      have hlz1 : wr.heap.size < (wr.alloc (.cells #[.string ps[k].1, .slice Ax ps[k].2.length cx] 76)).heap.size := by simp
      have hGz := (hbz.block w.heap.size (blk_lt hG)).trans hG
      have hoz := OwnP.up ho hbz
      have hprev : ∀ (q : Nat) (hq : q + 1 = k), (wr.alloc (.cells #[.string ps[k].1, .slice Ax ps[k].2.length cx] 76)).cell? ⟨b0, o + q * 2, none⟩ = some (.string (ps[q]'(by omega)).1) := fun q hq =>
        (hbx.cell (p := ⟨b0, o + q * 2, none⟩) hbl).trans (hcell q (by omega)).1
      have hpk : ∀ (q : Nat) (hq : q + 1 = k), prevK ps k = some (ps[q]'(by omega)).1 := fun q hq => by
        subst hq
        unfold prevK
        rw [if_neg (by omega), Nat.add_sub_cancel, List.getElem?_eq_getElem (by omega)]
        rfl
      have hp0 : k = 0 → prevK ps k = none := fun h0 => by unfold prevK; rw [if_pos h0]
      have HF := Lib.hid (And.intro hgo (And.intro hbadP (And.intro hbadO (And.intro hpk hp0))))
      have HX := Lib.hid (And.intro hbx (And.intro hrx (And.intro hGz hoz)))
      have HPV := Lib.hid hprev
      have HTK : Hid (ps.take (k + 1) = ps.take k ++ [ps[k]]) := Lib.hid (List.take_append_getElem hkl).symm
      clear hgo hbadP hbadO hst hrd hcell hrx HR hprev hpk hp0 hG ho hGz hoz HO hbx hbz
      have HPS : Hid (ps[k] = (ps[k].1, ps[k].2)) := Lib.hid rfl
      clear q1 q2 q3
      generalize hpsk1 : ps[k].1 = s at *
      generalize hpsk2 : ps[k].2 = L at *
      clear hpsk1 hpsk2
      go_wp2_with fail
      have z0 : (wr.alloc (.cells #[.string s, .slice Ax L.length cx] 76)).cell? ⟨wr.heap.size, 0, none⟩ = some (.string s) := blk_cell hcs 0
      have z1 : (wr.alloc (.cells #[.string s, .slice Ax L.length cx] 76)).cell? ⟨wr.heap.size, 1, none⟩ = some (.slice Ax L.length cx) := blk_cell hcs 1
      clear hcs a1 a2
      generalize wr.alloc (.cells #[.string s, .slice Ax L.length cx] 76) = W1 at *
      cases hpb : pairB (s, L) with
      | false =>
        have HT : Hid (∀ m, Calls Tryz.prog 78 #[.string s, .slice Ax L.length cx] (W1.drewN m) fun e w' => e = .returned (.bool false) ∧ ∃ k, w' = W1.drewN k) := Lib.hid fun m => by have := rtakes_quiet s _ L W1 m hks HX.out.2.1; rw [hpb] at this; exact this
        have HRf : Hid (ordR none ps = false) := Lib.hid (HF.out.2.1 (by rw [HPS.out]; exact hpb))
        have hbx2 := HX.out.1
        clear hpb
        go_wp2_with fail
        go_quiet ((go_at_call 78; with_reducible exact HT.out _))
        go_wp2_with fail
        go_ret2
        exact ⟨Or.inl ⟨HRf.out, rfl⟩, below_drewN' hbx2 _⟩
      | true =>
        have HT : Hid (∀ m, Calls Tryz.prog 78 #[.string s, .slice Ax L.length cx] (W1.drewN m) fun e w' => e = .returned (.bool true) ∧ ∃ k, w' = W1.drewN k) := Lib.hid fun m => by have := rtakes_quiet s _ L W1 m hks HX.out.2.1; rw [hpb] at this; exact this
        have HPB := Lib.hid hpb
        clear hpb
        by_cases h0 : k = 0
        · have HLT : Hid (∀ a, prevK ps k = some a → ltS a s = true) := Lib.hid fun a e => by rw [HF.out.2.2.2.2 h0] at e; cases e
          have j1 : ¬ (0 : Int) < (k : Int) := by omega
          have j2 : decide (0 < k) = false := by simp [h0]
          clear h0
          have HG := Lib.hid (HF.out.1 (by rw [HPS.out]; exact HPB.out) HLT.out)
          clear HPB
          go_wp2_with fail
          go_quiet ((go_at_call 78; with_reducible exact HT.out _))
          go_wp2_with fail
          clear HT
          have hW2 : ∃ W2 : World, W2 = W1.drewN nq := ⟨_, rfl⟩
          obtain ⟨W2, hW2⟩ := hW2
          have hz0 : W2.cell? ⟨wr.heap.size, 0, none⟩ = some (.string s) := by rw [hW2]; exact z0
          have hz1 : W2.cell? ⟨wr.heap.size, 1, none⟩ = some (.slice Ax L.length cx) := by rw [hW2]; exact z1
          have hG2 : W2.heap[w.heap.size]? = some (.cells #[.slice Ab k cb, .pointer none, .slice none 0 0] 134 (0, 0)) := by rw [hW2]; exact HX.out.2.2.1
          have ho2 : OwnP 0 W2 (w.heap.size + 1) (.slice Ab k cb) (ps.take k) := by rw [hW2]; exact HX.out.2.2.2
          have hrx2 : Rd W2 W2.heap.size (.slice Ax L.length cx) L := by rw [hW2]; exact HX.out.2.1
          have hb2 : Below w.heap.size w W2 := by rw [hW2]; exact below_drewN' HX.out.1 _
          have hl2 : w.heap.size < W2.heap.size := blk_lt hG2
          have hlz : wr.heap.size < W2.heap.size := by rw [hW2]; exact hlz1
          rw [← hW2]
          clear hW2 z0 z1 HX hlz1
          generalize ps.take k = K at *
          have hbE : Below W2.heap.size W2 (W2.alloc (.cells #[] 5)) := (Below.refl _ _).alloc (Nat.le_refl _) _
          have hED : Own (W2.alloc (.cells #[] 5)).drew W2.heap.size (.slice (some ⟨W2.heap.size, 0, none⟩) 0 0) [] := own_empty W2 (Nat.le_refl _)
          have hbD : Below W2.heap.size W2 (W2.alloc (.cells #[] 5)).drew := hbE.drew
          have HLE := Lib.hid (show W2.heap.size ≤ (W2.alloc (.cells #[] 5)).drew.heap.size by simp)
          have hrD := hrx2.up (Nat.le_refl _) hbD
          have hy0 : W2.drew.cell? ⟨wr.heap.size, 0, none⟩ = some (.string s) := hz0
          have hy1 : W2.drew.cell? ⟨wr.heap.size, 1, none⟩ = some (.slice Ax L.length cx) := hz1
          have hy2 : W2.drew.cell? ⟨w.heap.size, 0, none⟩ = some (.slice Ab k cb) := blk_cell hG2 0
          have hx0 : (W2.alloc (.cells #[] 5)).drew.cell? ⟨wr.heap.size, 0, none⟩ = some (.string s) := (hbD.cell (p := ⟨wr.heap.size, 0, none⟩) hlz).trans hz0
          have hx1 : (W2.alloc (.cells #[] 5)).drew.cell? ⟨wr.heap.size, 1, none⟩ = some (.slice Ax L.length cx) := (hbD.cell (p := ⟨wr.heap.size, 1, none⟩) hlz).trans hz1
          have hx2 : (W2.alloc (.cells #[] 5)).drew.cell? ⟨w.heap.size, 0, none⟩ = some (.slice Ab k cb) := (hbD.cell (p := ⟨w.heap.size, 0, none⟩) hl2).trans (blk_cell hG2 0)
          have HKl : Hid (K.length = k) := Lib.hid (by obtain ⟨_, _, h⟩ := ho2.form; injection h with _ h _; exact h.symm)
          go_region_law (first
            | (refine wp_append_rd (.tmp 44) (.tmp 46) _ rfl j0 Tryz.underlying37 hj0 hjz hjs hjb rfl hED rfl hrD (by simp; omega) HLE.out ?_; intro v5 w5 ho5 hg5 _; have hb5 : Below W2.heap.size W2 w5 := hbD.grown hg5 HLE.out (fun k hk => (hED.lt k hk).1); replace ho5 : Own w5 W2.heap.size v5 L := ho5; obtain ⟨A5, c5, rfl⟩ := ho5.form; have hx6 := hb5.alloc hb5.size (.cells #[.string s, .slice A5 L.length c5] 76); have hbx6 : Below w5.heap.size w5 (w5.alloc (.cells #[.string s, .slice A5 L.length c5] 76)) := (Below.refl _ _).alloc (Nat.le_refl _) _; have hgz6 := heap_alloc_new w5 (.cells #[.string s, .slice A5 L.length c5] 76); have hpc5 : PrC 0 w5 [.string s, .slice A5 L.length c5] (s, L) := ⟨_, rfl, ho5.rdS⟩; have hpc6 := hpc5.up hbx6; have hob6 := OwnP.up ho2 hx6; have hq6 := below_chain hb2 hb2.size hx6; have hws6 : w.heap.size + 1 ≤ (w5.alloc (.cells #[.string s, .slice A5 L.length c5] 76)).heap.size := (Nat.le_trans hl2 hx6.size); have e50 := (hb5.cell (p := ⟨wr.heap.size, 0, none⟩) hlz).trans hz0; have e52 : w5.cell? ⟨w.heap.size, 0, none⟩ = some (.slice Ab k cb) := (hb5.cell (p := ⟨w.heap.size, 0, none⟩) hl2).trans (blk_cell hG2 0); have e62 := (hbx6.cell (p := ⟨w.heap.size, 0, none⟩) (Nat.lt_of_lt_of_le hl2 hb5.size)).trans e52; have e60 := (hbx6.cell (p := ⟨wr.heap.size, 0, none⟩) (Nat.lt_of_lt_of_le hlz hb5.size)).trans e50)
            | (refine wp_append_x (B0 := 0) (b := w5.heap.size) (off := 0) (.tmp 41) (.tmp 49) _ rfl i0 _ 40 Tryz.underlying22 hi0 hz hsz hby rfl (by decide) rfl hob6 rfl _ hpc6.len (fun j hj => (by rw [Nat.zero_add]; exact pairCells_get hgz6 j hj)) hpc6.one hpc6 (fun w' c a hc hg => hc.grow hg (by decide)) (Nat.zero_le _) (by unfold maxLen; have := HKl.out; omega) (by have := HKl.out; omega) hws6 ?_; intro v7 w7 ho7 hg7; have hG7 := (hg7.block w.heap.size (Nat.lt_of_lt_of_le hl2 hx6.size) (fun e => by have := (OwnX.lt hob6 _ e.symm).1; omega)).trans ((hx6.block w.heap.size hl2).trans hG2); have hbo := OwnX.below (B := w.heap.size) (OwnX.more hob6 (Nat.le_succ _)) hq6 (Nat.le_trans (Nat.le_succ _) hws6) hg7; have e70 : w7.cell? ⟨w.heap.size, 0, none⟩ = some (.slice Ab k cb) := blk_cell hG7 0; have e7f := blk_free hG7 0; obtain ⟨A7, c7, hv7⟩ : ∃ A c, v7 = .slice A (k + 1) c := (by obtain ⟨A, c, h⟩ := ho7.form; exact ⟨A, c, by rw [h, List.length_append, HKl.out]; rfl⟩); subst hv7))
          all_goals (
            have hgs := grown_set (World.grownBy.refl w7 (some w.heap.size)) 0 (.slice A7 (k + 1) c7)
            have hgr := grow_of (B0 := 0) hgs (Nat.zero_le _) hG7
            have ho8 : OwnP 0 (w7.setCell ⟨w.heap.size, 0, none⟩ (.slice A7 (k + 1) c7)) (w.heap.size + 1) (.slice A7 (k + 1) c7) (K ++ [(s, L)]) := OwnX.grow ho7 hgr (by decide) (fun c a h => h.grow hgr (by decide))
            have hG8 : (w7.setCell ⟨w.heap.size, 0, none⟩ (.slice A7 (k + 1) c7)).heap[w.heap.size]? = some (.cells #[.slice A7 (k + 1) c7, .pointer none, .slice none 0 0] 134 (0, 0)) := by simpa using blk_set hG7 0 (.slice A7 (k + 1) c7)
            have hb8 := hbo.setCell (p := ⟨w.heap.size, 0, none⟩) (Nat.le_refl _) (.slice A7 (k + 1) c7)
            have H8 := Lib.hid (And.intro ho8 (And.intro hG8 hb8))
            clear hgs hgr ho8 hG8 hb8 ho7 hg7 hG7 hbo e70 e7f hgz6 hob6 hpc6 hpc5 hq6 hx6 hbx6 hb5 ho5 hg5 e50 e52 e60 e62 hws6
            generalize (w7.setCell ⟨w.heap.size, 0, none⟩ (.slice A7 (k + 1) c7)) = W9 at *
            go_wp2_with fail
            exact ⟨⟨k + 1, by omega, by go_num, H8.out.2.2, HG, Lib.hid ⟨A7, c7, H8.out.2.1, by rw [HTK.out, HPS.out]; exact H8.out.1⟩⟩, by simp [intOf]; omega⟩)
        · obtain ⟨q, hq⟩ : ∃ q, q + 1 = k := ⟨k - 1, by omega⟩
          have hcq := HPV.out q hq
          have hpq := HF.out.2.2.2.1 q hq
          have j1 : (0 : Int) < (k : Int) := by omega
          have j2 : IntKind.i64.wrap ((k : Int) - 1) = (q : Int) := by rw [IntKind.wrap_i64]; omega
          have j3 : (q : Int) < (n : Int) := by omega
          have j4 : (0 : Int) ≤ (q : Int) := by omega
          have j5 : decide (0 < k) = true := by simp; omega
          have hql : q < ps.length := by omega
          generalize (ps[q]'(by omega)).1 = s0 at *
          clear hq h0
          cases hlt0 : ltS s0 s with
          | false =>
            have hl : Op.bytesLess s0.toList s.toList = false := hlt0
            have HRf : Hid (ordR none ps = false) := Lib.hid (HF.out.2.2.1 s0 hpq hlt0)
            have hbx2 := HX.out.1
            clear hlt0 hpq
            go_wp2_with fail
            go_quiet ((go_at_call 78; with_reducible exact HT.out _))
            go_wp2_with fail
            go_ret2
            exact ⟨Or.inl ⟨HRf.out, rfl⟩, below_drewN' hbx2 _⟩
          | true =>
            have hl : Op.bytesLess s0.toList s.toList = true := hlt0
            have HLT : Hid (∀ a, prevK ps k = some a → ltS a s = true) := Lib.hid fun a e => by rw [hpq] at e; injection e with e; rw [← e]; exact hlt0
            clear hlt0 hpq
            have HG := Lib.hid (HF.out.1 (by rw [HPS.out]; exact HPB.out) HLT.out)
            clear HPB
            go_wp2_with fail
            go_quiet ((go_at_call 78; with_reducible exact HT.out _))
            go_wp2_with fail
            clear HT
            have hW2 : ∃ W2 : World, W2 = W1.drewN nq := ⟨_, rfl⟩
            obtain ⟨W2, hW2⟩ := hW2
            have hz0 : W2.cell? ⟨wr.heap.size, 0, none⟩ = some (.string s) := by rw [hW2]; exact z0
            have hz1 : W2.cell? ⟨wr.heap.size, 1, none⟩ = some (.slice Ax L.length cx) := by rw [hW2]; exact z1
            have hG2 : W2.heap[w.heap.size]? = some (.cells #[.slice Ab k cb, .pointer none, .slice none 0 0] 134 (0, 0)) := by rw [hW2]; exact HX.out.2.2.1
            have ho2 : OwnP 0 W2 (w.heap.size + 1) (.slice Ab k cb) (ps.take k) := by rw [hW2]; exact HX.out.2.2.2
            have hrx2 : Rd W2 W2.heap.size (.slice Ax L.length cx) L := by rw [hW2]; exact HX.out.2.1
            have hb2 : Below w.heap.size w W2 := by rw [hW2]; exact below_drewN' HX.out.1 _
            have hl2 : w.heap.size < W2.heap.size := blk_lt hG2
            have hlz : wr.heap.size < W2.heap.size := by rw [hW2]; exact hlz1
            rw [← hW2]
            clear hW2 z0 z1 HX hlz1
            generalize ps.take k = K at *
            have hbE : Below W2.heap.size W2 (W2.alloc (.cells #[] 5)) := (Below.refl _ _).alloc (Nat.le_refl _) _
            have hED : Own (W2.alloc (.cells #[] 5)).drew W2.heap.size (.slice (some ⟨W2.heap.size, 0, none⟩) 0 0) [] := own_empty W2 (Nat.le_refl _)
            have hbD : Below W2.heap.size W2 (W2.alloc (.cells #[] 5)).drew := hbE.drew
            have HLE := Lib.hid (show W2.heap.size ≤ (W2.alloc (.cells #[] 5)).drew.heap.size by simp)
            have hrD := hrx2.up (Nat.le_refl _) hbD
            have hy0 : W2.drew.cell? ⟨wr.heap.size, 0, none⟩ = some (.string s) := hz0
            have hy1 : W2.drew.cell? ⟨wr.heap.size, 1, none⟩ = some (.slice Ax L.length cx) := hz1
            have hy2 : W2.drew.cell? ⟨w.heap.size, 0, none⟩ = some (.slice Ab k cb) := blk_cell hG2 0
            have hx0 : (W2.alloc (.cells #[] 5)).drew.cell? ⟨wr.heap.size, 0, none⟩ = some (.string s) := (hbD.cell (p := ⟨wr.heap.size, 0, none⟩) hlz).trans hz0
            have hx1 : (W2.alloc (.cells #[] 5)).drew.cell? ⟨wr.heap.size, 1, none⟩ = some (.slice Ax L.length cx) := (hbD.cell (p := ⟨wr.heap.size, 1, none⟩) hlz).trans hz1
            have hx2 : (W2.alloc (.cells #[] 5)).drew.cell? ⟨w.heap.size, 0, none⟩ = some (.slice Ab k cb) := (hbD.cell (p := ⟨w.heap.size, 0, none⟩) hl2).trans (blk_cell hG2 0)
            have HKl : Hid (K.length = k) := Lib.hid (by obtain ⟨_, _, h⟩ := ho2.form; injection h with _ h _; exact h.symm)
            go_region_law (first
              | (refine wp_append_rd (.tmp 44) (.tmp 46) _ rfl j0 Tryz.underlying37 hj0 hjz hjs hjb rfl hED rfl hrD (by simp; omega) HLE.out ?_; intro v5 w5 ho5 hg5 _; have hb5 : Below W2.heap.size W2 w5 := hbD.grown hg5 HLE.out (fun k hk => (hED.lt k hk).1); replace ho5 : Own w5 W2.heap.size v5 L := ho5; obtain ⟨A5, c5, rfl⟩ := ho5.form; have hx6 := hb5.alloc hb5.size (.cells #[.string s, .slice A5 L.length c5] 76); have hbx6 : Below w5.heap.size w5 (w5.alloc (.cells #[.string s, .slice A5 L.length c5] 76)) := (Below.refl _ _).alloc (Nat.le_refl _) _; have hgz6 := heap_alloc_new w5 (.cells #[.string s, .slice A5 L.length c5] 76); have hpc5 : PrC 0 w5 [.string s, .slice A5 L.length c5] (s, L) := ⟨_, rfl, ho5.rdS⟩; have hpc6 := hpc5.up hbx6; have hob6 := OwnP.up ho2 hx6; have hq6 := below_chain hb2 hb2.size hx6; have hws6 : w.heap.size + 1 ≤ (w5.alloc (.cells #[.string s, .slice A5 L.length c5] 76)).heap.size := (Nat.le_trans hl2 hx6.size); have e50 := (hb5.cell (p := ⟨wr.heap.size, 0, none⟩) hlz).trans hz0; have e52 : w5.cell? ⟨w.heap.size, 0, none⟩ = some (.slice Ab k cb) := (hb5.cell (p := ⟨w.heap.size, 0, none⟩) hl2).trans (blk_cell hG2 0); have e62 := (hbx6.cell (p := ⟨w.heap.size, 0, none⟩) (Nat.lt_of_lt_of_le hl2 hb5.size)).trans e52; have e60 := (hbx6.cell (p := ⟨wr.heap.size, 0, none⟩) (Nat.lt_of_lt_of_le hlz hb5.size)).trans e50)
              | (refine wp_append_x (B0 := 0) (b := w5.heap.size) (off := 0) (.tmp 41) (.tmp 49) _ rfl i0 _ 40 Tryz.underlying22 hi0 hz hsz hby rfl (by decide) rfl hob6 rfl _ hpc6.len (fun j hj => (by rw [Nat.zero_add]; exact pairCells_get hgz6 j hj)) hpc6.one hpc6 (fun w' c a hc hg => hc.grow hg (by decide)) (Nat.zero_le _) (by unfold maxLen; have := HKl.out; omega) (by have := HKl.out; omega) hws6 ?_; intro v7 w7 ho7 hg7; have hG7 := (hg7.block w.heap.size (Nat.lt_of_lt_of_le hl2 hx6.size) (fun e => by have := (OwnX.lt hob6 _ e.symm).1; omega)).trans ((hx6.block w.heap.size hl2).trans hG2); have hbo := OwnX.below (B := w.heap.size) (OwnX.more hob6 (Nat.le_succ _)) hq6 (Nat.le_trans (Nat.le_succ _) hws6) hg7; have e70 : w7.cell? ⟨w.heap.size, 0, none⟩ = some (.slice Ab k cb) := blk_cell hG7 0; have e7f := blk_free hG7 0; obtain ⟨A7, c7, hv7⟩ : ∃ A c, v7 = .slice A (k + 1) c := (by obtain ⟨A, c, h⟩ := ho7.form; exact ⟨A, c, by rw [h, List.length_append, HKl.out]; rfl⟩); subst hv7))
            all_goals (
              have hgs := grown_set (World.grownBy.refl w7 (some w.heap.size)) 0 (.slice A7 (k + 1) c7)
              have hgr := grow_of (B0 := 0) hgs (Nat.zero_le _) hG7
              have ho8 : OwnP 0 (w7.setCell ⟨w.heap.size, 0, none⟩ (.slice A7 (k + 1) c7)) (w.heap.size + 1) (.slice A7 (k + 1) c7) (K ++ [(s, L)]) := OwnX.grow ho7 hgr (by decide) (fun c a h => h.grow hgr (by decide))
              have hG8 : (w7.setCell ⟨w.heap.size, 0, none⟩ (.slice A7 (k + 1) c7)).heap[w.heap.size]? = some (.cells #[.slice A7 (k + 1) c7, .pointer none, .slice none 0 0] 134 (0, 0)) := by simpa using blk_set hG7 0 (.slice A7 (k + 1) c7)
              have hb8 := hbo.setCell (p := ⟨w.heap.size, 0, none⟩) (Nat.le_refl _) (.slice A7 (k + 1) c7)
              have H8 := Lib.hid (And.intro ho8 (And.intro hG8 hb8))
              clear hgs hgr ho8 hG8 hb8 ho7 hg7 hG7 hbo e70 e7f hgz6 hob6 hpc6 hpc5 hq6 hx6 hbx6 hb5 ho5 hg5 e50 e52 e60 e62 hws6
              generalize (w7.setCell ⟨w.heap.size, 0, none⟩ (.slice A7 (k + 1) c7)) = W9 at *
              go_wp2_with fail
              exact ⟨⟨k + 1, by omega, by go_num, H8.out.2.2, HG, Lib.hid ⟨A7, c7, H8.out.2.1, by rw [HTK.out, HPS.out]; exact H8.out.1⟩⟩, by simp [intOf]; omega⟩)
    · have i2 : ¬ (k : Int) < (n : Int) := by omega
      obtain rfl : k = n := by omega
      have HRt : Hid (ordR none ps = true) := Lib.hid (by rw [HR.out, HN.out]; exact ordR_end ps)
      have HD : Hid (DocS wr w.heap.size ps) := Lib.hid (by
        obtain ⟨Ab, cb, h1, h2⟩ := HO.out
        refine ⟨_, h1, ?_⟩
        have h3 := OwnP.rdP h2
        have e3 : ps.take k = ps := by rw [HN.out, List.take_length]
        rw [e3] at h3
        exact h3)
      clear HO
      go_wp2_with fail
      go_ret2
      exact ⟨Or.inr ⟨HRt.out, _, rfl, Nat.le_refl _, HD.out⟩, hb⟩
theorem rnew_any (w : World) (v : Value) (ps : List Pr) (hr : RdP w w.heap.size v ps) (hnl : ∀ p ∈ ps, p.1.size ≤ maxLen) (hvl : ∀ p ∈ ps, p.2.length ≤ 2000000) (hn1 : ps.length ≤ 2000000) :
    Calls Tryz.prog 21 #[v] w fun e w' => ((ordR none ps = false ∧ e = .returned (.tuple #[.pointer none, .int .i64 60])) ∨ (ordR none ps = true ∧ ∃ b, e = .returned (.tuple #[.pointer (some b), .int .i64 0]))) ∧ Below w.heap.size w w' := by
  refine (rnew_doc w v ps hr hnl hvl hn1).mono ?_
  rintro e w' ⟨h | ⟨h1, b, h2, -⟩, hb⟩
  · exact ⟨Or.inl h, hb⟩
  · exact ⟨Or.inr ⟨h1, _, h2⟩, hb⟩
end Go.Proofs.YtaafaaoioleokaaGreatDoor
