
/- The walk of merkle's rows. The walks of merkle: the root, the place of a key. -/
import Derived.Test.YtaafaaoioleokaaGreatDoorMerkA0
import Derived.Test.YtaafaaoioleokaaGreatDoorRowR0
import Derived.Deep.RegionHeldLaw
namespace Go.Proofs.YtaafaaoioleokaaGreatDoor
set_option maxRecDepth 100000
open Go Go.RowKit
set_option linter.unusedVariables false
def sliceLn : Value → Nat
  | .slice _ n _ => n
  | _ => 0

set_option maxHeartbeats 4000000 in
set_option maxRecDepth 100000 in
theorem rows_any (w : World) (v : Value) (ps : List Pr) (hr : RdP w w.heap.size v ps) (hnl : ∀ p ∈ ps, p.1.size ≤ maxLen) (hn0 : ps.length ≤ 65536) (fr : TypeId × Nat × Nat) (hk : w.heap[2]? = some (.cells kVals fr.1 fr.2)) :
    Calls Tryz.prog 118 #[v] w fun e w' => ∃ v', e = .returned v' ∧ ∃ t, t ≤ 17 ∧ (∀ j, j < t → 2 ≤ (upN j (leaves ps)).length) ∧ (upN t (leaves ps)).length ≤ 1 ∧ OwnRR w' w.heap.size w.heap.size v' (levN (leaves ps) t) ∧ Below w.heap.size w w' := by
  obtain ⟨i0, hi, hz, hsz, hby⟩ := info_parts Tryz.infoRow
  obtain ⟨i1, hi1, hz1, hsz1, hby1⟩ := info_parts Tryz.infoRows
  have hnk := blk_lt hk
  have HK := Lib.hid hk
  clear hk
  obtain ⟨A, c, rfl, hc, hm, hp⟩ := hr
  unfold maxLen at hm
  obtain ⟨n, hn⟩ : ∃ n, n = ps.length := ⟨_, rfl⟩
  rw [← hn] at hc hn0 ⊢
  have HN := Lib.hid hn
  have HP := Lib.hid hp
  have HL := Lib.hid hnl
  clear hp hnl hn
  go_enter Tryz.func118, Tryz.ntmps118
  go_wp2_with fail
  go_loopw [3, 5, 11] (fun rv _ i wr => ∃ k : Nat, k ≤ n ∧ i = .int .i64 (k : Int) ∧ OwnR wr w.heap.size w.heap.size rv ((leaves ps).take k) ∧ Below w.heap.size w wr)
    (fun _ _ i _ => n - (intOf i).toNat)
  case atStart => exact ⟨0, Nat.zero_le _, rfl, by rw [List.take_zero]; exact OwnR.nil _ _ _, Below.refl _ _⟩
  case round =>
    obtain ⟨k, hk, rfl, ho, hb⟩ := hrel
    by_cases hlt : k < n
    · have hkl : k < ps.length := by have := HN.out; omega
      obtain ⟨b, o, rfl, hbl, hcell⟩ := HP.out (by omega)
      obtain ⟨q1, x, q2, q3⟩ := hcell k hkl
      have a1 := (hb.cell (p := ⟨b, o + k * 2, none⟩) hbl).trans q1
      have a2 := (hb.cell (p := ⟨b, o + k * 2 + 1, none⟩) hbl).trans q2
      have hks := HL.out _ (List.getElem_mem hkl)
      have i1 : (0 : Int) ≤ (k : Int) := by omega
      have i2 : (k : Int) < (n : Int) := by omega
      have hS : (leaves ps).take (k + 1) = (leaves ps).take k ++ [leafH ps[k].1 ps[k].2] := by
        have hkl2 : k < (leaves ps).length := by unfold leaves; rw [List.length_map]; exact hkl
        rw [← List.take_append_getElem (l := leaves ps) (i := k) hkl2]
        simp [leaves]
      have hl1 : ((leaves ps).take k).length ≤ 1000000000 := by rw [List.length_take]; omega
      generalize ps[k].1 = s at *
      generalize ps[k].2 = l at *
      generalize (leaves ps).take k = L at *
      obtain ⟨Ax, cx, rfl⟩ := q3.form
      have hxl : l.length ≤ 9223372036854775807 := q3.len
      have hbx := hb.alloc hb.size (.cells #[.string s, .slice Ax l.length cx] 76)
      have hbx0 : Below wr.heap.size wr (wr.alloc (.cells #[.string s, .slice Ax l.length cx] 76)) := (Below.refl _ _).alloc (Nat.le_refl _) _
      have hrx := (q3.below hbx).more hbx.size
      have hox := ho.up hbx0
      obtain ⟨Ap, cp, rfl⟩ := ho.form
      have HKx := (hbx.block _ hnk).trans HK.out
      have HS := Lib.hid hS
      clear hS hcell q1 q2 q3 hb ho
      go_wp2_with fail
      refine (leafHash_any s _ l _ hks hrx fr HKx).mono ?_
      rintro e w2 ⟨v2, rfl, ho2, hb2⟩
      have hq2 := below_chain hbx hbx.size hb2
      have ho3 := hox.up hb2
      have hl2 : (leafH s l).length = 32 := tagH_length _ _
      generalize leafH s l = h at *
      obtain ⟨A4, c4, rfl⟩ := ho2.form' hl2
      clear hl2
      have hr4 : RdS w2 w.heap.size (.slice A4 32 c4) h := ho2.rdS
      clear hox hb2 hbx hbx0 hrx ho2 a1 a2
      have hbz : Below w2.heap.size w2 (w2.alloc (.cells #[.slice A4 32 c4] 37)) := (Below.refl _ _).alloc (Nat.le_refl _) _
      have hc5 : (w2.alloc (.cells #[.slice A4 32 c4] 37)).cell? ⟨w2.heap.size, 0, none⟩ = some (.slice A4 32 c4) := blk_cell (heap_alloc_new w2 _) 0
      go_wp2_with (at_builtin; refine wpList_append_row rfl (.tmp 15) (.tmp 21) _ rfl i0 Tryz.underlying175 hi hz hsz hby rfl (ho3.up hbz) rfl hc5 (hr4.up hbz) (Nat.le_refl _) hl1 (Nat.le_trans hq2.size hbz.size) ?_; intro v5 w5 ho5 hg5; have hq5 : Below w.heap.size w w5 := (ho3.up hbz).below (hq2.alloc hq2.size _) (Nat.le_trans hq2.size hbz.size) hg5)
      go_roundw
      case rel => exact ⟨k + 1, by omega, by go_num, by rw [HS.out]; exact ho5, hq5⟩
      case measure => simp [intOf]; omega
    · have i2 : ¬ (k : Int) < (n : Int) := by omega
      obtain rfl : k = n := by omega
      have hfull : (leaves ps).take k = leaves ps := List.take_of_length_le (by unfold leaves; rw [List.length_map, ← HN.out]; exact Nat.le_refl _)
      have hll : (leaves ps).length ≤ 2 ^ 17 := by unfold leaves; rw [List.length_map, ← HN.out]; omega
      rw [hfull] at ho
      clear hfull
      have hrow0 : ∃ L, L = leaves ps := ⟨_, rfl⟩
      obtain ⟨L, hL⟩ := hrow0
      rw [← hL] at ho hll ⊢
      have HLL := Lib.hid hL
      clear hL HN HP HL
      have hr0 := ho.rowS
      obtain ⟨Ap, cp, rfl⟩ := hr0.form
      clear ho
      go_wp2_with fail
      have hO1 := (OwnRR.one hr0).more hb.size
      have hbx : Below w.heap.size w (wr.alloc (.cells #[.slice Ap L.length cp] 175)) := hb.alloc hb.size _
      have hrx := hr0.up (w' := wr.alloc (.cells #[.slice Ap L.length cp] 175)) ((Below.refl _ _).alloc (Nat.le_refl _) _)
      clear hr0 hb
      generalize wr.alloc (.cells #[.slice Ap L.length cp] 175) = w1 at *
      go_loopw [3, 6] (fun rv ov W => ∃ t e : Nat, t + e = 17 ∧ (upN t L).length ≤ 2 ^ e ∧ Hid (∀ j, j < t → 2 ≤ (upN j L).length) ∧ RowS W w.heap.size rv (upN t L) ∧ OwnRR W w.heap.size w.heap.size ov (levN L t) ∧ Below w.heap.size w W)
        (fun rv _ _ => sliceLn rv)
      case atStart => exact ⟨0, 17, rfl, hll, Lib.hid (fun j hj => absurd hj (by omega)), hrx, hO1, hbx⟩
      case round =>
        clear hrx hO1 hbx
        rename World => wo
        obtain ⟨t, e, hte, hle, HG, hr, ho, hb⟩ := hrel
        obtain ⟨n, hn⟩ : ∃ n, n = (upN t L).length := ⟨_, rfl⟩
        obtain ⟨Ar, cr, rfl⟩ := hr.form
        obtain ⟨Ao, co, rfl⟩ := ho.form
        rw [← hn] at hr hle ⊢
        have hn17 : n ≤ 2 ^ 17 := Nat.le_trans hle (Nat.pow_le_pow_right (by omega) (by omega))
        have hn17 : n ≤ 131072 := hn17
        by_cases hlt : 1 < n
        · have i1 : (1 : Int) < (n : Int) := by omega
          have HN := Lib.hid hn
          clear hn
          go_wp2_with fail
          go_loopw [7, 8] (fun av i W => ∃ q : Nat, q ≤ n ∧ q % 2 = 0 ∧ i = .int .i64 (q : Int) ∧ OwnR W w.heap.size wo.heap.size av (pairUp nodeH ((upN t L).take q)) ∧ Below wo.heap.size wo W)
            (fun _ i _ => n - (intOf i).toNat)
          case atStart => exact ⟨0, by omega, by omega, rfl, by rw [List.take_zero]; exact OwnR.nil _ _ _, Below.refl _ _⟩
          case round =>
            obtain ⟨q, hqn, hq2, rfl, hoa, hba⟩ := hrel
            have hrq := hr.up hba
            have hpl : (pairUp nodeH ((upN t L).take q)).length ≤ 1000000000 := by rw [pairUp_length, List.length_take]; omega
            by_cases hltq : q + 1 < n
            · have i3 : (q : Int) + 1 < (n : Int) := by omega
              have i2 : (q : Int) < (n : Int) := by omega
              have i4 : (0 : Int) ≤ (q : Int) := by omega
              have hqn0 : q < (upN t L).length := by have := HN.out; omega
              have hqn1 : q + 1 < (upN t L).length := by have := HN.out; omega
              rw [HN.out] at hr hrq
              obtain ⟨b, o, x0, rfl, -, hlb0, hcx0, -⟩ := hr.at_ q hqn0
              obtain ⟨b1, o1, x, e0, -, hlb, hcx, hrx⟩ := hrq.at_ q hqn0
              injection e0 with e0
              injection e0 with e0 e0'
              subst e0; subst e0'
              have hx0 := (hba.cell (p := ⟨b, o + q, none⟩) hlb0).symm.trans hcx
              obtain ⟨b', o', y, e1, -, -, hcy, hry⟩ := hrq.at_ (q + 1) hqn1
              injection e1 with e1
              injection e1 with e1 e2 e3
              subst e1; subst e2
              have hy0 := (hba.cell (p := ⟨b, o + (q + 1), none⟩) hlb0).symm.trans hcy
              clear hcx0
              have HP := Lib.hid (pairUp_more q (upN t L) hq2 hqn1)
              generalize (upN t L)[q] = lx at *
              generalize (upN t L)[q + 1] = ly at *
              generalize pairUp nodeH ((upN t L).take q) = LL at *
              obtain ⟨Ax, kx, rfl⟩ := hrx.1.form
              obtain ⟨Ay, ky, rfl⟩ := hry.1.form
              obtain ⟨Aa, ka, rfl⟩ := hoa.form
              have hbz := below_chain hb hb.size hba
              have hbwo : w.heap.size ≤ wo.heap.size := hb.size
              have hKz := (hbz.block _ hnk).trans HK.out
              have hKd : wr.drew.heap[2]? = some (.cells kVals fr.1 fr.2) := hKz
              clear hr hrq
              go_wp2_with fail
              have hs1 : IntKind.i64.wrap ((q : Int) + 1) = (q : Int) + 1 := IntWalk.i64_in _ (by omega)
              have hs2 : (0 : Int) ≤ (q : Int) + 1 := by omega
              have hs3 : ((q : Int) + 1).toNat = q + 1 := by omega
              go_region_held_law (fun W => W.cell? ⟨b, o + q, none⟩ = some (.slice Ax lx.length kx) ∧ W.cell? ⟨b, o + (q + 1), none⟩ = some (.slice Ay ly.length ky))
                (first | exact ⟨hcx, hcy⟩ | exact ⟨hcx4, hcy4⟩ | exact ⟨hcx5, hcy5⟩ | exact ⟨hcx6, hcy6⟩)
                (first
                  | (go_at_call 170; (refine (nodeM_any _ _ lx ly wr.drew hrx.1 hry.1 fr hKd).mono ?_; rintro e w4 ⟨v4, rfl, ho4, hb4'⟩; have hb4 : Below wr.heap.size wr w4 := below_chain (Below.refl wr.heap.size wr).drew (Nat.le_refl _) hb4'; obtain ⟨A4, c4, rfl⟩ := ho4.form' (tagH_length _ _); have hx5 : Below w4.heap.size w4 (w4.alloc (.cells #[.slice A4 32 c4] 37)) := (Below.refl _ _).alloc (Nat.le_refl _) _; have hq5 := below_chain hb4 hb4.size hx5; have ho5 := hoa.up hq5; have hr4 : RdS w4 w.heap.size _ _ := ho4.rdS; have hr5 := hr4.up hx5; have hc5 : (w4.alloc (.cells #[.slice A4 32 c4] 37)).cell? ⟨w4.heap.size, 0, none⟩ = some (.slice A4 32 c4) := blk_cell (heap_alloc_new w4 _) 0; have hw5 := below_chain hba hba.size hq5; have hcx5 := (hw5.cell (p := ⟨b, o + q, none⟩) hlb0).trans hx0; have hcy5 := (hw5.cell (p := ⟨b, o + (q + 1), none⟩) hlb0).trans hy0; have hcx4 := (hb4.cell (p := ⟨b, o + q, none⟩) hlb).trans hcx; have hcy4 := (hb4.cell (p := ⟨b, o + (q + 1), none⟩) hlb).trans hcy))
                  | (rw [if_pos (by rfl)]; refine wp_append_row (.tmp 36) (.tmp 47) _ rfl i0 Tryz.underlying175 hi hz hsz hby rfl ho5 rfl hc5 hr5 hbwo hpl hw5.size ?_; intro v6 w6 ho6 hg6; have hw6 := ho5.below hw5 hw5.size hg6; have hcx6 := (hw6.cell (p := ⟨b, o + q, none⟩) hlb0).trans hx0; have hcy6 := (hw6.cell (p := ⟨b, o + (q + 1), none⟩) hlb0).trans hy0))
              simp only [Act.put, List.setIfInBounds_toArray, List.set_cons_zero, List.set_cons_succ, List.getElem_toArray, List.getElem_cons_zero, List.getElem_cons_succ]
              have hbo := hw6
              clear hx5 hq5 ho5 hr4 hr5 hc5 hw5 hcx5 hcy5 hcx4 hcy4 hcx6 hcy6 hw6 hg6 hb4 hb4' ho4 hcx hcy hx0 hy0 hs1 hs2 hs3 hKd hKz hbz
              go_wp2_with fail
              go_roundw
              case rel => exact ⟨q + 2, by omega, by omega, by go_num, by rw [HP.out]; exact ho6, hbo⟩
              case measure => simp [intOf]; omega
            · have i3 : ¬ (q : Int) + 1 < (n : Int) := by omega
              by_cases hod : n % 2 = 1
              · have i5 : (n : Int).tmod 2 = 1 := by rw [Int.tmod_eq_emod_of_nonneg (by omega)]; omega
                have hqe : q + 1 = n := by omega
                have i6 : IntKind.i64.wrap ((n : Int) - 1) = (q : Int) := by rw [IntKind.wrap_i64]; omega
                have i7 : (q : Int) < (n : Int) := by omega
                have i8 : (0 : Int) ≤ (q : Int) := by omega
                have hqn0 : q < (upN t L).length := by have := HN.out; omega
                rw [HN.out] at hr hrq
                obtain ⟨b, o, x, rfl, -, hlb, hcx, hrx⟩ := hrq.at_ q hqn0
                have hP : upN (t + 1) L = pairUp nodeH ((upN t L).take q) ++ [(upN t L)[q]] := pairUp_odd q (upN t L) hq2 (by rw [← HN.out]; exact hqe)
                generalize (upN t L)[q] = lx at *
                generalize pairUp nodeH ((upN t L).take q) = LL at *
                have HPP := Lib.hid hP
                clear hP
                obtain ⟨Ax, kx, rfl⟩ := hrx.1.form
                obtain ⟨Aa, ka, rfl⟩ := hoa.form
                have hbz := below_chain hb hb.size hba
                have hx5 : Below wr.heap.size wr (wr.alloc (.cells #[.slice Ax lx.length kx] 37)) := (Below.refl _ _).alloc (Nat.le_refl _) _
                have hc5 : (wr.alloc (.cells #[.slice Ax lx.length kx] 37)).cell? ⟨wr.heap.size, 0, none⟩ = some (.slice Ax lx.length kx) := blk_cell (heap_alloc_new wr _) 0
                have hw5 := below_chain hba hba.size hx5
                have ho5 := hoa.up hx5
                have hr5 := hrx.up hx5
                clear hoa hrx
                rw [← HN.out] at hr hrq
                go_wp2_with (first
                  | (at_builtin
                     refine wpList_append_row rfl (.tmp 53) (.tmp 60) _ rfl i0 Tryz.underlying175 hi hz hsz hby rfl ho5 rfl hc5 hr5 hb.size hpl hw5.size ?_
                     intro v6 WW ho6 hg6
                     have hbaz := ho5.below hw5 hw5.size hg6
                     have hoz : OwnR WW w.heap.size wo.heap.size v6 (upN (t + 1) L) := by rw [HPP.out]; exact ho6
                     have hoa := hoz
                     clear ho6 hg6 hc5 hr5 ho5 hcx hx5 HPP hw5
                     have hra := hoz.rowS
                     have ho2 := ho.up hbaz
                     have hbq := below_chain hb hb.size hbaz
                     have hlu : (upN (t + 1) L).length < n ∧ (upN (t + 1) L).length ≤ 2 ^ (e - 1) ∧ 1 ≤ e := by
                       rw [upN_len, ← HN.out]
                       rcases e with _ | e
                       · simp at hle; omega
                       · have : 2 ^ (e + 1) = 2 * 2 ^ e := by rw [Nat.pow_succ]; omega
                         rw [Nat.add_sub_cancel]
                         omega
                     have hGn : ∀ j, j < t + 1 → 2 ≤ (upN j L).length := fun j hj => by
                       by_cases hjt : j < t
                       · exact HG.out j hjt
                       · obtain rfl : j = t := by omega
                         rw [← HN.out]; omega
                     have hl1 : (levN L t).length ≤ 1000 := by rw [levN_length]; omega
                     have hS : Hid (levN L (t + 1) = levN L t ++ [upN (t + 1) L]) := Lib.hid rfl
                     have HU := Lib.hid (And.intro hlu hGn)
                     generalize hL1 : upN (t + 1) L = L1 at *
                     have HE := Lib.hid hL1
                     clear hL1
                     obtain ⟨Aq, kq, rfl⟩ := hoz.form
                     have hbx : Below WW.heap.size WW (WW.alloc (.cells #[.slice Aq L1.length kq] 175)) := (Below.refl _ _).alloc (Nat.le_refl _) _
                     have hc5 : (WW.alloc (.cells #[.slice Aq L1.length kq] 175)).cell? ⟨WW.heap.size, 0, none⟩ = some (.slice Aq L1.length kq) := blk_cell (heap_alloc_new WW _) 0
                     have hqx := below_chain hbq hbq.size hbx
                     clear hoz ho hr hrq hlu hGn hoa
                     generalize levN L t = Ls at *)
                  | (at_builtin; refine wpList_append_rows rfl (.tmp 63) (.tmp 65) _ rfl _ Tryz.underlying171 hi1 hz1 hsz1 hby1 rfl (ho2.up hbx) rfl hc5 (hra.up hbx) (Nat.le_refl _) hl1 hqx.size ?_; intro v5 w5 ho5 hg5; have hq5 : Below w.heap.size w w5 := (ho2.up hbx).below hqx hqx.size hg5; have hr5 : RowS w5 w.heap.size (.slice Aq L1.length kq) L1 := (hra.up hbx).grow ((ho2.up hbx).grows (Nat.le_refl _) hg5) (by decide) (by decide)))
                go_roundw
                case rel => exact ⟨t + 1, e - 1, by have := HU.out.1; omega, by rw [HE.out]; exact HU.out.1.2.1, Lib.hid HU.out.2, by rw [HE.out]; exact hr5, by rw [hS.out]; exact ho5, hq5⟩
                case measure => exact HU.out.1.1
              · have i5 : ¬ (n : Int).tmod 2 = 1 := by rw [Int.tmod_eq_emod_of_nonneg (by omega)]; omega
                have hqe : q = n := by omega
                have hfull : (upN t L).take q = upN t L := List.take_of_length_le (by rw [← HN.out]; omega)
                rw [hfull] at hoa
                clear hfull
                have hoz : OwnR wr w.heap.size wo.heap.size u7 (upN (t + 1) L) := hoa
                have hbaz := hba
                have hra := hoz.rowS
                have ho2 := ho.up hbaz
                have hbq := below_chain hb hb.size hbaz
                have hlu : (upN (t + 1) L).length < n ∧ (upN (t + 1) L).length ≤ 2 ^ (e - 1) ∧ 1 ≤ e := by
                  rw [upN_len, ← HN.out]
                  rcases e with _ | e
                  · simp at hle; omega
                  · have : 2 ^ (e + 1) = 2 * 2 ^ e := by rw [Nat.pow_succ]; omega
                    rw [Nat.add_sub_cancel]
                    omega
                have hGn : ∀ j, j < t + 1 → 2 ≤ (upN j L).length := fun j hj => by
                  by_cases hjt : j < t
                  · exact HG.out j hjt
                  · obtain rfl : j = t := by omega
                    rw [← HN.out]; omega
                have hl1 : (levN L t).length ≤ 1000 := by rw [levN_length]; omega
                have hS : Hid (levN L (t + 1) = levN L t ++ [upN (t + 1) L]) := Lib.hid rfl
                have HU := Lib.hid (And.intro hlu hGn)
                generalize hL1 : upN (t + 1) L = L1 at *
                have HE := Lib.hid hL1
                clear hL1
                obtain ⟨Aq, kq, rfl⟩ := hoz.form
                have hbx : Below wr.heap.size wr (wr.alloc (.cells #[.slice Aq L1.length kq] 175)) := (Below.refl _ _).alloc (Nat.le_refl _) _
                have hc5 : (wr.alloc (.cells #[.slice Aq L1.length kq] 175)).cell? ⟨wr.heap.size, 0, none⟩ = some (.slice Aq L1.length kq) := blk_cell (heap_alloc_new wr _) 0
                have hqx := below_chain hbq hbq.size hbx
                clear hoz ho hr hrq hlu hGn hoa
                generalize levN L t = Ls at *
                go_wp2_with (at_builtin; refine wpList_append_rows rfl (.tmp 63) (.tmp 65) _ rfl _ Tryz.underlying171 hi1 hz1 hsz1 hby1 rfl (ho2.up hbx) rfl hc5 (hra.up hbx) (Nat.le_refl _) hl1 hqx.size ?_; intro v5 w5 ho5 hg5; have hq5 : Below w.heap.size w w5 := (ho2.up hbx).below hqx hqx.size hg5; have hr5 : RowS w5 w.heap.size (.slice Aq L1.length kq) L1 := (hra.up hbx).grow ((ho2.up hbx).grows (Nat.le_refl _) hg5) (by decide) (by decide))
                go_roundw
                case rel => exact ⟨t + 1, e - 1, by have := HU.out.1; omega, by rw [HE.out]; exact HU.out.1.2.1, Lib.hid HU.out.2, by rw [HE.out]; exact hr5, by rw [hS.out]; exact ho5, hq5⟩
                case measure => exact HU.out.1.1
        · have i1 : ¬ (1 : Int) < (n : Int) := by omega
          have HU : Hid ((upN t L).length ≤ 1) := Lib.hid (by rw [← hn]; omega)
          have ht : t ≤ 17 := by omega
          clear hn hr hte hle
          go_wp2_with fail
          go_ret
          exact ⟨_, rfl, t, ht, by rw [← HLL.out]; exact HG.out, by rw [← HLL.out]; exact HU.out, by rw [← HLL.out]; exact ho, hb⟩
end Go.Proofs.YtaafaaoioleokaaGreatDoor
namespace Go.Proofs.YtaafaaoioleokaaGreatDoor
set_option maxRecDepth 100000
open Go Go.RowKit
set_option linter.unusedVariables false

set_option maxHeartbeats 1000000 in
theorem rootM_any (w : World) (v : Value) (ps : List Pr) (hr : RdP w w.heap.size v ps) (hnl : ∀ p ∈ ps, p.1.size ≤ maxLen) (fr : TypeId × Nat × Nat) (hk : w.heap[2]? = some (.cells kVals fr.1 fr.2)) :
    Calls Tryz.prog 49 #[v] w fun e w' => ∃ v', e = .returned (.tuple #[v', .int .i64 (rootM ps).2]) ∧ Own w' w.heap.size v' (rootM ps).1 ∧ Below w.heap.size w w' := by
  have hnk := blk_lt hk
  have HK := Lib.hid hk
  clear hk
  have C1 := ordered_any w v ps hr hnl
  have C2 := fun (w1 : World) (hb : Below w.heap.size w w1) (h0 : ps.length ≤ 65536) => by
    have e1 : w1.heap[2]? = some (.cells kVals fr.1 fr.2) := (hb.block _ hnk).trans HK.out
    have e2 : RdP w1 w1.heap.size v ps := (hr.below hb).more hb.size
    exact rows_any w1 v ps e2 hnl h0 fr e1
  obtain ⟨A, c, rfl, hc, hm, hp⟩ := hr
  unfold maxLen at hm
  obtain ⟨n, hn⟩ : ∃ n, n = ps.length := ⟨_, rfl⟩
  rw [← hn] at hc C1 C2 ⊢
  have HR := Lib.hid (fun h : ordB ps = false => rootM_no h)
  have HR0 := Lib.hid (fun (h : ordB ps = true) (h0 : ps.length = 0) => rootM_nil h h0)
  have HR1 := Lib.hid (fun (h : ordB ps = true) (h0 : 0 < ps.length) => rootM_some h h0)
  generalize rootM ps = R at *
  have HN := Lib.hid hn
  clear hn
  replace C1 := Lib.hid C1
  replace C2 := Lib.hid C2
  go_enter Tryz.func49, Tryz.ntmps49
  go_wp2_with fail
  refine C1.out.mono ?_
  rintro e w1 ⟨rfl, hb1⟩
  clear C1
  cases ho : ordB ps with
  | false =>
    have hR : R = ([], 60) := HR.out ho
    subst hR
    go_wp2_with fail
    go_ret2
    exact ⟨_, rfl, Own.nil _ _, hb1⟩
  | true =>
    have hn1 : n ≤ 65536 := by rw [HN.out]; exact ordB_len ho
    by_cases h0 : n = 0
    · have hR : R = (rootE, 0) := HR0.out ho (by have := HN.out; omega)
      subst hR
      subst h0
      go_wp2_with fail
      refine (emptyRoot_any w1 fr ((hb1.block _ hnk).trans HK.out)).mono ?_
      rintro e w2 ⟨v2, rfl, ho2, hb2⟩
      have hq := below_chain hb1 hb1.size hb2
      go_wp2_with fail
      go_ret2
      exact ⟨_, rfl, ho2.more hb1.size, hq⟩
    · have hR : R = (rootH n (rowT nodeH (leaves ps)), 0) := by rw [HN.out]; exact HR1.out ho (by have := HN.out; omega)
      subst hR
      have i1 : ¬ (n : Int) = 0 := by omega
      go_wp2_with fail
      refine (C2.out w1 hb1 hn1).mono ?_
      rintro e w2 ⟨v2, rfl, t, ht, hG, hU, ho2, hb2⟩
      have hll : 0 < (leaves ps).length := by unfold leaves; rw [List.length_map, ← HN.out]; omega
      have hpos := upN_pos (leaves ps) hll t
      have hroot := upN_root (leaves ps) t hG hU
      have hlen : (levN (leaves ps) t).length = t + 1 := levN_length _ _
      obtain ⟨b, x, hA, -, hlb, hcx, hrx⟩ : ∃ b x, (∃ c, v2 = .slice (some ⟨b, 0, none⟩) (t + 1) c) ∧ True ∧ b < w2.heap.size ∧ w2.cell? ⟨b, t, none⟩ = some x ∧ RowS w2 w1.heap.size x (upN t (leaves ps)) := by
        obtain ⟨A2, c2, rfl⟩ := ho2.form
        obtain ⟨b, x, rfl, -, h3, h4, h5⟩ := ho2.at_ t (by rw [levN_length]; omega)
        refine ⟨b, x, ⟨c2, by rw [levN_length]⟩, trivial, h3, h4, ?_⟩
        have hg := levN_get (leaves ps) t t (Nat.le_refl _)
        rw [List.getElem?_eq_getElem (by rw [levN_length]; omega)] at hg
        injection hg with hg
        rw [← hg]
        exact h5
      obtain ⟨c2, rfl⟩ := hA
      have hbz := below_chain hb1 hb1.size hb2
      obtain ⟨A3, c3, rfl⟩ := hrx.form
      obtain ⟨b3, o3, y, rfl, -, hlb3, hcy, hry⟩ := hrx.at_ 0 hpos
      have hyv : (upN t (leaves ps))[0] = rowT nodeH (leaves ps) := by
        rw [← hroot]
        have gen : ∀ (x : List (List UInt8)) (h : 0 < x.length), x[0] = x.headD [] := fun x h => by
          cases x with
          | nil => simp at h
          | cons a l => rfl
        exact gen _ hpos
      rw [hyv] at hry
      have HH : Hid (rootH n (rowT nodeH (leaves ps)) = shaSum (formB (strBytes wRoot) ++ formBs [be n 8, rowT nodeH (leaves ps)])) := Lib.hid rfl
      clear hyv hroot ho2 hG hU hlen HR HR0 HR1
      generalize (upN t (leaves ps)).length = l1 at *
      generalize hh : rowT nodeH (leaves ps) = h at *
      have HHH := Lib.hid hh
      clear hh
      obtain ⟨A5, c5, rfl⟩ := hry.1.form
      rw [Nat.add_zero] at hcy
      obtain ⟨m, hm1⟩ : ∃ m, m = t + 1 := ⟨_, rfl⟩
      rw [← hm1]
      have j1 : IntKind.i64.wrap ((m : Int) - 1) = (t : Int) := by rw [IntKind.wrap_i64]; omega
      have j2 : (t : Int) < (m : Int) := by omega
      have j3 : (0 : Int) ≤ (t : Int) := by omega
      have j4 : (0 : Int) < (l1 : Int) := by omega
      have hk2 := (hbz.block _ hnk).trans HK.out
      have hnn : n ≤ 9223372036854775807 := by omega
      clear hm1 hrx
      go_wp2_with fail
      go_region_held_law (fun W => W.cell? ⟨b, t, none⟩ = some (.slice (some ⟨b3, o3, none⟩) l1 c3) ∧ W.cell? ⟨b3, o3, none⟩ = some (.slice A5 h.length c5))
        (first | exact ⟨hcx, hcy⟩ | exact ⟨hcx4, hcy4⟩ | exact ⟨hcx5, hcy5⟩ | exact ⟨hcx6, hcy6⟩)
        (first
          | (go_at_call 120; (refine (number_any n _ hnn).mono ?_; rintro e w4 ⟨v4, rfl, ho4, hb4'⟩; have hb4 : Below w2.heap.size w2 w4 := below_chain (Below.refl w2.heap.size w2).drew (Nat.le_refl _) hb4'; obtain ⟨A4, c4, rfl⟩ := ho4.form' (be_length n 8); have hp := partsA2 w4 (.slice A4 8 c4) (.slice A5 h.length c5) (be n 8) h 37 ho4.rd (hry.1.up (Nat.le_refl _) hb4); have hx5 : Below w4.heap.size w4 (w4.alloc (.cells #[.slice A4 8 c4, .slice A5 h.length c5] 37)) := (Below.refl _ _).alloc (Nat.le_refl _) _; have hq5 := below_chain hb4 hb4.size hx5; have hz5 := below_chain hbz hbz.size hq5; have hk5 := (hz5.block _ hnk).trans HK.out; have hcx4 := (hb4.cell (p := ⟨b, t, none⟩) hlb).trans hcx; have hcy4 := (hb4.cell (p := ⟨b3, o3, none⟩) hlb3).trans hcy; have hcx5 := (hq5.cell (p := ⟨b, t, none⟩) hlb).trans hcx; have hcy5 := (hq5.cell (p := ⟨b3, o3, none⟩) hlb3).trans hcy))
          | (go_at_call 119; (refine (tagged_any wRoot _ [be n 8, h] _ hp (by unfold maxLen wRoot; decide) (by simp) fr hk5).mono ?_; rintro e w6 ⟨v6, rfl, ho6, hb6⟩; have hq6 := below_chain hq5 hq5.size hb6; have hcx6 := (hq6.cell (p := ⟨b, t, none⟩) hlb).trans hcx; have hcy6 := (hq6.cell (p := ⟨b3, o3, none⟩) hlb3).trans hcy)))
      have hbo := below_chain hz5 hz5.size hb6
      go_wp2_with fail
      go_ret2
      exact ⟨_, rfl, by rw [HHH.out, HH.out]; exact ho6.more hz5.size, hbo⟩
end Go.Proofs.YtaafaaoioleokaaGreatDoor
