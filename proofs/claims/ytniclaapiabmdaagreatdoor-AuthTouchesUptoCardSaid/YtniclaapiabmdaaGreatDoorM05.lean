/- Texts joined: MerkE1, MerkH0, StoM0. -/
import Derived.Test.YtniclaapiabmdaaGreatDoorM03
import Derived.Test.YtniclaapiabmdaaGreatDoorM04
import Derived.Deep.RegionHeldLaw
import Derived.Test.YtniclaapiabmdaaGreatDoorM01
namespace Go.Proofs.YtniclaapiabmdaaGreatDoor
set_option maxRecDepth 100000
open Go Go.RowKit
set_option linter.unusedVariables false
def sliceLn : Value → Nat
  | .slice _ n _ => n
  | _ => 0

set_option maxHeartbeats 4000000 in
set_option maxRecDepth 100000 in
theorem rows_any (w : World) (v : Value) (ps : List Pr) (hr : RdP w w.heap.size v ps) (hnl : ∀ p ∈ ps, p.1.size ≤ maxLen) (hn0 : ps.length ≤ 65536) (fr : TypeId × Nat × Nat) (hk : w.heap[0]? = some (.cells kVals fr.1 fr.2)) :
    Calls Tryz.prog 69 #[v] w fun e w' => ∃ v', e = .returned v' ∧ ∃ t, t ≤ 17 ∧ (∀ j, j < t → 2 ≤ (upN j (leaves ps)).length) ∧ (upN t (leaves ps)).length ≤ 1 ∧ OwnRR w' w.heap.size w.heap.size v' (levN (leaves ps) t) ∧ Below w.heap.size w w' := by
  obtain ⟨i0, hi, hz, hsz, hby⟩ := info_parts Tryz.infoRow
  obtain ⟨i1, hi1, hz1, hsz1, hby1⟩ := info_parts Tryz.infoRows
  have hnk := blk_lt hk
  have HK := Lib.hid hk
  clear hk
  obtain ⟨A, c, rfl, hc, hm, hp⟩ := hr
  unfold maxLen at hm
  obtain ⟨n, hn⟩ : ∃ n, n = ps.length := ⟨_, rfl⟩
  rw [← hn] at hc hn0 ⊢
  have HN := Lib.hid hn
  have HP := Lib.hid hp
  have HL := Lib.hid hnl
  clear hp hnl hn
  go_enter Tryz.func69, Tryz.ntmps69
  go_wp2_with fail
  go_loopw [3, 5, 11] (fun rv _ i wr => ∃ k : Nat, k ≤ n ∧ i = .int .i64 (k : Int) ∧ OwnR wr w.heap.size w.heap.size rv ((leaves ps).take k) ∧ Below w.heap.size w wr)
    (fun _ _ i _ => n - (intOf i).toNat)
  case atStart => exact ⟨0, Nat.zero_le _, rfl, by rw [List.take_zero]; exact OwnR.nil _ _ _, Below.refl _ _⟩
  case round =>
    obtain ⟨k, hk, rfl, ho, hb⟩ := hrel
    by_cases hlt : k < n
    · have hkl : k < ps.length := by have := HN.out; omega
      obtain ⟨b, o, rfl, hbl, hcell⟩ := HP.out (by omega)
      obtain ⟨q1, x, q2, q3⟩ := hcell k hkl
      have a1 := (hb.cell (p := ⟨b, o + k * 2, none⟩) hbl).trans q1
      have a2 := (hb.cell (p := ⟨b, o + k * 2 + 1, none⟩) hbl).trans q2
      have hks := HL.out _ (List.getElem_mem hkl)
      have i1 : (0 : Int) ≤ (k : Int) := by omega
      have i2 : (k : Int) < (n : Int) := by omega
      have hS : (leaves ps).take (k + 1) = (leaves ps).take k ++ [leafH ps[k].1 ps[k].2] := by
        have hkl2 : k < (leaves ps).length := by unfold leaves; rw [List.length_map]; exact hkl
        rw [← List.take_append_getElem (l := leaves ps) (i := k) hkl2]
        simp [leaves]
      have hl1 : ((leaves ps).take k).length ≤ 1000000000 := by rw [List.length_take]; omega
      generalize ps[k].1 = s at *
      generalize ps[k].2 = l at *
      generalize (leaves ps).take k = L at *
      obtain ⟨Ax, cx, rfl⟩ := q3.form
      have hxl : l.length ≤ 9223372036854775807 := q3.len
      have hbx := hb.alloc hb.size (.cells #[.string s, .slice Ax l.length cx] 48)
      have hbx0 : Below wr.heap.size wr (wr.alloc (.cells #[.string s, .slice Ax l.length cx] 48)) := (Below.refl _ _).alloc (Nat.le_refl _) _
      have hrx := (q3.below hbx).more hbx.size
      have hox := ho.up hbx0
      obtain ⟨Ap, cp, rfl⟩ := ho.form
      have HKx := (hbx.block _ hnk).trans HK.out
      have HS := Lib.hid hS
      clear hS hcell q1 q2 q3 hb ho
      go_wp2_with fail
      refine (leafHash_any s _ l _ hks hrx fr HKx).mono ?_
      rintro e w2 ⟨v2, rfl, ho2, hb2⟩
      have hq2 := below_chain hbx hbx.size hb2
      have ho3 := hox.up hb2
      have hl2 : (leafH s l).length = 32 := tagH_length _ _
      generalize leafH s l = h at *
      obtain ⟨A4, c4, rfl⟩ := ho2.form' hl2
      clear hl2
      have hr4 : RdS w2 w.heap.size (.slice A4 32 c4) h := ho2.rdS
      clear hox hb2 hbx hbx0 hrx ho2 a1 a2
      have hbz : Below w2.heap.size w2 (w2.alloc (.cells #[.slice A4 32 c4] 27)) := (Below.refl _ _).alloc (Nat.le_refl _) _
      have hc5 : (w2.alloc (.cells #[.slice A4 32 c4] 27)).cell? ⟨w2.heap.size, 0, none⟩ = some (.slice A4 32 c4) := blk_cell (heap_alloc_new w2 _) 0
      go_wp2_with (at_builtin; refine wpList_append_row rfl (.tmp 15) (.tmp 21) _ rfl i0 Tryz.underlying107 hi hz hsz hby rfl (ho3.up hbz) rfl hc5 (hr4.up hbz) (Nat.le_refl _) hl1 (Nat.le_trans hq2.size hbz.size) ?_; intro v5 w5 ho5 hg5; have hq5 : Below w.heap.size w w5 := (ho3.up hbz).below (hq2.alloc hq2.size _) (Nat.le_trans hq2.size hbz.size) hg5)
      go_roundw
      case rel => exact ⟨k + 1, by omega, by go_num, by rw [HS.out]; exact ho5, hq5⟩
      case measure => simp [intOf]; omega
    · have i2 : ¬ (k : Int) < (n : Int) := by omega
      obtain rfl : k = n := by omega
      have hfull : (leaves ps).take k = leaves ps := List.take_of_length_le (by unfold leaves; rw [List.length_map, ← HN.out]; exact Nat.le_refl _)
      have hll : (leaves ps).length ≤ 2 ^ 17 := by unfold leaves; rw [List.length_map, ← HN.out]; omega
      rw [hfull] at ho
      clear hfull
      have hrow0 : ∃ L, L = leaves ps := ⟨_, rfl⟩
      obtain ⟨L, hL⟩ := hrow0
      rw [← hL] at ho hll ⊢
      have HLL := Lib.hid hL
      clear hL HN HP HL
      have hr0 := ho.rowS
      obtain ⟨Ap, cp, rfl⟩ := hr0.form
      clear ho
      go_wp2_with fail
      have hO1 := (OwnRR.one hr0).more hb.size
      have hbx : Below w.heap.size w (wr.alloc (.cells #[.slice Ap L.length cp] 107)) := hb.alloc hb.size _
      have hrx := hr0.up (w' := wr.alloc (.cells #[.slice Ap L.length cp] 107)) ((Below.refl _ _).alloc (Nat.le_refl _) _)
      clear hr0 hb
      generalize wr.alloc (.cells #[.slice Ap L.length cp] 107) = w1 at *
      go_loopw [3, 6] (fun rv ov W => ∃ t e : Nat, t + e = 17 ∧ (upN t L).length ≤ 2 ^ e ∧ Hid (∀ j, j < t → 2 ≤ (upN j L).length) ∧ RowS W w.heap.size rv (upN t L) ∧ OwnRR W w.heap.size w.heap.size ov (levN L t) ∧ Below w.heap.size w W)
        (fun rv _ _ => sliceLn rv)
      case atStart => exact ⟨0, 17, rfl, hll, Lib.hid (fun j hj => absurd hj (by omega)), hrx, hO1, hbx⟩
      case round =>
        clear hrx hO1 hbx
        rename World => wo
        obtain ⟨t, e, hte, hle, HG, hr, ho, hb⟩ := hrel
        obtain ⟨n, hn⟩ : ∃ n, n = (upN t L).length := ⟨_, rfl⟩
        obtain ⟨Ar, cr, rfl⟩ := hr.form
        obtain ⟨Ao, co, rfl⟩ := ho.form
        rw [← hn] at hr hle ⊢
        have hn17 : n ≤ 2 ^ 17 := Nat.le_trans hle (Nat.pow_le_pow_right (by omega) (by omega))
        have hn17 : n ≤ 131072 := hn17
        by_cases hlt : 1 < n
        · have i1 : (1 : Int) < (n : Int) := by omega
          have HN := Lib.hid hn
          clear hn
          go_wp2_with fail
          go_loopw [7, 8] (fun av i W => ∃ q : Nat, q ≤ n ∧ q % 2 = 0 ∧ i = .int .i64 (q : Int) ∧ OwnR W w.heap.size wo.heap.size av (pairUp nodeH ((upN t L).take q)) ∧ Below wo.heap.size wo W)
            (fun _ i _ => n - (intOf i).toNat)
          case atStart => exact ⟨0, by omega, by omega, rfl, by rw [List.take_zero]; exact OwnR.nil _ _ _, Below.refl _ _⟩
          case round =>
            obtain ⟨q, hqn, hq2, rfl, hoa, hba⟩ := hrel
            have hrq := hr.up hba
            have hpl : (pairUp nodeH ((upN t L).take q)).length ≤ 1000000000 := by rw [pairUp_length, List.length_take]; omega
            by_cases hltq : q + 1 < n
            · have i3 : (q : Int) + 1 < (n : Int) := by omega
              have i2 : (q : Int) < (n : Int) := by omega
              have i4 : (0 : Int) ≤ (q : Int) := by omega
              have hqn0 : q < (upN t L).length := by have := HN.out; omega
              have hqn1 : q + 1 < (upN t L).length := by have := HN.out; omega
              rw [HN.out] at hr hrq
              obtain ⟨b, o, x0, rfl, -, hlb0, hcx0, -⟩ := hr.at_ q hqn0
              obtain ⟨b1, o1, x, e0, -, hlb, hcx, hrx⟩ := hrq.at_ q hqn0
              injection e0 with e0
              injection e0 with e0 e0'
              subst e0; subst e0'
              have hx0 := (hba.cell (p := ⟨b, o + q, none⟩) hlb0).symm.trans hcx
              obtain ⟨b', o', y, e1, -, -, hcy, hry⟩ := hrq.at_ (q + 1) hqn1
              injection e1 with e1
              injection e1 with e1 e2 e3
              subst e1; subst e2
              have hy0 := (hba.cell (p := ⟨b, o + (q + 1), none⟩) hlb0).symm.trans hcy
              clear hcx0
              have HP := Lib.hid (pairUp_more q (upN t L) hq2 hqn1)
              generalize (upN t L)[q] = lx at *
              generalize (upN t L)[q + 1] = ly at *
              generalize pairUp nodeH ((upN t L).take q) = LL at *
              obtain ⟨Ax, kx, rfl⟩ := hrx.1.form
              obtain ⟨Ay, ky, rfl⟩ := hry.1.form
              obtain ⟨Aa, ka, rfl⟩ := hoa.form
              have hbz := below_chain hb hb.size hba
              have hbwo : w.heap.size ≤ wo.heap.size := hb.size
              have hKz := (hbz.block _ hnk).trans HK.out
              have hKd : wr.drew.heap[0]? = some (.cells kVals fr.1 fr.2) := hKz
              clear hr hrq
              go_wp2_with fail
              have hs1 : IntKind.i64.wrap ((q : Int) + 1) = (q : Int) + 1 := IntWalk.i64_in _ (by omega)
              have hs2 : (0 : Int) ≤ (q : Int) + 1 := by omega
              have hs3 : ((q : Int) + 1).toNat = q + 1 := by omega
              go_region_held_law (fun W => W.cell? ⟨b, o + q, none⟩ = some (.slice Ax lx.length kx) ∧ W.cell? ⟨b, o + (q + 1), none⟩ = some (.slice Ay ly.length ky))
                (first | exact ⟨hcx, hcy⟩ | exact ⟨hcx4, hcy4⟩ | exact ⟨hcx5, hcy5⟩ | exact ⟨hcx6, hcy6⟩)
                (first
                  | (go_at_call 122; (refine (nodeM_any _ _ lx ly wr.drew hrx.1 hry.1 fr hKd).mono ?_; rintro e w4 ⟨v4, rfl, ho4, hb4'⟩; have hb4 : Below wr.heap.size wr w4 := below_chain (Below.refl wr.heap.size wr).drew (Nat.le_refl _) hb4'; obtain ⟨A4, c4, rfl⟩ := ho4.form' (tagH_length _ _); have hx5 : Below w4.heap.size w4 (w4.alloc (.cells #[.slice A4 32 c4] 27)) := (Below.refl _ _).alloc (Nat.le_refl _) _; have hq5 := below_chain hb4 hb4.size hx5; have ho5 := hoa.up hq5; have hr4 : RdS w4 w.heap.size _ _ := ho4.rdS; have hr5 := hr4.up hx5; have hc5 : (w4.alloc (.cells #[.slice A4 32 c4] 27)).cell? ⟨w4.heap.size, 0, none⟩ = some (.slice A4 32 c4) := blk_cell (heap_alloc_new w4 _) 0; have hw5 := below_chain hba hba.size hq5; have hcx5 := (hw5.cell (p := ⟨b, o + q, none⟩) hlb0).trans hx0; have hcy5 := (hw5.cell (p := ⟨b, o + (q + 1), none⟩) hlb0).trans hy0; have hcx4 := (hb4.cell (p := ⟨b, o + q, none⟩) hlb).trans hcx; have hcy4 := (hb4.cell (p := ⟨b, o + (q + 1), none⟩) hlb).trans hcy))
                  | (rw [if_pos (by rfl)]; refine wp_append_row (.tmp 36) (.tmp 47) _ rfl i0 Tryz.underlying107 hi hz hsz hby rfl ho5 rfl hc5 hr5 hbwo hpl hw5.size ?_; intro v6 w6 ho6 hg6; have hw6 := ho5.below hw5 hw5.size hg6; have hcx6 := (hw6.cell (p := ⟨b, o + q, none⟩) hlb0).trans hx0; have hcy6 := (hw6.cell (p := ⟨b, o + (q + 1), none⟩) hlb0).trans hy0))
              simp only [Act.put, List.setIfInBounds_toArray, List.set_cons_zero, List.set_cons_succ, List.getElem_toArray, List.getElem_cons_zero, List.getElem_cons_succ]
              have hbo := hw6
              clear hx5 hq5 ho5 hr4 hr5 hc5 hw5 hcx5 hcy5 hcx4 hcy4 hcx6 hcy6 hw6 hg6 hb4 hb4' ho4 hcx hcy hx0 hy0 hs1 hs2 hs3 hKd hKz hbz
              go_wp2_with fail
              go_roundw
              case rel => exact ⟨q + 2, by omega, by omega, by go_num, by rw [HP.out]; exact ho6, hbo⟩
              case measure => simp [intOf]; omega
            · have i3 : ¬ (q : Int) + 1 < (n : Int) := by omega
              by_cases hod : n % 2 = 1
              · have i5 : (n : Int).tmod 2 = 1 := by rw [Int.tmod_eq_emod_of_nonneg (by omega)]; omega
                have hqe : q + 1 = n := by omega
                have i6 : IntKind.i64.wrap ((n : Int) - 1) = (q : Int) := by rw [IntKind.wrap_i64]; omega
                have i7 : (q : Int) < (n : Int) := by omega
                have i8 : (0 : Int) ≤ (q : Int) := by omega
                have hqn0 : q < (upN t L).length := by have := HN.out; omega
                rw [HN.out] at hr hrq
                obtain ⟨b, o, x, rfl, -, hlb, hcx, hrx⟩ := hrq.at_ q hqn0
                have hP : upN (t + 1) L = pairUp nodeH ((upN t L).take q) ++ [(upN t L)[q]] := pairUp_odd q (upN t L) hq2 (by rw [← HN.out]; exact hqe)
                generalize (upN t L)[q] = lx at *
                generalize pairUp nodeH ((upN t L).take q) = LL at *
                have HPP := Lib.hid hP
                clear hP
                obtain ⟨Ax, kx, rfl⟩ := hrx.1.form
                obtain ⟨Aa, ka, rfl⟩ := hoa.form
                have hbz := below_chain hb hb.size hba
                have hx5 : Below wr.heap.size wr (wr.alloc (.cells #[.slice Ax lx.length kx] 27)) := (Below.refl _ _).alloc (Nat.le_refl _) _
                have hc5 : (wr.alloc (.cells #[.slice Ax lx.length kx] 27)).cell? ⟨wr.heap.size, 0, none⟩ = some (.slice Ax lx.length kx) := blk_cell (heap_alloc_new wr _) 0
                have hw5 := below_chain hba hba.size hx5
                have ho5 := hoa.up hx5
                have hr5 := hrx.up hx5
                clear hoa hrx
                rw [← HN.out] at hr hrq
                go_wp2_with (first
                  | (at_builtin
                     refine wpList_append_row rfl (.tmp 53) (.tmp 60) _ rfl i0 Tryz.underlying107 hi hz hsz hby rfl ho5 rfl hc5 hr5 hb.size hpl hw5.size ?_
                     intro v6 WW ho6 hg6
                     have hbaz := ho5.below hw5 hw5.size hg6
                     have hoz : OwnR WW w.heap.size wo.heap.size v6 (upN (t + 1) L) := by rw [HPP.out]; exact ho6
                     have hoa := hoz
                     clear ho6 hg6 hc5 hr5 ho5 hcx hx5 HPP hw5
                     have hra := hoz.rowS
                     have ho2 := ho.up hbaz
                     have hbq := below_chain hb hb.size hbaz
                     have hlu : (upN (t + 1) L).length < n ∧ (upN (t + 1) L).length ≤ 2 ^ (e - 1) ∧ 1 ≤ e := by
                       rw [upN_len, ← HN.out]
                       rcases e with _ | e
                       · simp at hle; omega
                       · have : 2 ^ (e + 1) = 2 * 2 ^ e := by rw [Nat.pow_succ]; omega
                         rw [Nat.add_sub_cancel]
                         omega
                     have hGn : ∀ j, j < t + 1 → 2 ≤ (upN j L).length := fun j hj => by
                       by_cases hjt : j < t
                       · exact HG.out j hjt
                       · obtain rfl : j = t := by omega
                         rw [← HN.out]; omega
                     have hl1 : (levN L t).length ≤ 1000 := by rw [levN_length]; omega
                     have hS : Hid (levN L (t + 1) = levN L t ++ [upN (t + 1) L]) := Lib.hid rfl
                     have HU := Lib.hid (And.intro hlu hGn)
                     generalize hL1 : upN (t + 1) L = L1 at *
                     have HE := Lib.hid hL1
                     clear hL1
                     obtain ⟨Aq, kq, rfl⟩ := hoz.form
                     have hbx : Below WW.heap.size WW (WW.alloc (.cells #[.slice Aq L1.length kq] 107)) := (Below.refl _ _).alloc (Nat.le_refl _) _
                     have hc5 : (WW.alloc (.cells #[.slice Aq L1.length kq] 107)).cell? ⟨WW.heap.size, 0, none⟩ = some (.slice Aq L1.length kq) := blk_cell (heap_alloc_new WW _) 0
                     have hqx := below_chain hbq hbq.size hbx
                     clear hoz ho hr hrq hlu hGn hoa
                     generalize levN L t = Ls at *)
                  | (at_builtin; refine wpList_append_rows rfl (.tmp 63) (.tmp 65) _ rfl _ Tryz.underlying103 hi1 hz1 hsz1 hby1 rfl (ho2.up hbx) rfl hc5 (hra.up hbx) (Nat.le_refl _) hl1 hqx.size ?_; intro v5 w5 ho5 hg5; have hq5 : Below w.heap.size w w5 := (ho2.up hbx).below hqx hqx.size hg5; have hr5 : RowS w5 w.heap.size (.slice Aq L1.length kq) L1 := (hra.up hbx).grow ((ho2.up hbx).grows (Nat.le_refl _) hg5) (by decide) (by decide)))
                go_roundw
                case rel => exact ⟨t + 1, e - 1, by have := HU.out.1; omega, by rw [HE.out]; exact HU.out.1.2.1, Lib.hid HU.out.2, by rw [HE.out]; exact hr5, by rw [hS.out]; exact ho5, hq5⟩
                case measure => exact HU.out.1.1
              · have i5 : ¬ (n : Int).tmod 2 = 1 := by rw [Int.tmod_eq_emod_of_nonneg (by omega)]; omega
                have hqe : q = n := by omega
                have hfull : (upN t L).take q = upN t L := List.take_of_length_le (by rw [← HN.out]; omega)
                rw [hfull] at hoa
                clear hfull
                have hoz : OwnR wr w.heap.size wo.heap.size u7 (upN (t + 1) L) := hoa
                have hbaz := hba
                have hra := hoz.rowS
                have ho2 := ho.up hbaz
                have hbq := below_chain hb hb.size hbaz
                have hlu : (upN (t + 1) L).length < n ∧ (upN (t + 1) L).length ≤ 2 ^ (e - 1) ∧ 1 ≤ e := by
                  rw [upN_len, ← HN.out]
                  rcases e with _ | e
                  · simp at hle; omega
                  · have : 2 ^ (e + 1) = 2 * 2 ^ e := by rw [Nat.pow_succ]; omega
                    rw [Nat.add_sub_cancel]
                    omega
                have hGn : ∀ j, j < t + 1 → 2 ≤ (upN j L).length := fun j hj => by
                  by_cases hjt : j < t
                  · exact HG.out j hjt
                  · obtain rfl : j = t := by omega
                    rw [← HN.out]; omega
                have hl1 : (levN L t).length ≤ 1000 := by rw [levN_length]; omega
                have hS : Hid (levN L (t + 1) = levN L t ++ [upN (t + 1) L]) := Lib.hid rfl
                have HU := Lib.hid (And.intro hlu hGn)
                generalize hL1 : upN (t + 1) L = L1 at *
                have HE := Lib.hid hL1
                clear hL1
                obtain ⟨Aq, kq, rfl⟩ := hoz.form
                have hbx : Below wr.heap.size wr (wr.alloc (.cells #[.slice Aq L1.length kq] 107)) := (Below.refl _ _).alloc (Nat.le_refl _) _
                have hc5 : (wr.alloc (.cells #[.slice Aq L1.length kq] 107)).cell? ⟨wr.heap.size, 0, none⟩ = some (.slice Aq L1.length kq) := blk_cell (heap_alloc_new wr _) 0
                have hqx := below_chain hbq hbq.size hbx
                clear hoz ho hr hrq hlu hGn hoa
                generalize levN L t = Ls at *
                go_wp2_with (at_builtin; refine wpList_append_rows rfl (.tmp 63) (.tmp 65) _ rfl _ Tryz.underlying103 hi1 hz1 hsz1 hby1 rfl (ho2.up hbx) rfl hc5 (hra.up hbx) (Nat.le_refl _) hl1 hqx.size ?_; intro v5 w5 ho5 hg5; have hq5 : Below w.heap.size w w5 := (ho2.up hbx).below hqx hqx.size hg5; have hr5 : RowS w5 w.heap.size (.slice Aq L1.length kq) L1 := (hra.up hbx).grow ((ho2.up hbx).grows (Nat.le_refl _) hg5) (by decide) (by decide))
                go_roundw
                case rel => exact ⟨t + 1, e - 1, by have := HU.out.1; omega, by rw [HE.out]; exact HU.out.1.2.1, Lib.hid HU.out.2, by rw [HE.out]; exact hr5, by rw [hS.out]; exact ho5, hq5⟩
                case measure => exact HU.out.1.1
        · have i1 : ¬ (1 : Int) < (n : Int) := by omega
          have HU : Hid ((upN t L).length ≤ 1) := Lib.hid (by rw [← hn]; omega)
          have ht : t ≤ 17 := by omega
          clear hn hr hte hle
          go_wp2_with fail
          go_ret
          exact ⟨_, rfl, t, ht, by rw [← HLL.out]; exact HG.out, by rw [← HLL.out]; exact HU.out, by rw [← HLL.out]; exact ho, hb⟩
end Go.Proofs.YtniclaapiabmdaaGreatDoor
namespace Go.Proofs.YtniclaapiabmdaaGreatDoor
set_option maxRecDepth 100000
open Go Go.RowKit
set_option linter.unusedVariables false

set_option maxHeartbeats 1000000 in
theorem rootM_any (w : World) (v : Value) (ps : List Pr) (hr : RdP w w.heap.size v ps) (hnl : ∀ p ∈ ps, p.1.size ≤ maxLen) (fr : TypeId × Nat × Nat) (hk : w.heap[0]? = some (.cells kVals fr.1 fr.2)) :
    Calls Tryz.prog 30 #[v] w fun e w' => ∃ v', e = .returned (.tuple #[v', .int .i64 (rootM ps).2]) ∧ Own w' w.heap.size v' (rootM ps).1 ∧ Below w.heap.size w w' := by
  have hnk := blk_lt hk
  have HK := Lib.hid hk
  clear hk
  have C1 := ordered_any w v ps hr hnl
  have C2 := fun (w1 : World) (hb : Below w.heap.size w w1) (h0 : ps.length ≤ 65536) => by
    have e1 : w1.heap[0]? = some (.cells kVals fr.1 fr.2) := (hb.block _ hnk).trans HK.out
    have e2 : RdP w1 w1.heap.size v ps := (hr.below hb).more hb.size
    exact rows_any w1 v ps e2 hnl h0 fr e1
  obtain ⟨A, c, rfl, hc, hm, hp⟩ := hr
  unfold maxLen at hm
  obtain ⟨n, hn⟩ : ∃ n, n = ps.length := ⟨_, rfl⟩
  rw [← hn] at hc C1 C2 ⊢
  have HR := Lib.hid (fun h : ordB ps = false => rootM_no h)
  have HR0 := Lib.hid (fun (h : ordB ps = true) (h0 : ps.length = 0) => rootM_nil h h0)
  have HR1 := Lib.hid (fun (h : ordB ps = true) (h0 : 0 < ps.length) => rootM_some h h0)
  generalize rootM ps = R at *
  have HN := Lib.hid hn
  clear hn
  replace C1 := Lib.hid C1
  replace C2 := Lib.hid C2
  go_enter Tryz.func30, Tryz.ntmps30
  go_wp2_with fail
  refine C1.out.mono ?_
  rintro e w1 ⟨rfl, hb1⟩
  clear C1
  cases ho : ordB ps with
  | false =>
    have hR : R = ([], 60) := HR.out ho
    subst hR
    go_wp2_with fail
    go_ret2
    exact ⟨_, rfl, Own.nil _ _, hb1⟩
  | true =>
    have hn1 : n ≤ 65536 := by rw [HN.out]; exact ordB_len ho
    by_cases h0 : n = 0
    · have hR : R = (rootE, 0) := HR0.out ho (by have := HN.out; omega)
      subst hR
      subst h0
      go_wp2_with fail
      refine (emptyRoot_any w1 fr ((hb1.block _ hnk).trans HK.out)).mono ?_
      rintro e w2 ⟨v2, rfl, ho2, hb2⟩
      have hq := below_chain hb1 hb1.size hb2
      go_wp2_with fail
      go_ret2
      exact ⟨_, rfl, ho2.more hb1.size, hq⟩
    · have hR : R = (rootH n (rowT nodeH (leaves ps)), 0) := by rw [HN.out]; exact HR1.out ho (by have := HN.out; omega)
      subst hR
      have i1 : ¬ (n : Int) = 0 := by omega
      go_wp2_with fail
      refine (C2.out w1 hb1 hn1).mono ?_
      rintro e w2 ⟨v2, rfl, t, ht, hG, hU, ho2, hb2⟩
      have hll : 0 < (leaves ps).length := by unfold leaves; rw [List.length_map, ← HN.out]; omega
      have hpos := upN_pos (leaves ps) hll t
      have hroot := upN_root (leaves ps) t hG hU
      have hlen : (levN (leaves ps) t).length = t + 1 := levN_length _ _
      obtain ⟨b, x, hA, -, hlb, hcx, hrx⟩ : ∃ b x, (∃ c, v2 = .slice (some ⟨b, 0, none⟩) (t + 1) c) ∧ True ∧ b < w2.heap.size ∧ w2.cell? ⟨b, t, none⟩ = some x ∧ RowS w2 w1.heap.size x (upN t (leaves ps)) := by
        obtain ⟨A2, c2, rfl⟩ := ho2.form
        obtain ⟨b, x, rfl, -, h3, h4, h5⟩ := ho2.at_ t (by rw [levN_length]; omega)
        refine ⟨b, x, ⟨c2, by rw [levN_length]⟩, trivial, h3, h4, ?_⟩
        have hg := levN_get (leaves ps) t t (Nat.le_refl _)
        rw [List.getElem?_eq_getElem (by rw [levN_length]; omega)] at hg
        injection hg with hg
        rw [← hg]
        exact h5
      obtain ⟨c2, rfl⟩ := hA
      have hbz := below_chain hb1 hb1.size hb2
      obtain ⟨A3, c3, rfl⟩ := hrx.form
      obtain ⟨b3, o3, y, rfl, -, hlb3, hcy, hry⟩ := hrx.at_ 0 hpos
      have hyv : (upN t (leaves ps))[0] = rowT nodeH (leaves ps) := by
        rw [← hroot]
        have gen : ∀ (x : List (List UInt8)) (h : 0 < x.length), x[0] = x.headD [] := fun x h => by
          cases x with
          | nil => simp at h
          | cons a l => rfl
        exact gen _ hpos
      rw [hyv] at hry
      have HH : Hid (rootH n (rowT nodeH (leaves ps)) = shaSum (formB (strBytes wRoot) ++ formBs [be n 8, rowT nodeH (leaves ps)])) := Lib.hid rfl
      clear hyv hroot ho2 hG hU hlen HR HR0 HR1
      generalize (upN t (leaves ps)).length = l1 at *
      generalize hh : rowT nodeH (leaves ps) = h at *
      have HHH := Lib.hid hh
      clear hh
      obtain ⟨A5, c5, rfl⟩ := hry.1.form
      rw [Nat.add_zero] at hcy
      obtain ⟨m, hm1⟩ : ∃ m, m = t + 1 := ⟨_, rfl⟩
      rw [← hm1]
      have j1 : IntKind.i64.wrap ((m : Int) - 1) = (t : Int) := by rw [IntKind.wrap_i64]; omega
      have j2 : (t : Int) < (m : Int) := by omega
      have j3 : (0 : Int) ≤ (t : Int) := by omega
      have j4 : (0 : Int) < (l1 : Int) := by omega
      have hk2 := (hbz.block _ hnk).trans HK.out
      have hnn : n ≤ 9223372036854775807 := by omega
      clear hm1 hrx
      go_wp2_with fail
      go_region_held_law (fun W => W.cell? ⟨b, t, none⟩ = some (.slice (some ⟨b3, o3, none⟩) l1 c3) ∧ W.cell? ⟨b3, o3, none⟩ = some (.slice A5 h.length c5))
        (first | exact ⟨hcx, hcy⟩ | exact ⟨hcx4, hcy4⟩ | exact ⟨hcx5, hcy5⟩ | exact ⟨hcx6, hcy6⟩)
        (first
          | (go_at_call 71; (refine (number_any n _ hnn).mono ?_; rintro e w4 ⟨v4, rfl, ho4, hb4'⟩; have hb4 : Below w2.heap.size w2 w4 := below_chain (Below.refl w2.heap.size w2).drew (Nat.le_refl _) hb4'; obtain ⟨A4, c4, rfl⟩ := ho4.form' (be_length n 8); have hp := partsA2 w4 (.slice A4 8 c4) (.slice A5 h.length c5) (be n 8) h 27 ho4.rd (hry.1.up (Nat.le_refl _) hb4); have hx5 : Below w4.heap.size w4 (w4.alloc (.cells #[.slice A4 8 c4, .slice A5 h.length c5] 27)) := (Below.refl _ _).alloc (Nat.le_refl _) _; have hq5 := below_chain hb4 hb4.size hx5; have hz5 := below_chain hbz hbz.size hq5; have hk5 := (hz5.block _ hnk).trans HK.out; have hcx4 := (hb4.cell (p := ⟨b, t, none⟩) hlb).trans hcx; have hcy4 := (hb4.cell (p := ⟨b3, o3, none⟩) hlb3).trans hcy; have hcx5 := (hq5.cell (p := ⟨b, t, none⟩) hlb).trans hcx; have hcy5 := (hq5.cell (p := ⟨b3, o3, none⟩) hlb3).trans hcy))
          | (go_at_call 70; (refine (tagged_any wRoot _ [be n 8, h] _ hp (by unfold maxLen wRoot; decide) (by simp) fr hk5).mono ?_; rintro e w6 ⟨v6, rfl, ho6, hb6⟩; have hq6 := below_chain hq5 hq5.size hb6; have hcx6 := (hq6.cell (p := ⟨b, t, none⟩) hlb).trans hcx; have hcy6 := (hq6.cell (p := ⟨b3, o3, none⟩) hlb3).trans hcy)))
      have hbo := below_chain hz5 hz5.size hb6
      go_wp2_with fail
      go_ret2
      exact ⟨_, rfl, by rw [HHH.out, HH.out]; exact ho6.more hz5.size, hbo⟩
end Go.Proofs.YtniclaapiabmdaaGreatDoor
namespace Go.Proofs.YtniclaapiabmdaaGreatDoor
set_option maxRecDepth 100000
open Go Go.RowKit
set_option linter.unusedVariables false
variable {w w' : World} {B : Nat}

/-- a way handed in -/
def PathV (w : World) (B : Nat) (v : Value) (ps : List (List UInt8)) : Prop :=
  ∃ A c, v = .slice A ps.length c ∧ ps.length ≤ c ∧ c ≤ maxLen ∧ (0 < ps.length → ∃ b o, A = some ⟨b, o, none⟩ ∧ b < B ∧ ∀ j (h : j < ps.length), ∃ x, w.cell? ⟨b, o + j, none⟩ = some x ∧ Rd w B x ps[j])
theorem PathV.below {v : Value} {ps : List (List UInt8)} (h : PathV w B v ps) (hb : Below B w w') : PathV w' B v ps := by
  obtain ⟨A, c, rfl, h1, h2, hp⟩ := h
  refine ⟨A, c, rfl, h1, h2, fun h0 => ?_⟩
  obtain ⟨b, o, rfl, hlt, hc⟩ := hp h0
  refine ⟨b, o, rfl, hlt, fun j hj => ?_⟩
  obtain ⟨x, q2, q3⟩ := hc j hj
  exact ⟨x, (hb.cell (p := ⟨b, o + j, none⟩) hlt).trans q2, q3.below hb⟩
theorem PathV.more {B' : Nat} {v : Value} {ps : List (List UInt8)} (h : PathV w B v ps) (hB : B ≤ B') : PathV w B' v ps := by
  obtain ⟨A, c, rfl, h1, h2, hp⟩ := h
  refine ⟨A, c, rfl, h1, h2, fun h0 => ?_⟩
  obtain ⟨b, o, rfl, hlt, hc⟩ := hp h0
  refine ⟨b, o, rfl, by omega, fun j hj => ?_⟩
  obtain ⟨x, q2, q3⟩ := hc j hj
  exact ⟨x, q2, q3.more hB⟩
/-- what a leaf says -/
structure Lf where
  at_ : Int
  key : ByteArray
  val : List UInt8
  path : List (List UInt8)
/-- a leaf handed in -/
def LeafV (w : World) (B : Nat) (v : Value) (l : Lf) : Prop :=
  ∃ sv pv, v = .agg #[.int .i64 l.at_, .string l.key, sv, pv] ∧ Rd w B sv l.val ∧ PathV w B pv l.path ∧ l.key.size ≤ maxLen ∧ -9223372036854775808 ≤ l.at_ ∧ l.at_ ≤ 9223372036854775807
theorem LeafV.below {v : Value} {l : Lf} (h : LeafV w B v l) (hb : Below B w w') : LeafV w' B v l := by
  obtain ⟨sv, pv, rfl, h1, h2, h3⟩ := h
  exact ⟨sv, pv, rfl, h1.below hb, h2.below hb, h3⟩
theorem LeafV.more {B' : Nat} {v : Value} {l : Lf} (h : LeafV w B v l) (hB : B ≤ B') : LeafV w B' v l := by
  obtain ⟨sv, pv, rfl, h1, h2, h3⟩ := h
  exact ⟨sv, pv, rfl, h1.more hB, h2.more hB, h3⟩
def fitsB (n : Int) (l : Lf) : Bool := decide (1 ≤ n ∧ n ≤ 65536 ∧ 0 ≤ l.at_ ∧ l.at_ < n) && (l.path.all (fun x => decide (x.length = 32)) && (keyB l.key && decide (l.val.length ≤ 65535)))
def holdsB (root : List UInt8) (n : Int) (l : Lf) : Bool := fitsB n l && (match upT nodeH (leafH l.key l.val) l.at_.toNat n.toNat l.path with | none => false | some h => decide (rootH n.toNat h = root))

end Go.Proofs.YtniclaapiabmdaaGreatDoor
namespace Go.Proofs.YtniclaapiabmdaaGreatDoor
set_option maxRecDepth 100000
open Go Go.RowKit
set_option linter.unusedVariables false
variable {w w' : World} {B : Nat}

theorem PathV.tail {b o c n : Nat} {x : List UInt8} {q : List (List UInt8)} (h : PathV w B (.slice (some ⟨b, o, none⟩) n c) (x :: q)) : PathV w B (.slice (some ⟨b, o + 1, none⟩) (n - 1) (c - 1)) q ∧ n = q.length + 1 ∧ 1 ≤ c ∧ c ≤ maxLen ∧ n ≤ c ∧ ∃ y, w.cell? ⟨b, o, none⟩ = some y ∧ Rd w B y x := by
  obtain ⟨A, c', e, h1, h2, hp⟩ := h
  injection e with e1 e2 e3
  subst e2; subst e3
  obtain ⟨b', o', rfl, hb, hc⟩ := hp (by simp)
  injection e1 with e1
  injection e1 with e1 e2
  subst e1; subst e2
  simp only [List.length_cons] at h1 ⊢
  refine ⟨⟨_, _, rfl, by omega, by omega, fun h0 => ⟨b, o + 1, rfl, hb, fun j hj => ?_⟩⟩, by first | trivial | rfl, by omega, h2, by omega, ?_⟩
  · obtain ⟨y, hy, hr⟩ := hc (j + 1) (by simp; omega)
    refine ⟨y, ?_, by simpa using hr⟩
    rw [← hy, Nat.add_assoc, Nat.add_comm 1 j]
  · obtain ⟨y, hy, hr⟩ := hc 0 (by simp)
    exact ⟨y, by simpa using hy, by simpa using hr⟩
theorem PathV.none_ (A : Option Addr) (c : Nat) (hc : c ≤ maxLen) : PathV w B (.slice A 0 c) [] := ⟨A, c, rfl, Nat.zero_le _, hc, fun h => absurd h (by simp)⟩
theorem PathV.form {v : Value} {q : List (List UInt8)} (h : PathV w B v q) : ∃ A c, v = .slice A q.length c := by
  obtain ⟨A, c, rfl, _⟩ := h
  exact ⟨A, c, rfl⟩

def endB (root : List UInt8) (n : Nat) (o : Option (List UInt8)) : Bool := match o with | none => false | some h => decide (rootH n h = root)
end Go.Proofs.YtniclaapiabmdaaGreatDoor
namespace Go.Proofs.YtniclaapiabmdaaGreatDoor
set_option maxRecDepth 100000
open Go Go.RowKit
set_option linter.unusedVariables false
variable {w w' : World} {B : Nat}

/-- a leaf in a row of leaves -/
def LeafAt (w : World) (B b o : Nat) (l : Lf) : Prop :=
  ∃ sv pv, w.cell? ⟨b, o, none⟩ = some (.int .i64 l.at_) ∧ w.cell? ⟨b, o + 1, none⟩ = some (.string l.key) ∧ w.cell? ⟨b, o + 2, none⟩ = some sv ∧ w.cell? ⟨b, o + 3, none⟩ = some pv ∧ LeafV w B (.agg #[.int .i64 l.at_, .string l.key, sv, pv]) l
/-- leaves handed in -/
def LeavesV (w : World) (B : Nat) (v : Value) (ls : List Lf) : Prop :=
  ∃ A c, v = .slice A ls.length c ∧ ls.length ≤ c ∧ c ≤ maxLen ∧ (0 < ls.length → ∃ b o, A = some ⟨b, o, none⟩ ∧ b < B ∧ ∀ j (h : j < ls.length), LeafAt w B b (o + j * 4) ls[j])
theorem LeafAt.below {b o : Nat} {l : Lf} (h : LeafAt w B b o l) (hb : Below B w w') (hl : b < B) : LeafAt w' B b o l := by
  obtain ⟨sv, pv, h0, h1, h2, h3, h4⟩ := h
  exact ⟨sv, pv, (hb.cell (p := ⟨b, o, none⟩) hl).trans h0, (hb.cell (p := ⟨b, o + 1, none⟩) hl).trans h1, (hb.cell (p := ⟨b, o + 2, none⟩) hl).trans h2, (hb.cell (p := ⟨b, o + 3, none⟩) hl).trans h3, h4.below hb⟩
theorem LeafAt.more {B' b o : Nat} {l : Lf} (h : LeafAt w B b o l) (hB : B ≤ B') : LeafAt w B' b o l := by
  obtain ⟨sv, pv, h0, h1, h2, h3, h4⟩ := h
  exact ⟨sv, pv, h0, h1, h2, h3, h4.more hB⟩
theorem LeavesV.below {v : Value} {ls : List Lf} (h : LeavesV w B v ls) (hb : Below B w w') : LeavesV w' B v ls := by
  obtain ⟨A, c, rfl, h1, h2, hp⟩ := h
  refine ⟨A, c, rfl, h1, h2, fun h0 => ?_⟩
  obtain ⟨b, o, rfl, hlt, hc⟩ := hp h0
  exact ⟨b, o, rfl, hlt, fun j hj => (hc j hj).below hb hlt⟩
theorem LeavesV.more {B' : Nat} {v : Value} {ls : List Lf} (h : LeavesV w B v ls) (hB : B ≤ B') : LeavesV w B' v ls := by
  obtain ⟨A, c, rfl, h1, h2, hp⟩ := h
  refine ⟨A, c, rfl, h1, h2, fun h0 => ?_⟩
  obtain ⟨b, o, rfl, hlt, hc⟩ := hp h0
  exact ⟨b, o, rfl, by omega, fun j hj => (hc j hj).more hB⟩
structure Pf where
  n : Int
  ls : List Lf
/-- a proof handed in -/
def ProofV (w : World) (B : Nat) (v : Value) (p : Pf) : Prop :=
  ∃ lv, v = .agg #[.int .i64 p.n, lv] ∧ LeavesV w B lv p.ls ∧ -9223372036854775808 ≤ p.n ∧ p.n ≤ 9223372036854775807
theorem ProofV.below {v : Value} {p : Pf} (h : ProofV w B v p) (hb : Below B w w') : ProofV w' B v p := by
  obtain ⟨lv, rfl, h1, h2⟩ := h
  exact ⟨lv, rfl, h1.below hb, h2⟩
theorem ProofV.more {B' : Nat} {v : Value} {p : Pf} (h : ProofV w B v p) (hB : B ≤ B') : ProofV w B' v p := by
  obtain ⟨lv, rfl, h1, h2⟩ := h
  exact ⟨lv, rfl, h1.more hB, h2⟩

def verifyB (root : List UInt8) (key : ByteArray) (val : List UInt8) (p : Pf) : Bool := match p.ls with
  | [l] => (l.key.toList == key.toList) && (sameB l.val val && holdsB root p.n l)
  | _ => false
end Go.Proofs.YtniclaapiabmdaaGreatDoor
namespace Go.Proofs.YtniclaapiabmdaaGreatDoor
set_option maxRecDepth 100000
open Go Go.RowKit
set_option linter.unusedVariables false
variable {w w' : World} {B : Nat}

/-- a leaf's way made: its value, its way -/
def leafM (ps : List Pr) (i : Nat) : Lf := ⟨(i : Int), (ps.getD i (⟨#[]⟩, [])).1, (ps.getD i (⟨#[]⟩, [])).2, wayT nodeH (leaves ps) i⟩
/-- a leaf of the call's own -/
def LeafN (w : World) (B0 B : Nat) (v : Value) (l : Lf) : Prop :=
  ∃ sv pv, v = .agg #[.int .i64 l.at_, .string l.key, sv, pv] ∧ Own w B sv l.val ∧ OwnR w B0 B pv l.path
end Go.Proofs.YtniclaapiabmdaaGreatDoor
namespace Go.Proofs.YtniclaapiabmdaaGreatDoor
set_option maxRecDepth 100000
open Go Go.RowKit
set_option linter.unusedVariables false
variable {w w' : World} {B : Nat}

def absentB (root : List UInt8) (key : ByteArray) (p : Pf) : Bool := keyB key && match p.ls with
  | [] => decide (p.n = 0) && sameB root rootE
  | [l] => ((decide (l.at_ = 0) && !(ltS l.key key || l.key.toList == key.toList)) || (decide (l.at_ = IntKind.i64.wrap (p.n - 1)) && ltS l.key key)) && holdsB root p.n l
  | [a, b] => (decide (IntKind.i64.wrap (a.at_ + 1) = b.at_) && (ltS a.key key && ltS key b.key)) && (holdsB root p.n a && holdsB root p.n b)
  | _ => false
end Go.Proofs.YtniclaapiabmdaaGreatDoor
namespace Go.Proofs.YtniclaapiabmdaaGreatDoor
set_option maxRecDepth 100000
open Go Go.RowKit
set_option linter.unusedVariables false
variable {w w' : World} {B : Nat}

/-- the hashes beside a leaf's way in the first k rows -/
def wayK (L : List (List UInt8)) (i : Nat) : Nat → List (List UInt8)
  | 0 => []
  | k + 1 => wayK L i k ++ (if ((i / 2 ^ k) ^^^ 1) < (upN k L).length then [(upN k L).getD ((i / 2 ^ k) ^^^ 1) []] else [])
end Go.Proofs.YtniclaapiabmdaaGreatDoor
namespace Go.Proofs.YtniclaapiabmdaaGreatDoor
set_option maxRecDepth 100000
open Go Go.RowKit
set_option linter.unusedVariables false

theorem bl_irrefl : ∀ a : List UInt8, Op.bytesLess a a = false
  | [] => rfl
  | a :: l => by
    have : ¬ a < a := by rw [UInt8.lt_iff_toNat_lt]; omega
    simp [Op.bytesLess, bl_irrefl l, this]
theorem bl_cons (a b : UInt8) (l m : List UInt8) : Op.bytesLess (a :: l) (b :: m) = true ↔ a < b ∨ (a = b ∧ Op.bytesLess l m = true) := by
  simp [Op.bytesLess]
theorem bl_trans : ∀ a b c : List UInt8, Op.bytesLess a b = true → Op.bytesLess b c = true → Op.bytesLess a c = true
  | _, _, [], _, h => by simp [Op.bytesLess] at h
  | _, [], _ :: _, h, _ => by cases ‹List UInt8› <;> simp [Op.bytesLess] at h
  | [], b :: l, c :: m, h1, h2 => rfl
  | a :: k, b :: l, c :: m, h1, h2 => by
    rw [bl_cons] at h1 h2 ⊢
    simp only [UInt8.lt_iff_toNat_lt, ← UInt8.toNat_inj] at h1 h2 ⊢
    rcases h1 with h1 | ⟨h1, h1'⟩ <;> rcases h2 with h2 | ⟨h2, h2'⟩
    · left; omega
    · left; omega
    · left; omega
    · right; exact ⟨by omega, bl_trans k l m h1' h2'⟩
theorem bl_tri : ∀ a b : List UInt8, Op.bytesLess a b = false → a ≠ b → Op.bytesLess b a = true
  | [], [], _, h => absurd rfl h
  | [], _ :: _, h, _ => by simp [Op.bytesLess] at h
  | _ :: _, [], _, _ => rfl
  | a :: l, b :: m, h, hne => by
    rw [bl_cons]
    have h' : ¬ (a < b ∨ (a = b ∧ Op.bytesLess l m = true)) := by rw [← bl_cons, h]; simp
    simp only [UInt8.lt_iff_toNat_lt, ← UInt8.toNat_inj] at h' ⊢
    by_cases hab : a.toNat = b.toNat
    · right
      refine ⟨hab.symm, bl_tri l m ?_ fun e => hne ?_⟩
      · cases hlm : Op.bytesLess l m with
        | false => rfl
        | true => exact absurd (Or.inr ⟨hab, hlm⟩) h'
      · rw [UInt8.toNat_inj.1 hab, e]
    · left
      by_cases hlt : a.toNat < b.toNat
      · exact absurd (Or.inl hlt) h'
      · omega
theorem toList_inj {a b : ByteArray} (h : a.toList = b.toList) : a = b := by
  rw [ByteArray.toList_eq, ByteArray.toList_eq] at h
  exact ByteArray.ext (Array.toList_inj.1 h)
theorem ltS_irrefl (a : ByteArray) : ltS a a = false := bl_irrefl _
theorem ltS_trans {a b c : ByteArray} (h : ltS a b = true) (k : ltS b c = true) : ltS a c = true := bl_trans _ _ _ h k
theorem ltS_tri {a b : ByteArray} (h : ltS a b = false) (k : a ≠ b) : ltS b a = true := bl_tri _ _ h fun e => k (toList_inj e)
theorem ltS_ne {a b : ByteArray} (h : ltS a b = true) : a ≠ b := fun e => by rw [e, ltS_irrefl] at h; cases h
theorem ltS_asym {a b : ByteArray} (h : ltS a b = true) : ltS b a = false := by
  cases hb : ltS b a with
  | false => rfl
  | true => have := ltS_trans h hb; rw [ltS_irrefl] at this; cases this

def hitB (ps : List Pr) (key : ByteArray) : Bool := match ps[placeM key ps]? with | some p => p.1.toList == key.toList | none => false
def leavesP (ps : List Pr) (key : ByteArray) : List Lf := if hitB ps key = true then [leafM ps (placeM key ps)] else
  (if 0 < placeM key ps then [leafM ps (placeM key ps - 1)] else []) ++ (if placeM key ps < ps.length then [leafM ps (placeM key ps)] else [])
/-- the proof about a key, or the error -/
def proveM (ps : List Pr) (key : ByteArray) : Pf × Int := if ordB ps = true ∧ keyB key = true then (⟨(ps.length : Int), leavesP ps key⟩, 0) else (⟨0, []⟩, 60)
end Go.Proofs.YtniclaapiabmdaaGreatDoor
namespace Go.Proofs.YtniclaapiabmdaaGreatDoor
set_option maxRecDepth 100000
open Go Go.RowKit
set_option linter.unusedVariables false
variable {w w' : World} {B : Nat}

/-- what a leaf's four cells say -/
def LfC (w : World) (c : List Value) (l : Lf) : Prop := ∃ sv pv, c = [.int .i64 l.at_, .string l.key, sv, pv] ∧ RdS w 0 sv l.val ∧ RowS w 0 pv l.path ∧ l.key.size ≤ maxLen ∧ -9223372036854775808 ≤ l.at_ ∧ l.at_ ≤ 9223372036854775807
theorem LfC.grow {c : List Value} {l : Lf} {E : TypeId} (h : LfC w c l) (hg : Grow w 0 E w') (h1 : 5 ≠ E) (h2 : 27 ≠ E) : LfC w' c l := by
  obtain ⟨sv, pv, e, q1, q2, q3⟩ := h
  exact ⟨sv, pv, e, q1.grow hg h1, q2.grow hg h1 h2, q3⟩
theorem LfC.up {c : List Value} {l : Lf} (h : LfC w c l) (hb : Below w.heap.size w w') : LfC w' c l := by
  obtain ⟨sv, pv, e, q1, q2, q3⟩ := h
  exact ⟨sv, pv, e, q1.up hb, q2.up hb, q3⟩
theorem LfC.len {c : List Value} {l : Lf} (h : LfC w c l) : c.length = 4 := by obtain ⟨sv, pv, e, _⟩ := h; rw [e]; rfl
theorem LfC.one {c : List Value} {l : Lf} (h : LfC w c l) : ∀ u ∈ c, u.oneCell' = true := by
  obtain ⟨sv, pv, e, q1, q2, _⟩ := h
  obtain ⟨A1, c1, rfl⟩ := q1.1.form
  obtain ⟨A2, c2, rfl⟩ := q2.form
  subst e
  intro u hu
  simp only [List.mem_cons, List.not_mem_nil, or_false] at hu
  rcases hu with rfl | rfl | rfl | rfl <;> rfl
abbrev OwnL (w : World) (B : Nat) (v : Value) (ls : List Lf) : Prop := OwnX 232 4 LfC w B v ls
theorem OwnL.up {v : Value} {ls : List Lf} (h : OwnL w B v ls) (hb : Below w.heap.size w w') : OwnL w' B v ls := OwnX.up h hb fun c a hc => hc.up hb
theorem OwnL.grow {v : Value} {ls : List Lf} {E : TypeId} (h : OwnL w B v ls) (hg : Grow w 0 E w') (h0 : 232 ≠ E) (h1 : 5 ≠ E) (h2 : 27 ≠ E) : OwnL w' B v ls := OwnX.grow h hg h0 fun c a hc => hc.grow hg h1 h2
/-- a proof of the call's own -/
def ProofN (w : World) (B : Nat) (v : Value) (p : Pf) : Prop := ∃ lv, v = .agg #[.int .i64 p.n, lv] ∧ OwnL w B lv p.ls
theorem ProofN.up {v : Value} {p : Pf} (h : ProofN w B v p) (hb : Below w.heap.size w w') : ProofN w' B v p := by
  obtain ⟨lv, rfl, hl⟩ := h
  exact ⟨lv, rfl, OwnL.up hl hb⟩
theorem ProofN.more {B' : Nat} {v : Value} {p : Pf} (h : ProofN w B v p) (hB : B' ≤ B) : ProofN w B' v p := by
  obtain ⟨lv, rfl, hl⟩ := h
  exact ⟨lv, rfl, OwnX.more hl hB⟩
/-- a leaf made, as cells -/
theorem LeafN.cells {v : Value} {l : Lf} (h : LeafN w 0 B v l) (hk : l.key.size ≤ maxLen) (h1 : -9223372036854775808 ≤ l.at_) (h2 : l.at_ ≤ 9223372036854775807) : ∃ A1 n1 c1 A2 n2 c2, v = .agg #[.int .i64 l.at_, .string l.key, .slice A1 n1 c1, .slice A2 n2 c2] ∧ LfC w [.int .i64 l.at_, .string l.key, .slice A1 n1 c1, .slice A2 n2 c2] l := by
  obtain ⟨sv, pv, rfl, q1, q2⟩ := h
  obtain ⟨A1, c1, rfl⟩ := q1.form
  obtain ⟨A2, c2, rfl⟩ := q2.form
  exact ⟨A1, _, c1, A2, _, c2, rfl, _, _, rfl, q1.rdS, q2.rowS, hk, h1, h2⟩

/-- the leaves that are told of places -/
def selM (ps : List Pr) (T : List Int) : List Lf := (T.filter fun i => decide (0 ≤ i ∧ i < (ps.length : Int))).map fun i => leafM ps i.toNat
end Go.Proofs.YtniclaapiabmdaaGreatDoor
namespace Go.Proofs.YtniclaapiabmdaaGreatDoor
set_option maxRecDepth 100000
open Go
set_option linter.unusedVariables false

/-- by rising keys -/
def Rise (l : List Pr) : Prop := l.Pairwise (fun p q => ltS p.1 q.1 = true)
/-- a key set, or gone -/
abbrev Chn := ByteArray × Option (List UInt8)
/-- what lies under a key -/
def getL : List Pr → ByteArray → Option (List UInt8)
  | [], _ => none
  | p :: l, s => if p.1 = s then some p.2 else getL l s
/-- the document's put, as its loop goes -/
def putG (c : Chn) : Bool → List Pr → List Pr
  | done, [] => if done then [] else [(c.1, c.2.getD [])]
  | done, p :: r => (if !done && !ltS p.1 c.1 then [(c.1, c.2.getD [])] else []) ++ (if p.1 = c.1 then [] else [p]) ++ putG c (done || (!done && !ltS p.1 c.1)) r
def putL (c : Chn) (l : List Pr) : List Pr := putG c c.2.isNone l

theorem getL_cons (p : Pr) (l : List Pr) (s : ByteArray) : getL (p :: l) s = if p.1 = s then some p.2 else getL l s := rfl
theorem getL_append (l l' : List Pr) (s : ByteArray) : getL (l ++ l') s = (getL l s).or (getL l' s) := by
  induction l with
  | nil => rfl
  | cons p l ih =>
    show getL (p :: (l ++ l')) s = _
    rw [getL_cons, getL_cons, ih]
    by_cases h : p.1 = s <;> simp [h]
theorem getL_mem {l : List Pr} {s : ByteArray} {v : List UInt8} (h : getL l s = some v) : (s, v) ∈ l := by
  induction l with
  | nil => cases h
  | cons p l ih =>
    unfold getL at h
    by_cases e : p.1 = s
    · rw [if_pos e] at h
      have : p = (s, v) := by rw [← e, ← Option.some.inj h]
      simp [this]
    · rw [if_neg e] at h
      exact List.mem_cons_of_mem _ (ih h)
theorem getL_none {l : List Pr} {s : ByteArray} : getL l s = none ↔ ∀ p ∈ l, p.1 ≠ s := by
  induction l with
  | nil => simp [getL]
  | cons p l ih =>
    unfold getL
    by_cases e : p.1 = s
    · simp [e]
    · simp [e, ih]
theorem Rise.get {l : List Pr} (h : Rise l) {p : Pr} (hp : p ∈ l) : getL l p.1 = some p.2 := by
  induction l with
  | nil => cases hp
  | cons q l ih =>
    obtain ⟨h1, h2⟩ := List.pairwise_cons.1 h
    unfold getL
    rcases List.mem_cons.1 hp with rfl | hp
    · simp
    · rw [if_neg (ltS_ne (h1 p hp))]
      exact ih h2 hp
theorem Rise.ext {l l' : List Pr} (h : Rise l) (h' : Rise l') (e : ∀ s, getL l s = getL l' s) : l = l' := by
  induction l generalizing l' with
  | nil =>
    cases l' with
    | nil => rfl
    | cons q l' => have := e q.1; simp [getL] at this
  | cons p l ih =>
    cases l' with
    | nil => have := e p.1; simp [getL] at this
    | cons q l' =>
      obtain ⟨h1, h2⟩ := List.pairwise_cons.1 h
      obtain ⟨g1, g2⟩ := List.pairwise_cons.1 h'
      have hpq : p.1 = q.1 := by
        refine Decidable.byContradiction fun hne => ?_
        have a1 := (e p.1).symm.trans (h.get (List.mem_cons_self ..))
        have a2 := (e q.1).trans (h'.get (List.mem_cons_self ..))
        have b1 := getL_mem a1
        have b2 := getL_mem a2
        rcases List.mem_cons.1 b1 with c1 | c1
        · exact hne (by rw [← c1])
        · rcases List.mem_cons.1 b2 with c2 | c2
          · exact hne (by rw [← c2])
          · have d1 := g1 _ c1
            have d2 := h1 _ c2
            rw [ltS_asym d1] at d2
            cases d2
      have hp2 : p.2 = q.2 := by
        have a1 := (h.get (List.mem_cons_self ..)).symm.trans (e p.1)
        rw [hpq, h'.get (List.mem_cons_self ..)] at a1
        exact Option.some.inj a1
      have hp : p = q := Prod.ext hpq hp2
      subst hp
      congr 1
      refine ih h2 g2 fun s => ?_
      have := e s
      unfold getL at this
      by_cases es : p.1 = s
      · rw [getL_none.2 fun x hx => ?_, getL_none.2 fun x hx => ?_]
        · exact fun k => ltS_ne (g1 x hx) (es.trans k.symm)
        · exact fun k => ltS_ne (h1 x hx) (es.trans k.symm)
      · simpa [es] using this

theorem putG_true (c : Chn) (l : List Pr) : putG c true l = l.filter (fun p => !decide (p.1 = c.1)) := by
  induction l with
  | nil => simp [putG]
  | cons p l ih =>
    unfold putG
    by_cases e : p.1 = c.1 <;> simp [e, ih]
theorem getL_strike (l : List Pr) (k s : ByteArray) : getL (l.filter (fun p => !decide (p.1 = k))) s = if s = k then none else getL l s := by
  induction l with
  | nil => simp [getL]
  | cons p l ih =>
    by_cases e : p.1 = k
    · rw [List.filter_cons_of_neg (by simp [e]), ih]
      by_cases es : s = k
      · simp [es]
      · rw [if_neg es, if_neg es, getL_cons, if_neg (fun h => es (h.symm.trans e))]
    · rw [List.filter_cons_of_pos (by simp [e])]
      rw [getL_cons, getL_cons, ih]
      by_cases es : p.1 = s
      · rw [if_pos es, if_pos es, if_neg (fun h => e (es.trans h))]
      · rw [if_neg es, if_neg es]
theorem getL_putF (c : Chn) (l : List Pr) (s : ByteArray) : getL (putG c false l) s = if s = c.1 then some (c.2.getD []) else getL l s := by
  induction l with
  | nil =>
    by_cases e : s = c.1
    · simp [putG, getL, e]
    · have : ¬ c.1 = s := fun h => e h.symm
      simp [putG, getL, e, this]
  | cons p l ih =>
    unfold putG
    cases hl : ltS p.1 c.1 with
    | true =>
      have hne := ltS_ne hl
      simp only [hne, Bool.not_true, Bool.and_false, Bool.or_false, if_false, Bool.false_eq_true, List.nil_append, List.singleton_append]
      rw [show getL (p :: putG c false l) s = if p.1 = s then some p.2 else getL (putG c false l) s from rfl, ih, show getL (p :: l) s = if p.1 = s then some p.2 else getL l s from rfl]
      by_cases es : p.1 = s
      · rw [if_pos es, if_pos es, if_neg (fun h => hne (es.trans h))]
      · rw [if_neg es, if_neg es]
    | false =>
      simp only [Bool.not_false, Bool.and_true, Bool.or_true, if_true, List.singleton_append, List.cons_append]
      rw [show ∀ t, getL ((c.1, c.2.getD []) :: t) s = if c.1 = s then some (c.2.getD []) else getL t s from fun _ => rfl]
      by_cases es : c.1 = s
      · simp [es]
      · have es' : ¬ s = c.1 := fun h => es h.symm
        rw [if_neg es, if_neg es', getL_append, putG_true, getL_strike, if_neg es']
        rw [show getL (p :: l) s = if p.1 = s then some p.2 else getL l s from rfl]
        by_cases e : p.1 = c.1
        · rw [if_pos e, if_neg (fun h => es' (h.symm.trans e))]; rfl
        · rw [if_neg e]
          rw [List.nil_append, getL_cons]
          by_cases ep : p.1 = s <;> simp [ep, getL_cons, show getL [] s = none from rfl]
theorem getL_putL (c : Chn) (l : List Pr) (s : ByteArray) : getL (putL c l) s = if s = c.1 then c.2 else getL l s := by
  unfold putL
  cases h : c.2 with
  | none => simp only [Option.isNone_none]; rw [putG_true, getL_strike]
  | some v => simp only [Option.isNone_some]; rw [getL_putF, h]; rfl

theorem mem_putF {c : Chn} {l : List Pr} {p : Pr} (h : p ∈ putG c false l) : p.1 = c.1 ∨ p ∈ l := by
  induction l with
  | nil => simp [putG] at h; exact .inl (by rw [h])
  | cons q l ih =>
    unfold putG at h
    cases hl : ltS q.1 c.1 with
    | true =>
      simp only [hl, Bool.not_true, Bool.and_false, Bool.or_false, if_false, Bool.false_eq_true, List.nil_append, List.mem_append] at h
      rcases h with h | h
      · split at h
        · cases h
        · exact .inr (by simp at h; simp [h])
      · rcases ih h with h | h
        · exact .inl h
        · exact .inr (List.mem_cons_of_mem _ h)
    | false =>
      simp only [hl, Bool.not_false, Bool.and_true, Bool.or_true, if_true, List.mem_append] at h
      rcases h with (h | h) | h
      · simp at h; exact .inl (by rw [h])
      · split at h
        · cases h
        · exact .inr (by simp at h; simp [h])
      · rw [putG_true] at h
        exact .inr (List.mem_cons_of_mem _ (List.mem_filter.1 h).1)
theorem Rise.putF {l : List Pr} (h : Rise l) (c : Chn) : Rise (putG c false l) := by
  induction l with
  | nil => simp [putG, Rise]
  | cons p l ih =>
    obtain ⟨h1, h2⟩ := List.pairwise_cons.1 h
    unfold putG
    cases hl : ltS p.1 c.1 with
    | true =>
      simp only [ltS_ne hl, Bool.not_true, Bool.and_false, Bool.or_false, if_false, Bool.false_eq_true, List.nil_append, List.singleton_append]
      refine List.pairwise_cons.2 ⟨fun q hq => ?_, ih h2⟩
      rcases mem_putF hq with e | hq
      · rw [e]; exact hl
      · exact h1 q hq
    | false =>
      simp only [Bool.not_false, Bool.and_true, Bool.or_true, if_true, List.singleton_append, List.cons_append]
      rw [putG_true]
      have hr : Rise (l.filter (fun p => !decide (p.1 = c.1))) := List.Pairwise.sublist List.filter_sublist h2
      by_cases e : p.1 = c.1
      · rw [if_pos e, List.nil_append]
        exact List.pairwise_cons.2 ⟨fun q hq => by rw [← e]; exact h1 q (List.mem_filter.1 hq).1, hr⟩
      · rw [if_neg e]
        have hc := ltS_tri hl e
        show Rise ((c.1, c.2.getD []) :: p :: l.filter (fun p => !decide (p.1 = c.1)))
        refine List.pairwise_cons.2 ⟨fun q hq => ?_, List.pairwise_cons.2 ⟨fun q hq => h1 q (List.mem_filter.1 hq).1, hr⟩⟩
        rcases List.mem_cons.1 hq with rfl | hq
        · exact hc
        · exact ltS_trans hc (h1 q (List.mem_filter.1 hq).1)
theorem Rise.put {l : List Pr} (h : Rise l) (c : Chn) : Rise (putL c l) := by
  unfold putL
  cases c.2 with
  | none => simp only [Option.isNone_none]; rw [putG_true]; exact List.Pairwise.sublist List.filter_sublist h
  | some v => simp only [Option.isNone_some]; exact h.putF c

/-! ### a branch's changes -/
/-- what a list of changes says of a key: nothing, gone, or a value -/
def getC : List Chn → ByteArray → Option (Option (List UInt8))
  | [], _ => none
  | c :: l, s => if c.1 = s then some c.2 else getC l s
/-- no key twice -/
def ApartC (l : List Chn) : Prop := l.Pairwise (fun p q => p.1 ≠ q.1)
/-- one more change, as the document's do has it -/
def doC (l : List Chn) (c : Chn) : List Chn := l.filter (fun x => !decide (x.1 = c.1)) ++ [c]
/-- the pairs as a branch sees them -/
def allM (l : List Pr) (cs : List Chn) : List Pr := cs.foldl (fun l c => putL c l) l

theorem getC_cons (c : Chn) (l : List Chn) (s : ByteArray) : getC (c :: l) s = if c.1 = s then some c.2 else getC l s := rfl
theorem ApartC.get {l : List Chn} (h : ApartC l) {c : Chn} (hc : c ∈ l) : getC l c.1 = some c.2 := by
  induction l with
  | nil => cases hc
  | cons d l ih =>
    obtain ⟨h1, h2⟩ := List.pairwise_cons.1 h
    rw [getC_cons]
    rcases List.mem_cons.1 hc with rfl | hc
    · simp
    · rw [if_neg (h1 c hc)]
      exact ih h2 hc
theorem ApartC.do {l : List Chn} (h : ApartC l) (c : Chn) : ApartC (doC l c) := by
  unfold doC
  refine List.pairwise_append.2 ⟨List.Pairwise.sublist List.filter_sublist h, by simp, fun a ha b hb => ?_⟩
  rw [List.mem_singleton.1 hb]
  simpa using (List.mem_filter.1 ha).2
theorem Rise.all {l : List Pr} (h : Rise l) (cs : List Chn) : Rise (allM l cs) := by
  induction cs generalizing l with
  | nil => exact h
  | cons c cs ih => exact ih (h.put c)
/-! ### pairs gathered in any order, then put in order; those of a prefix -/
theorem Rise.of_sorted {l : List Pr} (hs : l.Pairwise (fun p q => ltS q.1 p.1 = false)) (hd : l.Pairwise (fun p q => p.1 ≠ q.1)) : Rise l :=
  (hs.and hd).imp fun {p q} h => ltS_tri h.1 h.2.symm
theorem Rise.eq_of_mem {l l' : List Pr} (h : Rise l) (h' : Rise l') (e : ∀ p, p ∈ l ↔ p ∈ l') : l = l' := by
  refine h.ext h' fun s => ?_
  cases hs : getL l s with
  | some v => exact (h'.get ((e _).1 (getL_mem hs))).symm
  | none =>
    cases hs' : getL l' s with
    | none => rfl
    | some v => exact absurd (h.get ((e _).2 (getL_mem hs'))) (by rw [hs]; simp)
theorem Rise.filter {l : List Pr} (h : Rise l) (b : Pr → Bool) : Rise (l.filter b) := List.Pairwise.sublist List.filter_sublist h
theorem getL_filter (l : List Pr) (b : ByteArray → Bool) (s : ByteArray) : getL (l.filter (fun p => b p.1)) s = if b s = true then getL l s else none := by
  induction l with
  | nil => simp [getL]
  | cons p l ih =>
    by_cases e : b p.1 = true
    · rw [List.filter_cons_of_pos (by simpa using e), getL_cons, getL_cons, ih]
      by_cases es : p.1 = s
      · rw [if_pos es, if_pos es, if_pos (es ▸ e)]
      · rw [if_neg es, if_neg es]
    · rw [List.filter_cons_of_neg (by simpa using e), ih, getL_cons]
      by_cases es : p.1 = s
      · have : ¬ b s = true := es ▸ e
        rw [if_neg this, if_neg this]
      · rw [if_neg es]
theorem Rise.mem {l : List Pr} (h : Rise l) (p : Pr) : p ∈ l ↔ getL l p.1 = some p.2 := ⟨fun hp => h.get hp, fun hp => getL_mem hp⟩
end Go.Proofs.YtniclaapiabmdaaGreatDoor
namespace Go.Proofs.YtniclaapiabmdaaGreatDoor
set_option maxRecDepth 100000
open Go Go.RowKit
set_option linter.unusedVariables false

/-- the blocks that F names are maps -/
def AllMaps (w : World) (F : Nat → Prop) : Prop := ∀ k, F k → ∃ es c, w.heap[k]? = some (.map es c)

section
variable {w w' : World} {F : Nat → Prop} {B : Nat} {v : Value} {l : List UInt8}
theorem cell_map {p : Addr} {es : Array MapEntry} {c : Nat} (h : w.heap[p.block]? = some (.map es c)) : w.cell? p = none := by
  simp [World.cell?, h]
/-- bytes stay where maps alone have turned -/
theorem Rd.chg (h : Rd w B v l) (hc : Chg w w' F) (hF : AllMaps w F) (hB : B ≤ w.heap.size) : Rd w' B v l := by
  obtain ⟨A, c, hv, h1, h2, hp⟩ := h
  refine ⟨A, c, hv, h1, h2, fun h0 => ?_⟩
  obtain ⟨b, o, hA, hb, hcell⟩ := hp h0
  refine ⟨b, o, hA, hb, fun j hj => ?_⟩
  have h3 := hcell j hj
  have hn : ¬ F b := fun k => by
    obtain ⟨es, c, e⟩ := hF b k
    rw [cell_map (p := ⟨b, o + j, none⟩) e] at h3
    cases h3
  rw [cell_same (hc.block b (by omega) hn)]
  exact h3

/-- what an entry says: a value that reads as the bytes, or 'gone' -/
def EntryIs (w : World) (e : Value) : Option (List UInt8) → Prop
  | none => e = .agg #[.slice none 0 0, .bool true]
  | some l => ∃ sl, e = .agg #[sl, .bool false] ∧ Rd w w.heap.size sl l
theorem EntryIs.chg {e : Value} {x : Option (List UInt8)} (h : EntryIs w e x) (hc : Chg w w' F) (hF : AllMaps w F) : EntryIs w' e x := by
  cases x with
  | none => exact h
  | some l =>
    obtain ⟨sl, h1, h2⟩ := h
    exact ⟨sl, h1, (h2.chg hc hF (Nat.le_refl _)).more hc.size⟩
/-- what a layer's map says: nothing of a key, or an entry -/
def SaysF (w : World) (g : ByteArray → Option Value) (f : ByteArray → Option (Option (List UInt8))) : Prop :=
  ∀ s : ByteArray, s.size ≤ maxLen → (g s = none ∧ f s = none) ∨ ∃ e x, g s = some e ∧ f s = some x ∧ EntryIs w e x
theorem SaysF.chg {g : ByteArray → Option Value} {f : ByteArray → Option (Option (List UInt8))} (h : SaysF w g f) (hc : Chg w w' F) (hF : AllMaps w F) : SaysF w' g f := by
  intro s hs
  rcases h s hs with h | ⟨e, x, h1, h2, h3⟩
  · exact .inl h
  · exact .inr ⟨e, x, h1, h2, h3.chg hc hF⟩
theorem SaysF.put {g : ByteArray → Option Value} {f : ByteArray → Option (Option (List UInt8))} (h : SaysF w g f) (key : ByteArray) {e : Value} {x : Option (List UInt8)} (he : EntryIs w e x) :
    SaysF w (fun s => if s = key then some e else g s) (fun s => if s = key then some x else f s) := by
  intro s hs
  by_cases k : s = key
  · exact .inr ⟨e, x, by simp [k], by simp [k], he⟩
  · simpa [k] using h s hs
theorem SaysF.del {g : ByteArray → Option Value} {f : ByteArray → Option (Option (List UInt8))} (h : SaysF w g f) (key : ByteArray) :
    SaysF w (fun s => if s = key then none else g s) (fun s => if s = key then none else f s) := by
  intro s hs
  by_cases k : s = key
  · exact .inl (by simp [k])
  · simpa [k] using h s hs
end
/-- maps alone have turned -/
def Kept (w w' : World) : Prop := ∃ F, Chg w w' F ∧ AllMaps w F
section
variable {w w' w1 w2 : World}
theorem Kept.cell (h : Kept w w') {p : Addr} {v : Value} (e : w.cell? p = some v) : w'.cell? p = some v := by
  obtain ⟨F, h1, h2⟩ := h
  have hn : ¬ F p.block := fun k => by
    obtain ⟨es, c, e'⟩ := h2 _ k
    rw [cell_map e'] at e; cases e
  rw [cell_same (h1.block p.block (World.block_lt_of_cell? w p e) hn)]
  exact e
theorem Kept.rd {v : Value} {l : List UInt8} (h : Kept w w') (hr : Rd w w.heap.size v l) : Rd w' w'.heap.size v l := by
  obtain ⟨F, h1, h2⟩ := h
  exact (hr.chg h1 h2 (Nat.le_refl _)).more h1.size
theorem Kept.refl (w : World) : Kept w w := ⟨fun _ => False, Chg.refl _ _, fun _ h => h.elim⟩
theorem Kept.drew (w : World) : Kept w w.drew := ⟨fun _ => False, Chg.drew _ _, fun _ h => h.elim⟩
end
end Go.Proofs.YtniclaapiabmdaaGreatDoor
