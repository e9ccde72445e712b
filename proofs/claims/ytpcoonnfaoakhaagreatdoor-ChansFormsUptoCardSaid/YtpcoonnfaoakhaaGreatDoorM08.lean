/- Texts joined: MerkE1. -/
import Derived.Test.YtpcoonnfaoakhaaGreatDoorM06
import Derived.Test.YtpcoonnfaoakhaaGreatDoorM07
import Derived.Deep.RegionHeldLaw
import Derived.Test.YtpcoonnfaoakhaaGreatDoorM01
namespace Go.Proofs.YtpcoonnfaoakhaaGreatDoor
set_option maxRecDepth 100000
open Go Go.RowKit
set_option linter.unusedVariables false
def sliceLn : Value → Nat
  | .slice _ n _ => n
  | _ => 0

set_option maxHeartbeats 4000000 in
set_option maxRecDepth 100000 in
theorem rows_any (w : World) (v : Value) (ps : List Pr) (hr : RdP w w.heap.size v ps) (hnl : ∀ p ∈ ps, p.1.size ≤ maxLen) (hn0 : ps.length ≤ 65536) (fr : TypeId × Nat × Nat) (hk : w.heap[0]? = some (.cells kVals fr.1 fr.2)) :
    Calls Tryz.prog 102 #[v] w fun e w' => ∃ v', e = .returned v' ∧ ∃ t, t ≤ 17 ∧ (∀ j, j < t → 2 ≤ (upN j (leaves ps)).length) ∧ (upN t (leaves ps)).length ≤ 1 ∧ OwnRR w' w.heap.size w.heap.size v' (levN (leaves ps) t) ∧ Below w.heap.size w w' := by
  obtain ⟨i0, hi, hz, hsz, hby⟩ := info_parts Tryz.infoRow
  obtain ⟨i1, hi1, hz1, hsz1, hby1⟩ := info_parts Tryz.infoRows
  have hnk := blk_lt hk
  have HK := Lib.hid hk
  clear hk
  obtain ⟨A, c, rfl, hc, hm, hp⟩ := hr
  unfold maxLen at hm
  obtain ⟨n, hn⟩ : ∃ n, n = ps.length := ⟨_, rfl⟩
  rw [← hn] at hc hn0 ⊢
  have HN := Lib.hid hn
  have HP := Lib.hid hp
  have HL := Lib.hid hnl
  clear hp hnl hn
  go_enter Tryz.func102, Tryz.ntmps102
  go_wp2_with fail
  go_loopw [3, 5, 11] (fun rv _ i wr => ∃ k : Nat, k ≤ n ∧ i = .int .i64 (k : Int) ∧ OwnR wr w.heap.size w.heap.size rv ((leaves ps).take k) ∧ Below w.heap.size w wr)
    (fun _ _ i _ => n - (intOf i).toNat)
  case atStart => exact ⟨0, Nat.zero_le _, rfl, by rw [List.take_zero]; exact OwnR.nil _ _ _, Below.refl _ _⟩
  case round =>
    obtain ⟨k, hk, rfl, ho, hb⟩ := hrel
    by_cases hlt : k < n
    · have hkl : k < ps.length := by have := HN.out; omega
      obtain ⟨b, o, rfl, hbl, hcell⟩ := HP.out (by omega)
      obtain ⟨q1, x, q2, q3⟩ := hcell k hkl
      have a1 := (hb.cell (p := ⟨b, o + k * 2, none⟩) hbl).trans q1
      have a2 := (hb.cell (p := ⟨b, o + k * 2 + 1, none⟩) hbl).trans q2
      have hks := HL.out _ (List.getElem_mem hkl)
      have i1 : (0 : Int) ≤ (k : Int) := by omega
      have i2 : (k : Int) < (n : Int) := by omega
      have hS : (leaves ps).take (k + 1) = (leaves ps).take k ++ [leafH ps[k].1 ps[k].2] := by
        have hkl2 : k < (leaves ps).length := by unfold leaves; rw [List.length_map]; exact hkl
        rw [← List.take_append_getElem (l := leaves ps) (i := k) hkl2]
        simp [leaves]
      have hl1 : ((leaves ps).take k).length ≤ 1000000000 := by rw [List.length_take]; omega
      generalize ps[k].1 = s at *
      generalize ps[k].2 = l at *
      generalize (leaves ps).take k = L at *
      obtain ⟨Ax, cx, rfl⟩ := q3.form
      have hxl : l.length ≤ 9223372036854775807 := q3.len
      have hbx := hb.alloc hb.size (.cells #[.string s, .slice Ax l.length cx] 48)
      have hbx0 : Below wr.heap.size wr (wr.alloc (.cells #[.string s, .slice Ax l.length cx] 48)) := (Below.refl _ _).alloc (Nat.le_refl _) _
      have hrx := (q3.below hbx).more hbx.size
      have hox := ho.up hbx0
      obtain ⟨Ap, cp, rfl⟩ := ho.form
      have HKx := (hbx.block _ hnk).trans HK.out
      have HS := Lib.hid hS
      clear hS hcell q1 q2 q3 hb ho
      go_wp2_with fail
      refine (leafHash_any s _ l _ hks hrx fr HKx).mono ?_
      rintro e w2 ⟨v2, rfl, ho2, hb2⟩
      have hq2 := below_chain hbx hbx.size hb2
      have ho3 := hox.up hb2
      have hl2 : (leafH s l).length = 32 := tagH_length _ _
      generalize leafH s l = h at *
      obtain ⟨A4, c4, rfl⟩ := ho2.form' hl2
      clear hl2
      have hr4 : RdS w2 w.heap.size (.slice A4 32 c4) h := ho2.rdS
      clear hox hb2 hbx hbx0 hrx ho2 a1 a2
      have hbz : Below w2.heap.size w2 (w2.alloc (.cells #[.slice A4 32 c4] 27)) := (Below.refl _ _).alloc (Nat.le_refl _) _
      have hc5 : (w2.alloc (.cells #[.slice A4 32 c4] 27)).cell? ⟨w2.heap.size, 0, none⟩ = some (.slice A4 32 c4) := blk_cell (heap_alloc_new w2 _) 0
      go_wp2_with (at_builtin; refine wpList_append_row rfl (.tmp 15) (.tmp 21) _ rfl i0 Tryz.underlying146 hi hz hsz hby rfl (ho3.up hbz) rfl hc5 (hr4.up hbz) (Nat.le_refl _) hl1 (Nat.le_trans hq2.size hbz.size) ?_; intro v5 w5 ho5 hg5; have hq5 : Below w.heap.size w w5 := (ho3.up hbz).below (hq2.alloc hq2.size _) (Nat.le_trans hq2.size hbz.size) hg5)
      go_roundw
      case rel => exact ⟨k + 1, by omega, by go_num, by rw [HS.out]; exact ho5, hq5⟩
      case measure => simp [intOf]; omega
    · have i2 : ¬ (k : Int) < (n : Int) := by omega
      obtain rfl : k = n := by omega
      have hfull : (leaves ps).take k = leaves ps := List.take_of_length_le (by unfold leaves; rw [List.length_map, ← HN.out]; exact Nat.le_refl _)
      have hll : (leaves ps).length ≤ 2 ^ 17 := by unfold leaves; rw [List.length_map, ← HN.out]; omega
      rw [hfull] at ho
      clear hfull
      have hrow0 : ∃ L, L = leaves ps := ⟨_, rfl⟩
      obtain ⟨L, hL⟩ := hrow0
      rw [← hL] at ho hll ⊢
      have HLL := Lib.hid hL
      clear hL HN HP HL
      have hr0 := ho.rowS
      obtain ⟨Ap, cp, rfl⟩ := hr0.form
      clear ho
      go_wp2_with fail
      have hO1 := (OwnRR.one hr0).more hb.size
      have hbx : Below w.heap.size w (wr.alloc (.cells #[.slice Ap L.length cp] 146)) := hb.alloc hb.size _
      have hrx := hr0.up (w' := wr.alloc (.cells #[.slice Ap L.length cp] 146)) ((Below.refl _ _).alloc (Nat.le_refl _) _)
      clear hr0 hb
      generalize wr.alloc (.cells #[.slice Ap L.length cp] 146) = w1 at *
      go_loopw [3, 6] (fun rv ov W => ∃ t e : Nat, t + e = 17 ∧ (upN t L).length ≤ 2 ^ e ∧ Hid (∀ j, j < t → 2 ≤ (upN j L).length) ∧ RowS W w.heap.size rv (upN t L) ∧ OwnRR W w.heap.size w.heap.size ov (levN L t) ∧ Below w.heap.size w W)
        (fun rv _ _ => sliceLn rv)
      case atStart => exact ⟨0, 17, rfl, hll, Lib.hid (fun j hj => absurd hj (by omega)), hrx, hO1, hbx⟩
      case round =>
        clear hrx hO1 hbx
        rename World => wo
        obtain ⟨t, e, hte, hle, HG, hr, ho, hb⟩ := hrel
        obtain ⟨n, hn⟩ : ∃ n, n = (upN t L).length := ⟨_, rfl⟩
        obtain ⟨Ar, cr, rfl⟩ := hr.form
        obtain ⟨Ao, co, rfl⟩ := ho.form
        rw [← hn] at hr hle ⊢
        have hn17 : n ≤ 2 ^ 17 := Nat.le_trans hle (Nat.pow_le_pow_right (by omega) (by omega))
        have hn17 : n ≤ 131072 := hn17
        by_cases hlt : 1 < n
        · have i1 : (1 : Int) < (n : Int) := by omega
          have HN := Lib.hid hn
          clear hn
          go_wp2_with fail
          go_loopw [7, 8] (fun av i W => ∃ q : Nat, q ≤ n ∧ q % 2 = 0 ∧ i = .int .i64 (q : Int) ∧ OwnR W w.heap.size wo.heap.size av (pairUp nodeH ((upN t L).take q)) ∧ Below wo.heap.size wo W)
            (fun _ i _ => n - (intOf i).toNat)
          case atStart => exact ⟨0, by omega, by omega, rfl, by rw [List.take_zero]; exact OwnR.nil _ _ _, Below.refl _ _⟩
          case round =>
            obtain ⟨q, hqn, hq2, rfl, hoa, hba⟩ := hrel
            have hrq := hr.up hba
            have hpl : (pairUp nodeH ((upN t L).take q)).length ≤ 1000000000 := by rw [pairUp_length, List.length_take]; omega
            by_cases hltq : q + 1 < n
            · have i3 : (q : Int) + 1 < (n : Int) := by omega
              have i2 : (q : Int) < (n : Int) := by omega
              have i4 : (0 : Int) ≤ (q : Int) := by omega
              have hqn0 : q < (upN t L).length := by have := HN.out; omega
              have hqn1 : q + 1 < (upN t L).length := by have := HN.out; omega
              rw [HN.out] at hr hrq
              obtain ⟨b, o, x0, rfl, -, hlb0, hcx0, -⟩ := hr.at_ q hqn0
              obtain ⟨b1, o1, x, e0, -, hlb, hcx, hrx⟩ := hrq.at_ q hqn0
              injection e0 with e0
              injection e0 with e0 e0'
              subst e0; subst e0'
              have hx0 := (hba.cell (p := ⟨b, o + q, none⟩) hlb0).symm.trans hcx
              obtain ⟨b', o', y, e1, -, -, hcy, hry⟩ := hrq.at_ (q + 1) hqn1
              injection e1 with e1
              injection e1 with e1 e2 e3
              subst e1; subst e2
              have hy0 := (hba.cell (p := ⟨b, o + (q + 1), none⟩) hlb0).symm.trans hcy
              clear hcx0
              have HP := Lib.hid (pairUp_more q (upN t L) hq2 hqn1)
              generalize (upN t L)[q] = lx at *
              generalize (upN t L)[q + 1] = ly at *
              generalize pairUp nodeH ((upN t L).take q) = LL at *
              obtain ⟨Ax, kx, rfl⟩ := hrx.1.form
              obtain ⟨Ay, ky, rfl⟩ := hry.1.form
              obtain ⟨Aa, ka, rfl⟩ := hoa.form
              have hbz := below_chain hb hb.size hba
              have hbwo : w.heap.size ≤ wo.heap.size := hb.size
              have hKz := (hbz.block _ hnk).trans HK.out
              have hKd : wr.drew.heap[0]? = some (.cells kVals fr.1 fr.2) := hKz
              clear hr hrq
              go_wp2_with fail
              have hs1 : IntKind.i64.wrap ((q : Int) + 1) = (q : Int) + 1 := IntWalk.i64_in _ (by omega)
              have hs2 : (0 : Int) ≤ (q : Int) + 1 := by omega
              have hs3 : ((q : Int) + 1).toNat = q + 1 := by omega
              go_region_held_law (fun W => W.cell? ⟨b, o + q, none⟩ = some (.slice Ax lx.length kx) ∧ W.cell? ⟨b, o + (q + 1), none⟩ = some (.slice Ay ly.length ky))
                (first | exact ⟨hcx, hcy⟩ | exact ⟨hcx4, hcy4⟩ | exact ⟨hcx5, hcy5⟩ | exact ⟨hcx6, hcy6⟩)
                (first
                  | (go_at_call 160; (refine (nodeM_any _ _ lx ly wr.drew hrx.1 hry.1 fr hKd).mono ?_; rintro e w4 ⟨v4, rfl, ho4, hb4'⟩; have hb4 : Below wr.heap.size wr w4 := below_chain (Below.refl wr.heap.size wr).drew (Nat.le_refl _) hb4'; obtain ⟨A4, c4, rfl⟩ := ho4.form' (tagH_length _ _); have hx5 : Below w4.heap.size w4 (w4.alloc (.cells #[.slice A4 32 c4] 27)) := (Below.refl _ _).alloc (Nat.le_refl _) _; have hq5 := below_chain hb4 hb4.size hx5; have ho5 := hoa.up hq5; have hr4 : RdS w4 w.heap.size _ _ := ho4.rdS; have hr5 := hr4.up hx5; have hc5 : (w4.alloc (.cells #[.slice A4 32 c4] 27)).cell? ⟨w4.heap.size, 0, none⟩ = some (.slice A4 32 c4) := blk_cell (heap_alloc_new w4 _) 0; have hw5 := below_chain hba hba.size hq5; have hcx5 := (hw5.cell (p := ⟨b, o + q, none⟩) hlb0).trans hx0; have hcy5 := (hw5.cell (p := ⟨b, o + (q + 1), none⟩) hlb0).trans hy0; have hcx4 := (hb4.cell (p := ⟨b, o + q, none⟩) hlb).trans hcx; have hcy4 := (hb4.cell (p := ⟨b, o + (q + 1), none⟩) hlb).trans hcy))
                  | (rw [if_pos (by rfl)]; refine wp_append_row (.tmp 36) (.tmp 47) _ rfl i0 Tryz.underlying146 hi hz hsz hby rfl ho5 rfl hc5 hr5 hbwo hpl hw5.size ?_; intro v6 w6 ho6 hg6; have hw6 := ho5.below hw5 hw5.size hg6; have hcx6 := (hw6.cell (p := ⟨b, o + q, none⟩) hlb0).trans hx0; have hcy6 := (hw6.cell (p := ⟨b, o + (q + 1), none⟩) hlb0).trans hy0))
              simp only [Act.put, List.setIfInBounds_toArray, List.set_cons_zero, List.set_cons_succ, List.getElem_toArray, List.getElem_cons_zero, List.getElem_cons_succ]
              have hbo := hw6
              clear hx5 hq5 ho5 hr4 hr5 hc5 hw5 hcx5 hcy5 hcx4 hcy4 hcx6 hcy6 hw6 hg6 hb4 hb4' ho4 hcx hcy hx0 hy0 hs1 hs2 hs3 hKd hKz hbz
              go_wp2_with fail
              go_roundw
              case rel => exact ⟨q + 2, by omega, by omega, by go_num, by rw [HP.out]; exact ho6, hbo⟩
              case measure => simp [intOf]; omega
            · have i3 : ¬ (q : Int) + 1 < (n : Int) := by omega
              by_cases hod : n % 2 = 1
              · have i5 : (n : Int).tmod 2 = 1 := by rw [Int.tmod_eq_emod_of_nonneg (by omega)]; omega
                have hqe : q + 1 = n := by omega
                have i6 : IntKind.i64.wrap ((n : Int) - 1) = (q : Int) := by rw [IntKind.wrap_i64]; omega
                have i7 : (q : Int) < (n : Int) := by omega
                have i8 : (0 : Int) ≤ (q : Int) := by omega
                have hqn0 : q < (upN t L).length := by have := HN.out; omega
                rw [HN.out] at hr hrq
                obtain ⟨b, o, x, rfl, -, hlb, hcx, hrx⟩ := hrq.at_ q hqn0
                have hP : upN (t + 1) L = pairUp nodeH ((upN t L).take q) ++ [(upN t L)[q]] := pairUp_odd q (upN t L) hq2 (by rw [← HN.out]; exact hqe)
                generalize (upN t L)[q] = lx at *
                generalize pairUp nodeH ((upN t L).take q) = LL at *
                have HPP := Lib.hid hP
                clear hP
                obtain ⟨Ax, kx, rfl⟩ := hrx.1.form
                obtain ⟨Aa, ka, rfl⟩ := hoa.form
                have hbz := below_chain hb hb.size hba
                have hx5 : Below wr.heap.size wr (wr.alloc (.cells #[.slice Ax lx.length kx] 27)) := (Below.refl _ _).alloc (Nat.le_refl _) _
                have hc5 : (wr.alloc (.cells #[.slice Ax lx.length kx] 27)).cell? ⟨wr.heap.size, 0, none⟩ = some (.slice Ax lx.length kx) := blk_cell (heap_alloc_new wr _) 0
                have hw5 := below_chain hba hba.size hx5
                have ho5 := hoa.up hx5
                have hr5 := hrx.up hx5
                clear hoa hrx
                rw [← HN.out] at hr hrq
                go_wp2_with (first
                  | (at_builtin
                     refine wpList_append_row rfl (.tmp 53) (.tmp 60) _ rfl i0 Tryz.underlying146 hi hz hsz hby rfl ho5 rfl hc5 hr5 hb.size hpl hw5.size ?_
                     intro v6 WW ho6 hg6
                     have hbaz := ho5.below hw5 hw5.size hg6
                     have hoz : OwnR WW w.heap.size wo.heap.size v6 (upN (t + 1) L) := by rw [HPP.out]; exact ho6
                     have hoa := hoz
                     clear ho6 hg6 hc5 hr5 ho5 hcx hx5 HPP hw5
                     have hra := hoz.rowS
                     have ho2 := ho.up hbaz
                     have hbq := below_chain hb hb.size hbaz
                     have hlu : (upN (t + 1) L).length < n ∧ (upN (t + 1) L).length ≤ 2 ^ (e - 1) ∧ 1 ≤ e := by
                       rw [upN_len, ← HN.out]
                       rcases e with _ | e
                       · simp at hle; omega
                       · have : 2 ^ (e + 1) = 2 * 2 ^ e := by rw [Nat.pow_succ]; omega
                         rw [Nat.add_sub_cancel]
                         omega
                     have hGn : ∀ j, j < t + 1 → 2 ≤ (upN j L).length := fun j hj => by
                       by_cases hjt : j < t
                       · exact HG.out j hjt
                       · obtain rfl : j = t := by omega
                         rw [← HN.out]; omega
                     have hl1 : (levN L t).length ≤ 1000 := by rw [levN_length]; omega
                     have hS : Hid (levN L (t + 1) = levN L t ++ [upN (t + 1) L]) := Lib.hid rfl
                     have HU := Lib.hid (And.intro hlu hGn)
                     generalize hL1 : upN (t + 1) L = L1 at *
                     have HE := Lib.hid hL1
                     clear hL1
                     obtain ⟨Aq, kq, rfl⟩ := hoz.form
                     have hbx : Below WW.heap.size WW (WW.alloc (.cells #[.slice Aq L1.length kq] 146)) := (Below.refl _ _).alloc (Nat.le_refl _) _
                     have hc5 : (WW.alloc (.cells #[.slice Aq L1.length kq] 146)).cell? ⟨WW.heap.size, 0, none⟩ = some (.slice Aq L1.length kq) := blk_cell (heap_alloc_new WW _) 0
                     have hqx := below_chain hbq hbq.size hbx
                     clear hoz ho hr hrq hlu hGn hoa
                     generalize levN L t = Ls at *)
                  | (at_builtin; refine wpList_append_rows rfl (.tmp 63) (.tmp 65) _ rfl _ Tryz.underlying142 hi1 hz1 hsz1 hby1 rfl (ho2.up hbx) rfl hc5 (hra.up hbx) (Nat.le_refl _) hl1 hqx.size ?_; intro v5 w5 ho5 hg5; have hq5 : Below w.heap.size w w5 := (ho2.up hbx).below hqx hqx.size hg5; have hr5 : RowS w5 w.heap.size (.slice Aq L1.length kq) L1 := (hra.up hbx).grow ((ho2.up hbx).grows (Nat.le_refl _) hg5) (by decide) (by decide)))
                go_roundw
                case rel => exact ⟨t + 1, e - 1, by have := HU.out.1; omega, by rw [HE.out]; exact HU.out.1.2.1, Lib.hid HU.out.2, by rw [HE.out]; exact hr5, by rw [hS.out]; exact ho5, hq5⟩
                case measure => exact HU.out.1.1
              · have i5 : ¬ (n : Int).tmod 2 = 1 := by rw [Int.tmod_eq_emod_of_nonneg (by omega)]; omega
                have hqe : q = n := by omega
                have hfull : (upN t L).take q = upN t L := List.take_of_length_le (by rw [← HN.out]; omega)
                rw [hfull] at hoa
                clear hfull
                have hoz : OwnR wr w.heap.size wo.heap.size u7 (upN (t + 1) L) := hoa
                have hbaz := hba
                have hra := hoz.rowS
                have ho2 := ho.up hbaz
                have hbq := below_chain hb hb.size hbaz
                have hlu : (upN (t + 1) L).length < n ∧ (upN (t + 1) L).length ≤ 2 ^ (e - 1) ∧ 1 ≤ e := by
                  rw [upN_len, ← HN.out]
                  rcases e with _ | e
                  · simp at hle; omega
                  · have : 2 ^ (e + 1) = 2 * 2 ^ e := by rw [Nat.pow_succ]; omega
                    rw [Nat.add_sub_cancel]
                    omega
                have hGn : ∀ j, j < t + 1 → 2 ≤ (upN j L).length := fun j hj => by
                  by_cases hjt : j < t
                  · exact HG.out j hjt
                  · obtain rfl : j = t := by omega
                    rw [← HN.out]; omega
                have hl1 : (levN L t).length ≤ 1000 := by rw [levN_length]; omega
                have hS : Hid (levN L (t + 1) = levN L t ++ [upN (t + 1) L]) := Lib.hid rfl
                have HU := Lib.hid (And.intro hlu hGn)
                generalize hL1 : upN (t + 1) L = L1 at *
                have HE := Lib.hid hL1
                clear hL1
                obtain ⟨Aq, kq, rfl⟩ := hoz.form
                have hbx : Below wr.heap.size wr (wr.alloc (.cells #[.slice Aq L1.length kq] 146)) := (Below.refl _ _).alloc (Nat.le_refl _) _
                have hc5 : (wr.alloc (.cells #[.slice Aq L1.length kq] 146)).cell? ⟨wr.heap.size, 0, none⟩ = some (.slice Aq L1.length kq) := blk_cell (heap_alloc_new wr _) 0
                have hqx := below_chain hbq hbq.size hbx
                clear hoz ho hr hrq hlu hGn hoa
                generalize levN L t = Ls at *
                go_wp2_with (at_builtin; refine wpList_append_rows rfl (.tmp 63) (.tmp 65) _ rfl _ Tryz.underlying142 hi1 hz1 hsz1 hby1 rfl (ho2.up hbx) rfl hc5 (hra.up hbx) (Nat.le_refl _) hl1 hqx.size ?_; intro v5 w5 ho5 hg5; have hq5 : Below w.heap.size w w5 := (ho2.up hbx).below hqx hqx.size hg5; have hr5 : RowS w5 w.heap.size (.slice Aq L1.length kq) L1 := (hra.up hbx).grow ((ho2.up hbx).grows (Nat.le_refl _) hg5) (by decide) (by decide))
                go_roundw
                case rel => exact ⟨t + 1, e - 1, by have := HU.out.1; omega, by rw [HE.out]; exact HU.out.1.2.1, Lib.hid HU.out.2, by rw [HE.out]; exact hr5, by rw [hS.out]; exact ho5, hq5⟩
                case measure => exact HU.out.1.1
        · have i1 : ¬ (1 : Int) < (n : Int) := by omega
          have HU : Hid ((upN t L).length ≤ 1) := Lib.hid (by rw [← hn]; omega)
          have ht : t ≤ 17 := by omega
          clear hn hr hte hle
          go_wp2_with fail
          go_ret
          exact ⟨_, rfl, t, ht, by rw [← HLL.out]; exact HG.out, by rw [← HLL.out]; exact HU.out, by rw [← HLL.out]; exact ho, hb⟩
end Go.Proofs.YtpcoonnfaoakhaaGreatDoor
namespace Go.Proofs.YtpcoonnfaoakhaaGreatDoor
set_option maxRecDepth 100000
open Go Go.RowKit
set_option linter.unusedVariables false

set_option maxHeartbeats 1000000 in
theorem rootM_any (w : World) (v : Value) (ps : List Pr) (hr : RdP w w.heap.size v ps) (hnl : ∀ p ∈ ps, p.1.size ≤ maxLen) (fr : TypeId × Nat × Nat) (hk : w.heap[0]? = some (.cells kVals fr.1 fr.2)) :
    Calls Tryz.prog 46 #[v] w fun e w' => ∃ v', e = .returned (.tuple #[v', .int .i64 (rootM ps).2]) ∧ Own w' w.heap.size v' (rootM ps).1 ∧ Below w.heap.size w w' := by
  have hnk := blk_lt hk
  have HK := Lib.hid hk
  clear hk
  have C1 := ordered_any w v ps hr hnl
  have C2 := fun (w1 : World) (hb : Below w.heap.size w w1) (h0 : ps.length ≤ 65536) => by
    have e1 : w1.heap[0]? = some (.cells kVals fr.1 fr.2) := (hb.block _ hnk).trans HK.out
    have e2 : RdP w1 w1.heap.size v ps := (hr.below hb).more hb.size
    exact rows_any w1 v ps e2 hnl h0 fr e1
  obtain ⟨A, c, rfl, hc, hm, hp⟩ := hr
  unfold maxLen at hm
  obtain ⟨n, hn⟩ : ∃ n, n = ps.length := ⟨_, rfl⟩
  rw [← hn] at hc C1 C2 ⊢
  have HR := Lib.hid (fun h : ordB ps = false => rootM_no h)
  have HR0 := Lib.hid (fun (h : ordB ps = true) (h0 : ps.length = 0) => rootM_nil h h0)
  have HR1 := Lib.hid (fun (h : ordB ps = true) (h0 : 0 < ps.length) => rootM_some h h0)
  generalize rootM ps = R at *
  have HN := Lib.hid hn
  clear hn
  replace C1 := Lib.hid C1
  replace C2 := Lib.hid C2
  go_enter Tryz.func46, Tryz.ntmps46
  go_wp2_with fail
  refine C1.out.mono ?_
  rintro e w1 ⟨rfl, hb1⟩
  clear C1
  cases ho : ordB ps with
  | false =>
    have hR : R = ([], 60) := HR.out ho
    subst hR
    go_wp2_with fail
    go_ret2
    exact ⟨_, rfl, Own.nil _ _, hb1⟩
  | true =>
    have hn1 : n ≤ 65536 := by rw [HN.out]; exact ordB_len ho
    by_cases h0 : n = 0
    · have hR : R = (rootE, 0) := HR0.out ho (by have := HN.out; omega)
      subst hR
      subst h0
      go_wp2_with fail
      refine (emptyRoot_any w1 fr ((hb1.block _ hnk).trans HK.out)).mono ?_
      rintro e w2 ⟨v2, rfl, ho2, hb2⟩
      have hq := below_chain hb1 hb1.size hb2
      go_wp2_with fail
      go_ret2
      exact ⟨_, rfl, ho2.more hb1.size, hq⟩
    · have hR : R = (rootH n (rowT nodeH (leaves ps)), 0) := by rw [HN.out]; exact HR1.out ho (by have := HN.out; omega)
      subst hR
      have i1 : ¬ (n : Int) = 0 := by omega
      go_wp2_with fail
      refine (C2.out w1 hb1 hn1).mono ?_
      rintro e w2 ⟨v2, rfl, t, ht, hG, hU, ho2, hb2⟩
      have hll : 0 < (leaves ps).length := by unfold leaves; rw [List.length_map, ← HN.out]; omega
      have hpos := upN_pos (leaves ps) hll t
      have hroot := upN_root (leaves ps) t hG hU
      have hlen : (levN (leaves ps) t).length = t + 1 := levN_length _ _
      obtain ⟨b, x, hA, -, hlb, hcx, hrx⟩ : ∃ b x, (∃ c, v2 = .slice (some ⟨b, 0, none⟩) (t + 1) c) ∧ True ∧ b < w2.heap.size ∧ w2.cell? ⟨b, t, none⟩ = some x ∧ RowS w2 w1.heap.size x (upN t (leaves ps)) := by
        obtain ⟨A2, c2, rfl⟩ := ho2.form
        obtain ⟨b, x, rfl, -, h3, h4, h5⟩ := ho2.at_ t (by rw [levN_length]; omega)
        refine ⟨b, x, ⟨c2, by rw [levN_length]⟩, trivial, h3, h4, ?_⟩
        have hg := levN_get (leaves ps) t t (Nat.le_refl _)
        rw [List.getElem?_eq_getElem (by rw [levN_length]; omega)] at hg
        injection hg with hg
        rw [← hg]
        exact h5
      obtain ⟨c2, rfl⟩ := hA
      have hbz := below_chain hb1 hb1.size hb2
      obtain ⟨A3, c3, rfl⟩ := hrx.form
      obtain ⟨b3, o3, y, rfl, -, hlb3, hcy, hry⟩ := hrx.at_ 0 hpos
      have hyv : (upN t (leaves ps))[0] = rowT nodeH (leaves ps) := by
        rw [← hroot]
        have gen : ∀ (x : List (List UInt8)) (h : 0 < x.length), x[0] = x.headD [] := fun x h => by
          cases x with
          | nil => simp at h
          | cons a l => rfl
        exact gen _ hpos
      rw [hyv] at hry
      have HH : Hid (rootH n (rowT nodeH (leaves ps)) = shaSum (formB (strBytes wRoot) ++ formBs [be n 8, rowT nodeH (leaves ps)])) := Lib.hid rfl
      clear hyv hroot ho2 hG hU hlen HR HR0 HR1
      generalize (upN t (leaves ps)).length = l1 at *
      generalize hh : rowT nodeH (leaves ps) = h at *
      have HHH := Lib.hid hh
      clear hh
      obtain ⟨A5, c5, rfl⟩ := hry.1.form
      rw [Nat.add_zero] at hcy
      obtain ⟨m, hm1⟩ : ∃ m, m = t + 1 := ⟨_, rfl⟩
      rw [← hm1]
      have j1 : IntKind.i64.wrap ((m : Int) - 1) = (t : Int) := by rw [IntKind.wrap_i64]; omega
      have j2 : (t : Int) < (m : Int) := by omega
      have j3 : (0 : Int) ≤ (t : Int) := by omega
      have j4 : (0 : Int) < (l1 : Int) := by omega
      have hk2 := (hbz.block _ hnk).trans HK.out
      have hnn : n ≤ 9223372036854775807 := by omega
      clear hm1 hrx
      go_wp2_with fail
      go_region_held_law (fun W => W.cell? ⟨b, t, none⟩ = some (.slice (some ⟨b3, o3, none⟩) l1 c3) ∧ W.cell? ⟨b3, o3, none⟩ = some (.slice A5 h.length c5))
        (first | exact ⟨hcx, hcy⟩ | exact ⟨hcx4, hcy4⟩ | exact ⟨hcx5, hcy5⟩ | exact ⟨hcx6, hcy6⟩)
        (first
          | (go_at_call 104; (refine (number_any n _ hnn).mono ?_; rintro e w4 ⟨v4, rfl, ho4, hb4'⟩; have hb4 : Below w2.heap.size w2 w4 := below_chain (Below.refl w2.heap.size w2).drew (Nat.le_refl _) hb4'; obtain ⟨A4, c4, rfl⟩ := ho4.form' (be_length n 8); have hp := partsA2 w4 (.slice A4 8 c4) (.slice A5 h.length c5) (be n 8) h 27 ho4.rd (hry.1.up (Nat.le_refl _) hb4); have hx5 : Below w4.heap.size w4 (w4.alloc (.cells #[.slice A4 8 c4, .slice A5 h.length c5] 27)) := (Below.refl _ _).alloc (Nat.le_refl _) _; have hq5 := below_chain hb4 hb4.size hx5; have hz5 := below_chain hbz hbz.size hq5; have hk5 := (hz5.block _ hnk).trans HK.out; have hcx4 := (hb4.cell (p := ⟨b, t, none⟩) hlb).trans hcx; have hcy4 := (hb4.cell (p := ⟨b3, o3, none⟩) hlb3).trans hcy; have hcx5 := (hq5.cell (p := ⟨b, t, none⟩) hlb).trans hcx; have hcy5 := (hq5.cell (p := ⟨b3, o3, none⟩) hlb3).trans hcy))
          | (go_at_call 103; (refine (tagged_any wRoot _ [be n 8, h] _ hp (by unfold maxLen wRoot; decide) (by simp) fr hk5).mono ?_; rintro e w6 ⟨v6, rfl, ho6, hb6⟩; have hq6 := below_chain hq5 hq5.size hb6; have hcx6 := (hq6.cell (p := ⟨b, t, none⟩) hlb).trans hcx; have hcy6 := (hq6.cell (p := ⟨b3, o3, none⟩) hlb3).trans hcy)))
      have hbo := below_chain hz5 hz5.size hb6
      go_wp2_with fail
      go_ret2
      exact ⟨_, rfl, by rw [HHH.out, HH.out]; exact ho6.more hz5.size, hbo⟩
end Go.Proofs.YtpcoonnfaoakhaaGreatDoor
namespace Go.Proofs.YtpcoonnfaoakhaaGreatDoor
set_option maxRecDepth 100000
open Go Go.RowKit
set_option linter.unusedVariables false
variable {w w' : World} {B : Nat}

/-- a way handed in -/
def PathV (w : World) (B : Nat) (v : Value) (ps : List (List UInt8)) : Prop :=
  ∃ A c, v = .slice A ps.length c ∧ ps.length ≤ c ∧ c ≤ maxLen ∧ (0 < ps.length → ∃ b o, A = some ⟨b, o, none⟩ ∧ b < B ∧ ∀ j (h : j < ps.length), ∃ x, w.cell? ⟨b, o + j, none⟩ = some x ∧ Rd w B x ps[j])
theorem PathV.below {v : Value} {ps : List (List UInt8)} (h : PathV w B v ps) (hb : Below B w w') : PathV w' B v ps := by
  obtain ⟨A, c, rfl, h1, h2, hp⟩ := h
  refine ⟨A, c, rfl, h1, h2, fun h0 => ?_⟩
  obtain ⟨b, o, rfl, hlt, hc⟩ := hp h0
  refine ⟨b, o, rfl, hlt, fun j hj => ?_⟩
  obtain ⟨x, q2, q3⟩ := hc j hj
  exact ⟨x, (hb.cell (p := ⟨b, o + j, none⟩) hlt).trans q2, q3.below hb⟩
theorem PathV.more {B' : Nat} {v : Value} {ps : List (List UInt8)} (h : PathV w B v ps) (hB : B ≤ B') : PathV w B' v ps := by
  obtain ⟨A, c, rfl, h1, h2, hp⟩ := h
  refine ⟨A, c, rfl, h1, h2, fun h0 => ?_⟩
  obtain ⟨b, o, rfl, hlt, hc⟩ := hp h0
  refine ⟨b, o, rfl, by omega, fun j hj => ?_⟩
  obtain ⟨x, q2, q3⟩ := hc j hj
  exact ⟨x, q2, q3.more hB⟩
/-- what a leaf says -/
structure Lf where
  at_ : Int
  key : ByteArray
  val : List UInt8
  path : List (List UInt8)
/-- a leaf handed in -/
def LeafV (w : World) (B : Nat) (v : Value) (l : Lf) : Prop :=
  ∃ sv pv, v = .agg #[.int .i64 l.at_, .string l.key, sv, pv] ∧ Rd w B sv l.val ∧ PathV w B pv l.path ∧ l.key.size ≤ maxLen ∧ -9223372036854775808 ≤ l.at_ ∧ l.at_ ≤ 9223372036854775807
theorem LeafV.below {v : Value} {l : Lf} (h : LeafV w B v l) (hb : Below B w w') : LeafV w' B v l := by
  obtain ⟨sv, pv, rfl, h1, h2, h3⟩ := h
  exact ⟨sv, pv, rfl, h1.below hb, h2.below hb, h3⟩
theorem LeafV.more {B' : Nat} {v : Value} {l : Lf} (h : LeafV w B v l) (hB : B ≤ B') : LeafV w B' v l := by
  obtain ⟨sv, pv, rfl, h1, h2, h3⟩ := h
  exact ⟨sv, pv, rfl, h1.more hB, h2.more hB, h3⟩
def fitsB (n : Int) (l : Lf) : Bool := decide (1 ≤ n ∧ n ≤ 65536 ∧ 0 ≤ l.at_ ∧ l.at_ < n) && (l.path.all (fun x => decide (x.length = 32)) && (keyB l.key && decide (l.val.length ≤ 65535)))
def holdsB (root : List UInt8) (n : Int) (l : Lf) : Bool := fitsB n l && (match upT nodeH (leafH l.key l.val) l.at_.toNat n.toNat l.path with | none => false | some h => decide (rootH n.toNat h = root))

theorem bits_xor_one (i : Nat) (h : i < 1000000) : bits .xor .i64 (i : Int) 1 = ((i ^^^ 1 : Nat) : Int) := by
  have h1 := xor_one i
  have h2 : i ^^^ 1 < 1000001 := by rw [h1]; split <;> omega
  have e : (BitVec.ofInt 64 (i : Int) ^^^ BitVec.ofInt 64 1).toNat = i ^^^ 1 := by
    rw [BitVec.toNat_xor, BitVec.ofInt_natCast, BitVec.toNat_ofNat, Nat.mod_eq_of_lt (by omega)]
    rfl
  show IntKind.i64.wrap ((BitVec.ofInt 64 (i : Int) ^^^ BitVec.ofInt 64 1).toNat : Int) = _
  rw [e, IntKind.wrap_i64]
  omega

set_option maxHeartbeats 2000000 in
theorem fits_any (n : Int) (v : Value) (l : Lf) (w : World) (hl : LeafV w w.heap.size v l) :
    Calls Tryz.prog 219 #[.int .i64 n, v] w fun e w' => e = .returned (.bool (fitsB n l)) ∧ Below w.heap.size w w' := by
  obtain ⟨sv, pv, rfl, hv, hp, hks, ha1, ha2⟩ := hl
  obtain ⟨i, key, val, path⟩ := l
  dsimp only at hv hp hks ha1 ha2 ⊢
  obtain ⟨Av, cv, rfl⟩ := hv.form
  have hvl : val.length ≤ 9223372036854775807 := hv.len
  obtain ⟨Ap, cp, rfl, hpc, hpm, hpp⟩ := hp
  unfold maxLen at hpm
  have HKF := Lib.hid (fun W : World => keyFits_any key W hks)
  have F1 : Hid (fitsB n ⟨i, key, val, path⟩ = (decide (1 ≤ n ∧ n ≤ 65536 ∧ 0 ≤ i ∧ i < n) && (path.all (fun x => decide (x.length = 32)) && (keyB key && decide (val.length ≤ 65535))))) := Lib.hid rfl
  generalize fitsB n ⟨i, key, val, path⟩ = R at *
  have hbx : Below w.heap.size w (w.alloc (.cells #[.int .i64 i, .string key, .slice Av val.length cv, .slice Ap path.length cp] 245)) := (Below.refl _ _).alloc (Nat.le_refl _) _
  clear hv hks
  by_cases h1 : n < 1
  · have hR : Hid (R = false) := Lib.hid (by rw [F1.out, decide_eq_false (by omega)]; rfl)
    go_enter Tryz.func219, Tryz.ntmps219
    go_wp2_with fail
    go_ret
    exact ⟨by rw [hR.out]; rfl, hbx⟩
  by_cases h2 : 65536 < n
  · have hR : Hid (R = false) := Lib.hid (by rw [F1.out, decide_eq_false (by omega)]; rfl)
    go_enter Tryz.func219, Tryz.ntmps219
    go_wp2_with fail
    go_ret
    exact ⟨by rw [hR.out]; rfl, hbx⟩
  by_cases h3 : i < 0
  · have hR : Hid (R = false) := Lib.hid (by rw [F1.out, decide_eq_false (by omega)]; rfl)
    go_enter Tryz.func219, Tryz.ntmps219
    go_wp2_with fail
    go_ret
    exact ⟨by rw [hR.out]; rfl, hbx⟩
  by_cases h4 : n ≤ i
  · have hR : Hid (R = false) := Lib.hid (by rw [F1.out, decide_eq_false (by omega)]; rfl)
    go_enter Tryz.func219, Tryz.ntmps219
    go_wp2_with fail
    go_ret
    exact ⟨by rw [hR.out]; rfl, hbx⟩
  have F2 : Hid (R = (path.all (fun x => decide (x.length = 32)) && (keyB key && decide (val.length ≤ 65535)))) := Lib.hid (by rw [F1.out, decide_eq_true ⟨by omega, by omega, by omega, by omega⟩]; rfl)
  clear F1
  obtain ⟨m, hm⟩ : ∃ m, m = path.length := ⟨_, rfl⟩
  rw [← hm] at hpc hbx ⊢
  have HM := Lib.hid hm
  have HP := Lib.hid hpp
  clear hpp hm
  obtain ⟨vl, hvl2⟩ : ∃ vl, vl = val.length := ⟨_, rfl⟩
  rw [← hvl2] at hvl hbx F2 ⊢
  clear hvl2
  go_enter Tryz.func219, Tryz.ntmps219
  go_wp2_with fail
  have HBX := Lib.hid hbx
  go_loopw [6, 27] (fun _ q wr => ∃ k : Nat, k ≤ m ∧ q = .int .i64 (k : Int) ∧ Hid (R = ((path.drop k).all (fun x => decide (x.length = 32)) && (keyB key && decide (vl ≤ 65535)))) ∧ wr = w.alloc (.cells #[.int .i64 i, .string key, .slice Av vl cv, .slice Ap m cp] 245))
    (fun _ q _ => m - (intOf q).toNat)
  case atStart => exact ⟨0, Nat.zero_le _, rfl, F2, rfl⟩
  case round =>
    obtain ⟨k, hk, rfl, HR, rfl⟩ := hrel
    by_cases hlt : k < m
    · have hkl : k < path.length := by have := HM.out; omega
      obtain ⟨b, o, rfl, hbl, hcell⟩ := HP.out (by omega)
      obtain ⟨x, q2, q3⟩ := hcell k hkl
      have a1 := (hbx.cell (p := ⟨b, o + k, none⟩) hbl).trans q2
      have i1 : (0 : Int) ≤ (k : Int) := by omega
      have i2 : (k : Int) < (m : Int) := by omega
      have hst := HR.out
      rw [List.drop_eq_getElem_cons hkl, List.all_cons, Bool.and_assoc] at hst
      generalize path[k] = p at *
      obtain ⟨Ax, cx, rfl⟩ := q3.form
      generalize p.length = pl at *
      by_cases h5 : pl = 32
      · have hres : Hid (R = ((path.drop (k + 1)).all (fun x => decide (x.length = 32)) && (keyB key && decide (vl ≤ 65535)))) := Lib.hid (by rw [hst, decide_eq_true h5]; rfl)
        have i3 : (pl : Int) = 32 := by omega
        clear hst HR hcell q2 q3
        go_wp2_with fail
        exact ⟨⟨k + 1, by omega, by go_num, hres, by first | trivial | rfl⟩, by simp [intOf]; omega⟩
      · have hres : Hid (R = false) := Lib.hid (by rw [hst, decide_eq_false h5]; rfl)
        have i3 : ¬ (pl : Int) = 32 := by omega
        clear hst HR hcell q2 q3
        go_wp2_with fail
        go_ret
        exact ⟨by rw [hres.out]; rfl, HBX.out⟩
    · obtain rfl : k = m := by omega
      have i2 : ¬ (k : Int) < (k : Int) := by omega
      have hst : R = (keyB key && decide (vl ≤ 65535)) := by rw [HR.out, HM.out, List.drop_length]; rfl
      clear HR
      go_wp2_with fail
      refine (HKF.out _).mono ?_
      rintro e w1 ⟨rfl, rfl⟩
      cases hkb : keyB key with
      | false =>
        have hres : Hid (R = false) := Lib.hid (by rw [hst, hkb]; rfl)
        clear hst hkb
        go_wp2_with fail
        go_ret
        exact ⟨by rw [hres.out]; rfl, HBX.out⟩
      | true =>
        by_cases h6 : vl ≤ 65535
        · have hres : Hid (R = true) := Lib.hid (by rw [hst, hkb, decide_eq_true h6]; rfl)
          have i3 : (vl : Int) ≤ 65535 := by omega
          clear hst hkb
          go_wp2_with fail
          go_ret
          exact ⟨by rw [hres.out]; rfl, HBX.out⟩
        · have hres : Hid (R = false) := Lib.hid (by rw [hst, hkb, decide_eq_false h6]; rfl)
          have i3 : decide ((vl : Int) ≤ 65535) = false := by simp; omega
          clear hst hkb
          go_wp2_with fail
          go_ret
          exact ⟨by rw [hres.out]; rfl, HBX.out⟩
end Go.Proofs.YtpcoonnfaoakhaaGreatDoor
namespace Go.Proofs.YtpcoonnfaoakhaaGreatDoor
set_option maxRecDepth 100000
open Go Go.RowKit
set_option linter.unusedVariables false
variable {w w' : World} {B : Nat}

theorem PathV.tail {b o c n : Nat} {x : List UInt8} {q : List (List UInt8)} (h : PathV w B (.slice (some ⟨b, o, none⟩) n c) (x :: q)) : PathV w B (.slice (some ⟨b, o + 1, none⟩) (n - 1) (c - 1)) q ∧ n = q.length + 1 ∧ 1 ≤ c ∧ c ≤ maxLen ∧ n ≤ c ∧ ∃ y, w.cell? ⟨b, o, none⟩ = some y ∧ Rd w B y x := by
  obtain ⟨A, c', e, h1, h2, hp⟩ := h
  injection e with e1 e2 e3
  subst e2; subst e3
  obtain ⟨b', o', rfl, hb, hc⟩ := hp (by simp)
  injection e1 with e1
  injection e1 with e1 e2
  subst e1; subst e2
  simp only [List.length_cons] at h1 ⊢
  refine ⟨⟨_, _, rfl, by omega, by omega, fun h0 => ⟨b, o + 1, rfl, hb, fun j hj => ?_⟩⟩, by first | trivial | rfl, by omega, h2, by omega, ?_⟩
  · obtain ⟨y, hy, hr⟩ := hc (j + 1) (by simp; omega)
    refine ⟨y, ?_, by simpa using hr⟩
    rw [← hy, Nat.add_assoc, Nat.add_comm 1 j]
  · obtain ⟨y, hy, hr⟩ := hc 0 (by simp)
    exact ⟨y, by simpa using hy, by simpa using hr⟩
theorem PathV.none_ (A : Option Addr) (c : Nat) (hc : c ≤ maxLen) : PathV w B (.slice A 0 c) [] := ⟨A, c, rfl, Nat.zero_le _, hc, fun h => absurd h (by simp)⟩
theorem PathV.form {v : Value} {q : List (List UInt8)} (h : PathV w B v q) : ∃ A c, v = .slice A q.length c := by
  obtain ⟨A, c, rfl, _⟩ := h
  exact ⟨A, c, rfl⟩

theorem fitsB_iff {n : Int} {l : Lf} (h : fitsB n l = true) : 1 ≤ n ∧ n ≤ 65536 ∧ 0 ≤ l.at_ ∧ l.at_ < n := by
  unfold fitsB at h
  simp only [Bool.and_eq_true, decide_eq_true_eq] at h
  exact h.1
def endB (root : List UInt8) (n : Nat) (o : Option (List UInt8)) : Bool := match o with | none => false | some h => decide (rootH n h = root)
theorem holdsB_no {root : List UInt8} {n : Int} {l : Lf} (h : fitsB n l = false) : holdsB root n l = false := by unfold holdsB; rw [h]; rfl
theorem holdsB_some {root : List UInt8} {n : Int} {l : Lf} (h : fitsB n l = true) : holdsB root n l = endB root n.toNat (upT nodeH (leafH l.key l.val) l.at_.toNat n.toNat l.path) := by unfold holdsB; rw [h]; rfl

set_option maxHeartbeats 4000000 in
theorem holdsM_any (rv : Value) (root : List UInt8) (n : Int) (v : Value) (l : Lf) (w : World) (hrv : Rd w w.heap.size rv root) (hl : LeafV w w.heap.size v l) (fr : TypeId × Nat × Nat) (hk : w.heap[0]? = some (.cells kVals fr.1 fr.2)) :
    Calls Tryz.prog 185 #[rv, .int .i64 n, v] w fun e w' => e = .returned (.bool (holdsB root n l)) ∧ Below w.heap.size w w' := by
  have hnk := blk_lt hk
  have HK := Lib.hid hk
  clear hk
  have HF := Lib.hid (fun (w1 : World) (hb : Below w.heap.size w w1) => fits_any n v l w1 ((hl.below hb).more hb.size))
  have H0 := Lib.hid (fun h : fitsB n l = false => holdsB_no (root := root) h)
  have H1 := Lib.hid (fun h : fitsB n l = true => holdsB_some (root := root) h)
  have H2 := Lib.hid (fun h : fitsB n l = true => fitsB_iff h)
  obtain ⟨sv, pv, rfl, hv, hp, hks, ha1, ha2⟩ := hl
  obtain ⟨i, key, val, path⟩ := l
  dsimp only at hv hp hks ha1 ha2
  obtain ⟨Av, cv, rfl⟩ := hv.form
  obtain ⟨Ap, cp, rfl⟩ := hp.form
  have HLF := Lib.hid (fun (w1 : World) (hb : Below w.heap.size w w1) => leafHash_any key _ val w1 hks ((hv.below hb).more hb.size) fr ((hb.block _ hnk).trans HK.out))
  have HP := Lib.hid hp
  have HRV := Lib.hid hrv
  obtain ⟨Ar, cr, rfl⟩ := hrv.form
  generalize holdsB root n ⟨i, key, val, path⟩ = R at *
  have hbx : Below w.heap.size w (w.alloc (.cells #[.int .i64 i, .string key, .slice Av val.length cv, .slice Ap path.length cp] 245)) := (Below.refl _ _).alloc (Nat.le_refl _) _
  have hnew := heap_alloc_new w (.cells #[.int .i64 i, .string key, .slice Av val.length cv, .slice Ap path.length cp] 245)
  clear hv hp hrv
  go_enter Tryz.func185, Tryz.ntmps185
  go_wp2_with fail
  refine (HF.out _ hbx).mono ?_
  rintro e w1 ⟨rfl, hb1⟩
  have c0 := (hb1.cell (p := ⟨w.heap.size, 0, none⟩) (by simp)).trans (blk_cell hnew 0)
  have c1 := (hb1.cell (p := ⟨w.heap.size, 1, none⟩) (by simp)).trans (blk_cell hnew 1)
  have c2 := (hb1.cell (p := ⟨w.heap.size, 2, none⟩) (by simp)).trans (blk_cell hnew 2)
  have c3 := (hb1.cell (p := ⟨w.heap.size, 3, none⟩) (by simp)).trans (blk_cell hnew 3)
  have hq1 := below_chain hbx hbx.size hb1
  have hlt1 : w.heap.size < w1.heap.size := Nat.lt_of_lt_of_le (by simp) hb1.size
  clear hbx hb1 hnew
  cases hf : fitsB n ⟨i, key, val, path⟩ with
  | false =>
    have hR : Hid (R = false) := Lib.hid (H0.out hf)
    go_wp2_with fail
    go_ret
    exact ⟨by rw [hR.out]; rfl, hq1⟩
  | true =>
    have HR : Hid (R = endB root n.toNat (upT nodeH (leafH key val) i.toNat n.toNat path)) := Lib.hid (H1.out hf)
    obtain ⟨g1, g2, g3, g4⟩ := H2.out hf
    replace g3 : 0 ≤ i := g3
    replace g4 : i < n := g4
    obtain ⟨N, hN⟩ : ∃ N : Nat, n = (N : Int) := ⟨n.toNat, by omega⟩
    obtain ⟨I, hI⟩ : ∃ I : Nat, i = (I : Int) := ⟨i.toNat, by omega⟩
    subst hN; subst hI
    rw [Int.toNat_natCast, Int.toNat_natCast] at HR
    clear hf H0 H1 H2 HF
    go_wp2_with fail
    go_region_held_law (fun W => W.cell? ⟨w.heap.size, 0, none⟩ = some (.int .i64 (I : Int)) ∧ W.cell? ⟨w.heap.size, 1, none⟩ = some (.string key) ∧ W.cell? ⟨w.heap.size, 2, none⟩ = some (.slice Av val.length cv) ∧ W.cell? ⟨w.heap.size, 3, none⟩ = some (.slice Ap path.length cp))
      (first | exact ⟨c0, c1, c2, c3⟩ | exact ⟨d0, d1, d2, d3⟩)
      ((go_at_call 159; (refine (HLF.out w1.drew hq1.drew).mono ?_; rintro e w4 ⟨v4, rfl, ho4, hb4'⟩; have hb4 : Below w1.heap.size w1 w4 := below_chain (Below.refl w1.heap.size w1).drew (Nat.le_refl _) hb4'; have d0 := (hb4.cell (p := ⟨w.heap.size, 0, none⟩) hlt1).trans c0; have d1 := (hb4.cell (p := ⟨w.heap.size, 1, none⟩) hlt1).trans c1; have d2 := (hb4.cell (p := ⟨w.heap.size, 2, none⟩) hlt1).trans c2; have d3 := (hb4.cell (p := ⟨w.heap.size, 3, none⟩) hlt1).trans c3; obtain ⟨A4, c4, rfl⟩ := ho4.form' (tagH_length _ _))))
    have hq4 := below_chain hq1 hq1.size hb4
    clear c0 c1 c2 c3 d1 d2 d3 hb4' hb4
    have HR2 := HR
    clear HR
    generalize leafH key val = h0 at *
    have hr4 := ho4.rd
    clear ho4
    go_wp2_with fail
    go_loopw [7, 8, 9, 10] (fun hv qv iv mv wr => ∃ (i m : Nat) (h : List UInt8) (q : List (List UInt8)), iv = .int .i64 (i : Int) ∧ mv = .int .i64 (m : Int) ∧ i < m ∧ m ≤ 65536 ∧ PathV w w.heap.size qv q ∧ (∃ A c, hv = .slice A 32 c) ∧ Rd wr wr.heap.size hv h ∧ Hid (R = endB root N (upT nodeH h i m q)) ∧ Below w.heap.size w wr)
      (fun _ _ _ mv _ => (intOf mv).toNat)
    case atStart => exact ⟨I, N, h0, path, rfl, rfl, by omega, by omega, HP.out, ⟨_, _, rfl⟩, hr4, HR2, hq4⟩
    case round =>
      obtain ⟨i, m, h, q, rfl, rfl, him, hm6, hpq, ⟨Ah, ch, rfl⟩, hrh, HR, hb⟩ := hrel
      by_cases hm : 1 < m
      · have i1 : (1 : Int) < (m : Int) := by omega
        have hx := bits_xor_one i (by omega)
        obtain ⟨i2, hi2⟩ : ∃ i2, i2 = i / 2 := ⟨_, rfl⟩
        obtain ⟨m2, hm2⟩ : ∃ m2, m2 = (m + 1) / 2 := ⟨_, rfl⟩
        have w1 : (i : Int).tdiv 2 = (i2 : Int) := by rw [Int.tdiv_eq_ediv_of_nonneg (by omega)]; omega
        have w2 : ((m : Int) + 1).tdiv 2 = (m2 : Int) := by rw [Int.tdiv_eq_ediv_of_nonneg (by omega)]; omega
        have w3 : m2 < m ∧ i2 < m2 ∧ 1 ≤ m2 := by omega
        by_cases hodd : m ≤ (i ^^^ 1)
        · have hst : Hid (R = endB root N (upT nodeH h i2 m2 q)) := Lib.hid (by rw [HR.out, upT_odd nodeH h i m q (by omega) hodd, ← hi2, ← hm2])
          generalize i ^^^ 1 = xi at *
          have i3 : (m : Int) ≤ (xi : Int) := by omega
          obtain ⟨Aq, cq, rfl⟩ := hpq.form
          clear hi2 hm2 HR
          go_wp2_with fail
          exact ⟨⟨i2, m2, h, q, rfl, rfl, w3.2.1, by omega, hpq, ⟨_, _, rfl⟩, hrh, hst, hb⟩, by simp [intOf]; omega⟩
        · have hxl : (i ^^^ 1) < m := by omega
          cases q with
          | nil =>
            have hres : Hid (R = false) := Lib.hid (by rw [HR.out, upT_nil nodeH h i m (by omega) hxl]; rfl)
            generalize i ^^^ 1 = xi at *
            have i3 : ¬ (m : Int) ≤ (xi : Int) := by omega
            obtain ⟨Aq, cq, rfl⟩ := hpq.form
            clear hi2 hm2 HR
            go_wp2_with fail
            go_ret
            exact ⟨by rw [hres.out]; rfl, hb⟩
          | cons x q =>
            have hst : Hid (R = endB root N (upT nodeH (if i % 2 = 0 then nodeH h x else nodeH x h) i2 m2 q)) := Lib.hid (by rw [HR.out, upT_cons nodeH h i m x q (by omega) hxl, ← hi2, ← hm2])
            generalize i ^^^ 1 = xi at *
            have i3 : ¬ (m : Int) ≤ (xi : Int) := by omega
            obtain ⟨b, o, nq, cq, rfl⟩ : ∃ b o nq cq, u8 = .slice (some ⟨b, o, none⟩) nq cq := by
              obtain ⟨A, c, rfl, h1, h2, hp⟩ := hpq
              obtain ⟨b, o, rfl, _⟩ := hp (by simp)
              exact ⟨b, o, _, c, rfl⟩
            obtain ⟨hpt, hnq, hc1, hcm, hnc, y, hy, hry⟩ := hpq.tail
            have hbl : b < w.heap.size := by
              obtain ⟨A, c, e, h1, h2, hp⟩ := hpq
              obtain ⟨b', o', rfl, hb', _⟩ := hp (by simp)
              injection e with e
              injection e with e
              injection e with e
              omega
            have hyw := (hb.cell (p := ⟨b, o, none⟩) hbl).trans hy
            have hrw := (hry.below hb).more hb.size
            obtain ⟨Ay, cy, rfl⟩ := hry.form
            have hyl : x.length ≤ 9223372036854775807 := hry.len
            unfold maxLen at hcm
            have i4 : (0 : Int) < (nq : Int) := by omega
            have i5 : ¬ (nq : Int) = 0 := by omega
            have i6 : (1 : Int) ≤ (nq : Int) := by omega
            have i7 : (1 : Int) ≤ (cq : Int) := by omega
            have i8 : (nq : Int) ≤ (cq : Int) := by omega
            have hkk := (hb.block _ hnk).trans HK.out
            have HNQ := Lib.hid hnq
            clear hnq hpq hi2 hm2 HR hry hy
            have hpn : cq = 1 → ∀ (A : Option Addr), PathV w w.heap.size (.slice A (nq - 1) (cq - 1)) q := fun e A => by
              have hq0 : q = [] := List.length_eq_zero_iff.1 (by have := HNQ.out; omega)
              subst hq0
              have : nq - 1 = 0 := by omega
              rw [this]
              exact PathV.none_ A _ (by unfold maxLen; omega)
            by_cases hev : i % 2 = 0
            · skip
              have i9 : (i : Int).tmod 2 = 0 := by rw [Int.tmod_eq_emod_of_nonneg (by omega)]; omega
              have hs2 : Hid (R = endB root N (upT nodeH (nodeH h x) i2 m2 q)) := Lib.hid (by rw [hst.out, if_pos hev])
              clear hst
              by_cases hc2 : cq = 1
              · obtain rfl : nq = 1 := by omega
                subst hc2
                clear i4 i5 i6 i7 i8
                go_wp2_with fail
                refine (nodeM_any _ _ h x _ hrh hrw fr hkk).mono ?_
                rintro e w7 ⟨v7, rfl, ho7, hb7⟩
                obtain ⟨A7, c7, rfl⟩ := ho7.form' (tagH_length _ _)
                have hq7 := below_chain hb hb.size hb7
                go_wp2_with fail
                exact ⟨⟨i2, m2, nodeH h x, q, rfl, rfl, w3.2.1, by omega, hpn (by first | trivial | rfl) _, ⟨_, _, rfl⟩, ho7.rd, hs2, hq7⟩, by simp [intOf]; omega⟩
              · have j1 : ¬ (1 : Int) = (cq : Int) := by omega
                go_wp2_with fail
                refine (nodeM_any _ _ h x _ hrh hrw fr hkk).mono ?_
                rintro e w7 ⟨v7, rfl, ho7, hb7⟩
                obtain ⟨A7, c7, rfl⟩ := ho7.form' (tagH_length _ _)
                have hq7 := below_chain hb hb.size hb7
                go_wp2_with fail
                exact ⟨⟨i2, m2, nodeH h x, q, rfl, rfl, w3.2.1, by omega, hpt, ⟨_, _, rfl⟩, ho7.rd, hs2, hq7⟩, by simp [intOf]; omega⟩
            · skip
              have i9 : ¬ (i : Int).tmod 2 = 0 := by rw [Int.tmod_eq_emod_of_nonneg (by omega)]; omega
              have hs2 : Hid (R = endB root N (upT nodeH (nodeH x h) i2 m2 q)) := Lib.hid (by rw [hst.out, if_neg hev])
              clear hst
              by_cases hc2 : cq = 1
              · obtain rfl : nq = 1 := by omega
                subst hc2
                clear i4 i5 i6 i7 i8
                go_wp2_with fail
                refine (nodeM_any _ _ x h _ hrw hrh fr hkk).mono ?_
                rintro e w7 ⟨v7, rfl, ho7, hb7⟩
                obtain ⟨A7, c7, rfl⟩ := ho7.form' (tagH_length _ _)
                have hq7 := below_chain hb hb.size hb7
                go_wp2_with fail
                exact ⟨⟨i2, m2, nodeH x h, q, rfl, rfl, w3.2.1, by omega, hpn (by first | trivial | rfl) _, ⟨_, _, rfl⟩, ho7.rd, hs2, hq7⟩, by simp [intOf]; omega⟩
              · have j1 : ¬ (1 : Int) = (cq : Int) := by omega
                go_wp2_with fail
                refine (nodeM_any _ _ x h _ hrw hrh fr hkk).mono ?_
                rintro e w7 ⟨v7, rfl, ho7, hb7⟩
                obtain ⟨A7, c7, rfl⟩ := ho7.form' (tagH_length _ _)
                have hq7 := below_chain hb hb.size hb7
                go_wp2_with fail
                exact ⟨⟨i2, m2, nodeH x h, q, rfl, rfl, w3.2.1, by omega, hpt, ⟨_, _, rfl⟩, ho7.rd, hs2, hq7⟩, by simp [intOf]; omega⟩
      · have i1 : ¬ (1 : Int) < (m : Int) := by omega
        have hst := HR.out
        rw [upT_one nodeH h i m q (by omega)] at hst
        obtain ⟨Aq, cq, rfl⟩ := hpq.form
        cases q with
        | cons x q =>
          have hres : Hid (R = false) := Lib.hid (by rw [hst]; rfl)
          generalize hql : (x :: q).length = ql at *
          have i2 : ¬ (ql : Int) = 0 := by rw [List.length_cons] at hql; omega
          clear hst HR hql hpq
          go_wp2_with fail
          go_ret
          exact ⟨by rw [hres.out]; rfl, hb⟩
        | nil =>
          have hst2 : Hid (R = decide (rootH N h = root)) := Lib.hid (by rw [hst]; rfl)
          clear hst HR hpq
          have hnn : N ≤ 9223372036854775807 := by omega
          go_wp2_with fail
          refine (number_any N _ hnn).mono ?_
          rintro e w7 ⟨v7, rfl, ho7, hb7⟩
          obtain ⟨A7, c7, rfl⟩ := ho7.form' (be_length N 8)
          have hq7 := below_chain hb hb.size hb7
          have hp8 := partsA2 w7 (.slice A7 8 c7) (.slice Ah 32 ch) (be N 8) h 27 ho7.rd (hrh.up (Nat.le_refl _) hb7)
          have hx8 := hq7.alloc hq7.size (.cells #[.slice A7 8 c7, .slice Ah 32 ch] 27)
          have hk8 := (hx8.block _ hnk).trans HK.out
          clear ho7
          go_wp2_with fail
          refine (tagged_any wRoot _ [be N 8, h] _ hp8 (by unfold maxLen wRoot; decide) (by simp) fr hk8).mono ?_
          rintro e w9 ⟨v9, rfl, ho9, hb9⟩
          have hH : rootH N h = shaSum (formB (strBytes wRoot) ++ formBs [be N 8, h]) := rfl
          have hst3 : Hid (R = decide (shaSum (formB (strBytes wRoot) ++ formBs [be N 8, h]) = root)) := Lib.hid (by rw [← hH]; exact hst2.out)
          clear hH hst2
          have hq9 := below_chain hx8 hx8.size hb9
          have hr9 := ho9.rd
          generalize shaSum (formB (strBytes wRoot) ++ formBs [be N 8, h]) = hs at *
          obtain ⟨A9, c9, rfl⟩ := ho9.form
          clear ho9
          go_wp2_with fail
          refine (equal_any _ _ hs root w9 hr9 ((HRV.out.below hq9).more hq9.size)).mono ?_
          rintro e w10 ⟨rfl, rfl⟩
          go_wp2_with fail
          go_ret
          exact ⟨by rw [hst3.out]; rfl, hq9⟩
end Go.Proofs.YtpcoonnfaoakhaaGreatDoor
namespace Go.Proofs.YtpcoonnfaoakhaaGreatDoor
set_option maxRecDepth 100000
open Go Go.RowKit
set_option linter.unusedVariables false
variable {w w' : World} {B : Nat}

/-- a leaf in a row of leaves -/
def LeafAt (w : World) (B b o : Nat) (l : Lf) : Prop :=
  ∃ sv pv, w.cell? ⟨b, o, none⟩ = some (.int .i64 l.at_) ∧ w.cell? ⟨b, o + 1, none⟩ = some (.string l.key) ∧ w.cell? ⟨b, o + 2, none⟩ = some sv ∧ w.cell? ⟨b, o + 3, none⟩ = some pv ∧ LeafV w B (.agg #[.int .i64 l.at_, .string l.key, sv, pv]) l
/-- leaves handed in -/
def LeavesV (w : World) (B : Nat) (v : Value) (ls : List Lf) : Prop :=
  ∃ A c, v = .slice A ls.length c ∧ ls.length ≤ c ∧ c ≤ maxLen ∧ (0 < ls.length → ∃ b o, A = some ⟨b, o, none⟩ ∧ b < B ∧ ∀ j (h : j < ls.length), LeafAt w B b (o + j * 4) ls[j])
theorem LeafAt.below {b o : Nat} {l : Lf} (h : LeafAt w B b o l) (hb : Below B w w') (hl : b < B) : LeafAt w' B b o l := by
  obtain ⟨sv, pv, h0, h1, h2, h3, h4⟩ := h
  exact ⟨sv, pv, (hb.cell (p := ⟨b, o, none⟩) hl).trans h0, (hb.cell (p := ⟨b, o + 1, none⟩) hl).trans h1, (hb.cell (p := ⟨b, o + 2, none⟩) hl).trans h2, (hb.cell (p := ⟨b, o + 3, none⟩) hl).trans h3, h4.below hb⟩
theorem LeafAt.more {B' b o : Nat} {l : Lf} (h : LeafAt w B b o l) (hB : B ≤ B') : LeafAt w B' b o l := by
  obtain ⟨sv, pv, h0, h1, h2, h3, h4⟩ := h
  exact ⟨sv, pv, h0, h1, h2, h3, h4.more hB⟩
theorem LeavesV.below {v : Value} {ls : List Lf} (h : LeavesV w B v ls) (hb : Below B w w') : LeavesV w' B v ls := by
  obtain ⟨A, c, rfl, h1, h2, hp⟩ := h
  refine ⟨A, c, rfl, h1, h2, fun h0 => ?_⟩
  obtain ⟨b, o, rfl, hlt, hc⟩ := hp h0
  exact ⟨b, o, rfl, hlt, fun j hj => (hc j hj).below hb hlt⟩
theorem LeavesV.more {B' : Nat} {v : Value} {ls : List Lf} (h : LeavesV w B v ls) (hB : B ≤ B') : LeavesV w B' v ls := by
  obtain ⟨A, c, rfl, h1, h2, hp⟩ := h
  refine ⟨A, c, rfl, h1, h2, fun h0 => ?_⟩
  obtain ⟨b, o, rfl, hlt, hc⟩ := hp h0
  exact ⟨b, o, rfl, by omega, fun j hj => (hc j hj).more hB⟩
structure Pf where
  n : Int
  ls : List Lf
/-- a proof handed in -/
def ProofV (w : World) (B : Nat) (v : Value) (p : Pf) : Prop :=
  ∃ lv, v = .agg #[.int .i64 p.n, lv] ∧ LeavesV w B lv p.ls ∧ -9223372036854775808 ≤ p.n ∧ p.n ≤ 9223372036854775807
theorem ProofV.below {v : Value} {p : Pf} (h : ProofV w B v p) (hb : Below B w w') : ProofV w' B v p := by
  obtain ⟨lv, rfl, h1, h2⟩ := h
  exact ⟨lv, rfl, h1.below hb, h2⟩
theorem ProofV.more {B' : Nat} {v : Value} {p : Pf} (h : ProofV w B v p) (hB : B ≤ B') : ProofV w B' v p := by
  obtain ⟨lv, rfl, h1, h2⟩ := h
  exact ⟨lv, rfl, h1.more hB, h2⟩

def verifyB (root : List UInt8) (key : ByteArray) (val : List UInt8) (p : Pf) : Bool := match p.ls with
  | [l] => (l.key.toList == key.toList) && (sameB l.val val && holdsB root p.n l)
  | _ => false
theorem verifyB_one {root : List UInt8} {key : ByteArray} {val : List UInt8} {n : Int} {l : Lf} : verifyB root key val ⟨n, [l]⟩ = ((l.key.toList == key.toList) && (sameB l.val val && holdsB root n l)) := rfl
theorem verifyB_no {root : List UInt8} {key : ByteArray} {val : List UInt8} {n : Int} {ls : List Lf} (h : ls.length ≠ 1) : verifyB root key val ⟨n, ls⟩ = false := by
  rcases ls with _ | ⟨a, _ | ⟨b, l⟩⟩
  · rfl
  · exact absurd rfl h
  · rfl

set_option maxHeartbeats 2000000 in
theorem verify_any (rv : Value) (root : List UInt8) (key : ByteArray) (vv : Value) (val : List UInt8) (v : Value) (p : Pf) (w : World) (hrv : Rd w w.heap.size rv root) (hvv : Rd w w.heap.size vv val) (hl : ProofV w w.heap.size v p) (fr : TypeId × Nat × Nat) (hk : w.heap[0]? = some (.cells kVals fr.1 fr.2)) :
    Calls Tryz.prog 139 #[rv, .string key, vv, v] w fun e w' => e = .returned (.bool (verifyB root key val p)) ∧ Below w.heap.size w w' := by
  have hnk := blk_lt hk
  have HK := Lib.hid hk
  clear hk
  obtain ⟨n, ls⟩ := p
  obtain ⟨lv, rfl, hlv, hn1, hn2⟩ := hl
  dsimp only at hlv hn1 hn2 ⊢
  have HRV := Lib.hid hrv
  have HVV := Lib.hid hvv
  obtain ⟨Ar, cr, rfl⟩ := hrv.form
  obtain ⟨Av, cv, rfl⟩ := hvv.form
  obtain ⟨Al, cl, rfl, hlc, hlm, hlp⟩ := hlv
  unfold maxLen at hlm
  have hbx : Below w.heap.size w (w.alloc (.cells #[.int .i64 n, .slice Al ls.length cl] 69)) := (Below.refl _ _).alloc (Nat.le_refl _) _
  clear hrv hvv
  by_cases h1 : ls.length = 1
  · obtain ⟨l, rfl⟩ : ∃ l, ls = [l] := by
      rcases ls with _ | ⟨a, _ | ⟨b, l⟩⟩
      · simp at h1
      · exact ⟨a, rfl⟩
      · simp at h1
    obtain ⟨b, o, rfl, hbl, hc⟩ := hlp (by simp)
    obtain ⟨sv, pv, c0, c1, c2, c3, hlf⟩ := hc 0 (by simp)
    simp only [List.getElem_cons_zero, Nat.zero_mul, Nat.add_zero] at c0 c1 c2 c3 hlf
    have HV := Lib.hid (verifyB_one (root := root) (key := key) (val := val) (n := n) (l := l))
    generalize verifyB root key val ⟨n, [l]⟩ = R at *
    obtain ⟨i, lk, lval, lpath⟩ := l
    dsimp only at c0 c1 c2 c3 HV
    have HLF := Lib.hid hlf
    obtain ⟨sv', pv', e, hsv, hpv, hks, ha1, ha2⟩ := hlf
    injection e with e
    injection e with e
    injection e with _ e
    injection e with _ e
    injection e with e1 e
    injection e with e2 e
    subst e1; subst e2
    obtain ⟨As, cs, rfl⟩ := hsv.form
    obtain ⟨Ap, cp, rfl⟩ := hpv.form
    dsimp only at hsv hpv hks ha1 ha2
    have d0 := (hbx.cell (p := ⟨b, o, none⟩) hbl).trans c0
    have d1 := (hbx.cell (p := ⟨b, o + 1, none⟩) hbl).trans c1
    have d2 := (hbx.cell (p := ⟨b, o + 2, none⟩) hbl).trans c2
    have d3 := (hbx.cell (p := ⟨b, o + 3, none⟩) hbl).trans c3
    have HSV := Lib.hid hsv
    clear hc hlp c0 c1 c2 c3 hsv hpv h1
    simp only [List.length_cons, List.length_nil, Nat.zero_add] at hlc hbx d0 d1 d2 d3 ⊢
    have i0 : (1 : Int) ≤ (cl : Int) := by omega
    cases hk1 : (lk.toList == key.toList) with
    | true =>
      have HV2 : Hid (R = (sameB lval val && holdsB root n ⟨i, lk, lval, lpath⟩)) := Lib.hid (by rw [HV.out, hk1]; rfl)
      clear HV
      have HEQ := Lib.hid (fun (w1 : World) (hb : Below w.heap.size w w1) => equal_any _ _ lval val w1 ((HSV.out.below hb).more hb.size) ((HVV.out.below hb).more hb.size))
      have HHO := Lib.hid (fun (w1 : World) (hb : Below w.heap.size w w1) => holdsM_any _ root n _ ⟨i, lk, lval, lpath⟩ w1 ((HRV.out.below hb).more hb.size) ((HLF.out.below hb).more hb.size) fr ((hb.block _ hnk).trans HK.out))
      have hby := hbx.alloc hbx.size (.cells #[.int .i64 i, .string lk, .slice As lval.length cs, .slice Ap lpath.length cp] 245)
      go_enter Tryz.func139, Tryz.ntmps139
      go_wp2_with fail
      refine (HEQ.out _ hby).mono ?_
      rintro e w1 ⟨rfl, rfl⟩
      cases hs : sameB lval val with
      | false =>
        have hres : Hid (R = false) := Lib.hid (by rw [HV2.out, hs]; rfl)
        clear hs HV2
        go_wp2_with fail
        go_ret
        exact ⟨by rw [hres.out]; rfl, hby⟩
      | true =>
        have hres : Hid (R = holdsB root n ⟨i, lk, lval, lpath⟩) := Lib.hid (by rw [HV2.out, hs]; rfl)
        clear hs HV2
        go_wp2_with fail
        refine (HHO.out _ hby).mono ?_
        rintro e w2 ⟨rfl, hb2⟩
        have hq2 := below_chain hby hby.size hb2
        go_wp2_with fail
        go_ret
        exact ⟨by rw [hres.out]; rfl, hq2⟩
    | false =>
      have hres : Hid (R = false) := Lib.hid (by rw [HV.out, hk1]; rfl)
      clear HV
      have hby := hbx.alloc hbx.size (.cells #[.int .i64 i, .string lk, .slice As lval.length cs, .slice Ap lpath.length cp] 245)
      go_enter Tryz.func139, Tryz.ntmps139
      go_wp2_with fail
      go_ret
      exact ⟨by rw [hres.out]; rfl, hby⟩
  · have hres : Hid (verifyB root key val ⟨n, ls⟩ = false) := Lib.hid (verifyB_no h1)
    generalize verifyB root key val ⟨n, ls⟩ = R at *
    clear hlp
    generalize ls.length = k at *
    have i1 : ¬ (k : Int) = 1 := by omega
    go_enter Tryz.func139, Tryz.ntmps139
    go_wp2_with fail
    go_ret
    exact ⟨by rw [hres.out]; rfl, hbx⟩
end Go.Proofs.YtpcoonnfaoakhaaGreatDoor
namespace Go.Proofs.YtpcoonnfaoakhaaGreatDoor
set_option maxRecDepth 100000
open Go Go.RowKit
set_option linter.unusedVariables false
variable {w w' : World} {B : Nat}

/-- a leaf's way made: its value, its way -/
def leafM (ps : List Pr) (i : Nat) : Lf := ⟨(i : Int), (ps.getD i (⟨#[]⟩, [])).1, (ps.getD i (⟨#[]⟩, [])).2, wayT nodeH (leaves ps) i⟩
/-- a leaf of the call's own -/
def LeafN (w : World) (B0 B : Nat) (v : Value) (l : Lf) : Prop :=
  ∃ sv pv, v = .agg #[.int .i64 l.at_, .string l.key, sv, pv] ∧ Own w B sv l.val ∧ OwnR w B0 B pv l.path
end Go.Proofs.YtpcoonnfaoakhaaGreatDoor
