/- The walks of the document's next level, and its root. -/
import Derived.Test.YtgomhojaappbnaaDoorSignD
namespace Go.Proofs.YtgomhojaappbnaaDoor
open Go Go.RowKit

set_option maxHeartbeats 4000000 in
set_option maxRecDepth 100000 in
theorem above_any (v : Value) (ls : List (List UInt8)) (B0 : Nat) (w : World) (hr : RowS w B0 v ls) (hB0 : B0 ≤ w.heap.size) (hev : ls.length % 2 = 0) (hls : ls.length ≤ 900) (fr : TypeId × Nat × Nat) (hk : w.heap[1]? = some (.cells kVals fr.1 fr.2)) :
    Calls Tryd.prog 21 #[v] w fun e w' => ∃ v', e = .returned v' ∧ OwnR w' B0 w.heap.size v' (pairsL ls) ∧ Below w.heap.size w w' := by
  obtain ⟨i0, hi, hz, hsz, hby⟩ := info_parts Tryd.infoRow
  have hn0 := blk_lt hk
  have HK := Lib.hid hk
  clear hk
  obtain ⟨Ar, cr, rfl⟩ := hr.form
  obtain ⟨n, hn⟩ : ∃ n, n = ls.length := ⟨_, rfl⟩
  rw [← hn] at hr hev hls ⊢
  have HN := Lib.hid hn
  clear hn
  go_enter Tryd.func21, Tryd.ntmps21
  go_wp2_with fail
  go_loopw [3, 4] (fun av i W => ∃ q : Nat, q ≤ n ∧ q % 2 = 0 ∧ i = .int .i64 (q : Int) ∧ OwnR W B0 w.heap.size av (pairsL (ls.take q)) ∧ Below w.heap.size w W)
    (fun _ i _ => n - (intOf i).toNat)
  case atStart => exact ⟨0, by omega, by omega, rfl, by rw [List.take_zero]; exact OwnR.nil _ _ _, Below.refl _ _⟩
  case round =>
    obtain ⟨q, hqn, hq2, rfl, hoa, hba⟩ := hrel
    have hrq := hr.up hba
    by_cases hltq : q < n
    · have i2 : (q : Int) < (n : Int) := by omega
      have i3 : (q : Int) + 1 < (n : Int) := by omega
      have i4 : (0 : Int) ≤ (q : Int) := by omega
      have hqn0 : q < ls.length := by have := HN.out; omega
      have hqn1 : q + 1 < ls.length := by have := HN.out; omega
      obtain ⟨b, o, x0, rfl, -, hlb0, hcx0, -⟩ := hr.at_ q hqn0
      obtain ⟨b1, o1, x, e0, -, hlb, hcx, hrx⟩ := hrq.at_ q hqn0
      injection e0 with e0
      injection e0 with e0 e0'
      subst e0; subst e0'
      have hx0 := (hba.cell (p := ⟨b, o + q, none⟩) hlb0).symm.trans hcx
      obtain ⟨b', o', y, e1, -, -, hcy, hry⟩ := hrq.at_ (q + 1) hqn1
      injection e1 with e1
      injection e1 with e1 e2 e3
      subst e1; subst e2
      have hy0 := (hba.cell (p := ⟨b, o + (q + 1), none⟩) hlb0).symm.trans hcy
      clear hcx0
      have HP := Lib.hid (pairsL_more q ls hq2 hqn1)
      have hpl : (pairsL (ls.take q)).length ≤ 1000 := by rw [pairsL_length, List.length_take]; omega
      generalize ls[q] = lx at *
      generalize ls[q + 1] = ly at *
      generalize pairsL (ls.take q) = L at *
      obtain ⟨Ax, kx, rfl⟩ := hrx.1.form
      obtain ⟨Ay, ky, rfl⟩ := hry.1.form
      obtain ⟨Aa, ka, rfl⟩ := hoa.form
      go_wp2_with fail
      have hs1 : IntKind.i64.wrap ((q : Int) + 1) = (q : Int) + 1 := IntWalk.i64_in _ (by omega)
      have hs2 : (0 : Int) ≤ (q : Int) + 1 := by omega
      have hs3 : ((q : Int) + 1).toNat = q + 1 := by omega
      have hlz : b < (wr.alloc (.cells #[.slice Ax lx.length kx, .slice Ay ly.length ky] 22)).heap.size := by simp; omega
      have hcx1 : (wr.alloc (.cells #[.slice Ax lx.length kx, .slice Ay ly.length ky] 22)).cell? ⟨b, o + q, none⟩ = some (.slice Ax lx.length kx) := (World.cell?_alloc_lt wr _ ⟨b, o + q, none⟩ hlb).trans hcx
      have hcy1 : (wr.alloc (.cells #[.slice Ax lx.length kx, .slice Ay ly.length ky] 22)).cell? ⟨b, o + (q + 1), none⟩ = some (.slice Ay ly.length ky) := (World.cell?_alloc_lt wr _ ⟨b, o + (q + 1), none⟩ hlb).trans hcy
      have hp := (partsOf2 wr _ _ lx ly 22 hrx.1 hry.1).drew
      have hb1 : Below wr.heap.size wr (wr.alloc (.cells #[.slice Ax lx.length kx, .slice Ay ly.length ky] 22)) := (Below.refl _ _).alloc (Nat.le_refl _) _
      have hz1 := below_chain hba hba.size hb1
      have hK1d : (wr.alloc (.cells #[.slice Ax lx.length kx, .slice Ay ly.length ky] 22)).drew.heap[1]? = some (.cells kVals fr.1 fr.2) := (hz1.block _ hn0).trans HK.out
      go_region_held_law (fun W => W.cell? ⟨b, o + q, none⟩ = some (.slice Ax lx.length kx) ∧ W.cell? ⟨b, o + (q + 1), none⟩ = some (.slice Ay ly.length ky))
        (first | exact ⟨hcx, hcy⟩ | exact ⟨hcx1, hcy1⟩ | exact ⟨hcx4, hcy4⟩ | exact ⟨hcx5, hcy5⟩ | exact ⟨hcx6, hcy6⟩)
        (first
          | (go_at_call 30; (refine (rtagged_any nodeWord _ [lx, ly] _ hp (by unfold maxLen nodeWord; decide) (by simp) fr hK1d).mono ?_; rintro e w4 ⟨v4, rfl, ho4, hb4⟩; replace ho4 : Own w4 _ v4 (nodeL lx ly) := ho4; obtain ⟨A4, c4, rfl⟩ := ho4.form' (nodeL_length lx ly); have hq4 := below_chain hb1.drew hb1.size hb4; have hx5 : Below w4.heap.size w4 (w4.alloc (.cells #[.slice A4 32 c4] 22)) := (Below.refl _ _).alloc (Nat.le_refl _) _; have hq5 := below_chain hq4 hq4.size hx5; have ho5 := hoa.up hq5; have hr4 : RdS w4 B0 _ _ := ho4.rdS; have hr5 := hr4.up hx5; have hc5 : (w4.alloc (.cells #[.slice A4 32 c4] 22)).cell? ⟨w4.heap.size, 0, none⟩ = some (.slice A4 32 c4) := blk_cell (heap_alloc_new w4 _) 0; have hw5 := below_chain hba hba.size hq5; have hcx5 := (hw5.cell (p := ⟨b, o + q, none⟩) hlb0).trans hx0; have hcy5 := (hw5.cell (p := ⟨b, o + (q + 1), none⟩) hlb0).trans hy0; have hcx4 := (hb4.cell (p := ⟨b, o + q, none⟩) hlz).trans hcx1; have hcy4 := (hb4.cell (p := ⟨b, o + (q + 1), none⟩) hlz).trans hcy1))
          | (rw [if_pos (by rfl)]; refine wp_append_row (.tmp 12) (.tmp 24) _ rfl i0 Tryd.underlying34 hi hz hsz hby rfl ho5 rfl hc5 hr5 hB0 hpl hw5.size ?_; intro v6 w6 ho6 hg6; have hw6 := ho5.below hw5 hw5.size hg6; have hcx6 := (hw6.cell (p := ⟨b, o + q, none⟩) hlb0).trans hx0; have hcy6 := (hw6.cell (p := ⟨b, o + (q + 1), none⟩) hlb0).trans hy0))
      simp only [Act.put, List.setIfInBounds_toArray, List.set_cons_zero, List.set_cons_succ, List.getElem_toArray, List.getElem_cons_zero, List.getElem_cons_succ]
      have hbo := hw6
      clear hq4 hx5 hq5 ho5 hr4 hr5 hc5 hw5 hcx5 hcy5 hcx4 hcy4 hcx6 hcy6 hw6 hg6 hb4 ho4 hcx1 hcy1 hlz hcx hcy hx0 hy0 hs1 hs2 hs3 hK1d hz1 hp hb1
      go_wp2_with fail
      go_roundw
      case rel => exact ⟨q + 2, by omega, by omega, by go_num, by rw [HP.out]; exact ho6, hbo⟩
      case measure => simp [intOf]; omega
    · have i3 : ¬ (q : Int) + 1 < (n : Int) := by omega
      have i2 : ¬ (q : Int) < (n : Int) := by omega
      obtain rfl : q = n := by omega
      have hfull : ls.take q = ls := List.take_of_length_le (by have := HN.out; omega)
      rw [hfull] at hoa
      clear hfull
      obtain ⟨Aa, ka, rfl⟩ := hoa.form
      go_wp2_with fail
      go_ret
      exact ⟨_, rfl, hoa, hba⟩

set_option maxHeartbeats 1000000 in
theorem rroot_any (v : Value) (seed : List UInt8) (w : World) (hv : Rd w w.heap.size v seed) (fr : TypeId × Nat × Nat) (hk : w.heap[1]? = some (.cells kVals fr.1 fr.2)) :
    Calls Tryd.prog 12 #[v] w fun e w' => ∃ v', e = .returned v' ∧ RdS w' w.heap.size v' (rootL seed) ∧ Below w.heap.size w w' := by
  have hn0 := blk_lt hk
  have HK := Lib.hid hk
  clear hk
  have l0 := levL_length seed 0 (by omega)
  have l1 := levL_length seed 1 (by omega)
  have l2 := levL_length seed 2 (by omega)
  have l3 := levL_length seed 3 (by omega)
  simp only [Nat.reducePow, Nat.reduceDiv] at l0 l1 l2 l3
  have L0 := Lib.hid l0
  have L1 := Lib.hid l1
  have L2 := Lib.hid l2
  have L3 := Lib.hid l3
  clear l0 l1 l2 l3
  obtain ⟨A, cc, rfl⟩ := hv.form
  go_enter Tryd.func12, Tryd.ntmps12
  go_wp2_with fail
  refine (leaves_any _ seed w hv fr HK.out).mono ?_
  rintro e w1 ⟨v1, rfl, ho1, hb1⟩
  go_wp2_with fail
  refine (above_any v1 (levL seed 0) w.heap.size w1 ho1.rowS hb1.size (by rw [L0.out]) (by rw [L0.out]; omega) fr ((hb1.block _ hn0).trans HK.out)).mono ?_
  rintro e w2 ⟨v2, rfl, ho2, hb2⟩
  have hq2 := below_chain hb1 hb1.size hb2
  replace ho2 : OwnR w2 w.heap.size w1.heap.size v2 (levL seed 1) := ho2
  go_wp2_with fail
  refine (above_any v2 (levL seed 1) w.heap.size w2 ho2.rowS hq2.size (by rw [L1.out]) (by rw [L1.out]; omega) fr ((hq2.block _ hn0).trans HK.out)).mono ?_
  rintro e w3 ⟨v3, rfl, ho3, hb3⟩
  have hq3 := below_chain hq2 hq2.size hb3
  replace ho3 : OwnR w3 w.heap.size w2.heap.size v3 (levL seed 2) := ho3
  go_wp2_with fail
  refine (above_any v3 (levL seed 2) w.heap.size w3 ho3.rowS hq3.size (by rw [L2.out]) (by rw [L2.out]; omega) fr ((hq3.block _ hn0).trans HK.out)).mono ?_
  rintro e w4 ⟨v4, rfl, ho4, hb4⟩
  have hq4 := below_chain hq3 hq3.size hb4
  have hrx : RowS w4 w.heap.size v4 (levL seed 3) := ho4.rowS
  clear ho1 ho2 ho3 ho4 hb1 hb2 hb3 hb4
  have h1l : 0 < (levL seed 3).length := by rw [L3.out]; omega
  obtain ⟨A2, c2, rfl⟩ := hrx.form
  obtain ⟨b2, o2, y, rfl, -, hlb2, hcy, hry⟩ := hrx.at_ 0 h1l
  rw [root_get] at hry
  obtain ⟨A3, c3, rfl⟩ := hry.1.form
  rw [L3.out] at *
  rw [Nat.add_zero] at hcy
  go_wp2_with fail
  go_ret
  exact ⟨_, rfl, hry, hq4⟩
end Go.Proofs.YtgomhojaappbnaaDoor
