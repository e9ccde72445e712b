/- The walks: the document's reader, its bytes, texts, flags, counts. -/
import Derived.Test.YtmmmbllbnfaboaaWireD
namespace Go.Proofs.Ytmmmbllbnfaboaa
open Go.RowKit

variable {w : World} {lo g : Nat} {rest : List UInt8} {fault : Int}

theorem hsize_set (w : World) (a : Addr) (u : Value) : (w.setCell a u).heap.size = w.heap.size := by simp [World.setCell]

set_option maxHeartbeats 1600000 in
theorem dB_any (h : Ddr w lo g rest fault) :
    Calls Try.prog 35 #[.pointer (some ⟨g, 0, none⟩)] w fun e w' => ∃ v, e = .returned v ∧ Own w' w.heap.size v (rB rest fault).1 ∧ Ddr w' lo g (rB rest fault).2.1 (rB rest fault).2.2 ∧ w.grownBy w' (some g) := by
  obtain ⟨i0, hi, hz, hsz, hby⟩ := info_parts Try.infoByte
  obtain ⟨sv, hg, hlo, hr, hs⟩ := id h
  have hlt := blk_lt hg
  obtain ⟨A0, c0', rfl⟩ := hr.form
  have c0 : w.cell? ⟨g, 0, none⟩ = some (.slice A0 rest.length c0') := blk_cell hg 0
  have c1 : w.cell? ⟨g, 1, none⟩ = some (.int .i64 fault) := blk_cell hg 1
  have z0 : w.frozen? ⟨g, 0, none⟩ = false := blk_free hg 0
  have z1 : w.frozen? ⟨g, 1, none⟩ = false := blk_free hg 1
  by_cases hf : fault = 0
  · subst hf
    by_cases hl : rest.length < 4
    · have e : rB rest 0 = ([], rest, 20) := by simp [rB, hl]
      rw [e]
      clear e
      go_enter Try.func35, Try.ntmps35
      go_wp2_with fail
      refine (take_short h 4 hl).mono ?_
      rintro e w' ⟨rfl, rfl⟩
      go_wp2_with fail
      go_ret
      exact ⟨_, rfl, Own.nil _ _, h.put1 20, grown_set _ _ _ _⟩
    · have hbv : beVal (rest.take 4) < 256 ^ 4 := beVal_lt8 _ 4 (by simp; omega)
      obtain ⟨n, hn'⟩ : ∃ n, n = beVal (rest.take 4) := ⟨_, rfl⟩
      have HN := Lib.hid hn'
      have e0 : rB rest 0 = if 65535 < n then ([], rest, 22) else if rest.length < 4 + n then ([], rest, 20) else ((rest.drop 4).take n, rest.drop (4 + n), 0) := by simp [rB, hl, hn']
      rw [← hn'] at hbv
      clear hn'
      by_cases hn : 65535 < n
      · rw [if_pos hn] at e0
        rw [e0]
        clear e0
        have j1 : (65535 : Int) < (n : Int) := by omega
        go_enter Try.func35, Try.ntmps35
        go_wp2_with fail
        refine (take_ok h 4 (by omega)).mono ?_
        rintro e w' ⟨A, c, sv', rfl, rfl, hx, hd, hs'⟩
        have hx' : Rd (w.setCell ⟨g, 0, none⟩ sv') (w.setCell ⟨g, 0, none⟩ sv').heap.size (.slice A 4 c) (rest.take 4) := (hx.set 0 _).more (by rw [hsize_set]; omega)
        go_wp2_with fail
        refine (number_any _ _ _ hx' (by simp; omega)).mono ?_
        rintro e w' ⟨rfl, rfl⟩
        rw [← HN.out]
        have hg1 : (w.setCell ⟨g, 0, none⟩ sv').heap[g]? = some (.cells #[sv', .int .i64 0] 55 (0, 0)) := by simpa using blk_set hg 0 sv'
        have d0 : (w.setCell ⟨g, 0, none⟩ sv').cell? ⟨g, 0, none⟩ = some sv' := blk_cell hg1 0
        go_wp2_with fail
        go_ret
        exact ⟨_, rfl, Own.nil _ _, (RdT.put0 hg1 hlo (hr.set 0 _) hs).put1 22, grownBy_trans (grownBy_trans (grown_set _ _ _ _) (grown_set _ _ _ _)) (grown_set _ _ _ _)⟩
      · rw [if_neg hn] at e0
        have j1 : (n : Int) ≤ 65535 := by omega
        by_cases hm : rest.length < 4 + n
        · rw [if_pos hm] at e0
          rw [e0]
          clear e0
          go_enter Try.func35, Try.ntmps35
          go_wp2_with fail
          refine (take_ok h 4 (by omega)).mono ?_
          rintro e w' ⟨A, c, sv', rfl, rfl, hx, hd, hs'⟩
          have hx' : Rd (w.setCell ⟨g, 0, none⟩ sv') (w.setCell ⟨g, 0, none⟩ sv').heap.size (.slice A 4 c) (rest.take 4) := (hx.set 0 _).more (by rw [hsize_set]; omega)
          go_wp2_with fail
          refine (number_any _ _ _ hx' (by simp; omega)).mono ?_
          rintro e w' ⟨rfl, rfl⟩
          rw [← HN.out]
          have hg1 : (w.setCell ⟨g, 0, none⟩ sv').heap[g]? = some (.cells #[sv', .int .i64 0] 55 (0, 0)) := by simpa using blk_set hg 0 sv'
          have d0 : (w.setCell ⟨g, 0, none⟩ sv').cell? ⟨g, 0, none⟩ = some sv' := blk_cell hg1 0
          have hdd : Ddr (w.setCell ⟨g, 0, none⟩ sv') lo g (rest.drop 4) 0 := RdT.put0 hg hlo hd hs'
          go_wp2_with fail
          refine (take_short hdd n (by simp; omega)).mono ?_
          rintro e w' ⟨rfl, rfl⟩
          have hg2 : ((w.setCell ⟨g, 0, none⟩ sv').setCell ⟨g, 1, none⟩ (.int .i64 20)).heap[g]? = some (.cells #[sv', .int .i64 20] 55 (0, 0)) := by simpa using blk_set hg1 1 (.int .i64 20)
          have d1 : ((w.setCell ⟨g, 0, none⟩ sv').setCell ⟨g, 1, none⟩ (.int .i64 20)).cell? ⟨g, 0, none⟩ = some sv' := blk_cell hg2 0
          have d2 := blk_free hg2 0
          go_wp2_with fail
          go_ret
          exact ⟨_, rfl, Own.nil _ _, RdT.put0 hg2 hlo ((hr.set 0 _).set 1 _) hs, grownBy_trans (grownBy_trans (grown_set _ _ _ _) (grown_set _ _ _ _)) (grown_set _ _ _ _)⟩
        · rw [if_neg hm] at e0
          rw [e0]
          clear e0
          go_enter Try.func35, Try.ntmps35
          go_wp2_with fail
          refine (take_ok h 4 (by omega)).mono ?_
          rintro e w' ⟨A, c, sv', rfl, rfl, hx, hd, hs'⟩
          have hx' : Rd (w.setCell ⟨g, 0, none⟩ sv') (w.setCell ⟨g, 0, none⟩ sv').heap.size (.slice A 4 c) (rest.take 4) := (hx.set 0 _).more (by rw [hsize_set]; omega)
          go_wp2_with fail
          refine (number_any _ _ _ hx' (by simp; omega)).mono ?_
          rintro e w' ⟨rfl, rfl⟩
          rw [← HN.out]
          have hdd : Ddr (w.setCell ⟨g, 0, none⟩ sv') lo g (rest.drop 4) 0 := RdT.put0 hg hlo hd hs'
          have hg1 : (w.setCell ⟨g, 0, none⟩ sv').heap[g]? = some (.cells #[sv', .int .i64 0] 55 (0, 0)) := by simpa using blk_set hg 0 sv'
          go_wp2_with fail
          refine (take_ok hdd n (by simp; omega)).mono ?_
          rintro e w' ⟨A2, c2, sv2, rfl, rfl, hx2, hd2, hs2⟩
          have hfin : Ddr ((w.setCell ⟨g, 0, none⟩ sv').setCell ⟨g, 0, none⟩ sv2) lo g (rest.drop (4 + n)) 0 := by
            have := RdT.put0 hg1 hlo hd2 hs2
            rwa [List.drop_drop] at this
          have hx3 : Rd (((w.setCell ⟨g, 0, none⟩ sv').setCell ⟨g, 0, none⟩ sv2).alloc (.cells #[] 5)) g (.slice A2 n c2) ((rest.drop 4).take n) := (hx2.set 0 _).alloc (by rw [hsize_set, hsize_set]; omega) _
          have hgr : w.grownBy ((w.setCell ⟨g, 0, none⟩ sv').setCell ⟨g, 0, none⟩ sv2) (some g) := grownBy_trans (grown_set _ _ _ _) (grown_set _ _ _ _)
          generalize hw2 : (w.setCell ⟨g, 0, none⟩ sv').setCell ⟨g, 0, none⟩ sv2 = w2 at *
          have hsz2 : w.heap.size = w2.heap.size := by rw [← hw2, hsize_set, hsize_set]
          have HW := Lib.hid hw2
          clear hw2
          have hemp := own_empty w2 (Nat.le_refl _)
          have hle : ((rest.drop 4).take n).length ≤ 65535 := by simp; omega
          go_wp2_with (at_builtin; refine wpList_append_rd rfl (.tmp 43) (.tmp 44) _ rfl i0 Try.underlying22 hi hz hsz hby rfl hemp rfl hx3 (by simp; omega) (by simp) ?_; intro v3 w3 ho3 hg3 _)
          have hb3 : Below w2.heap.size w2 w3 := Own.below_grown ((Below.refl _ _).alloc (Nat.le_refl _) _) hemp (Nat.le_refl _) (by simp) hg3
          clear hg3
          go_ret
          exact ⟨_, rfl, by rw [hsz2]; simpa using ho3, hfin.below hb3, grownBy_below hgr hb3⟩
  · have e : rB rest fault = ([], rest, fault) := by simp [rB, hf]
    rw [e]
    clear e
    go_enter Try.func35, Try.ntmps35
    go_wp2_with fail
    refine (take_bad h hf 4).mono ?_
    rintro e w' ⟨rfl, rfl⟩
    go_wp2_with fail
    go_ret
    exact ⟨_, rfl, Own.nil _ _, h, World.grownBy.refl _ _⟩

set_option maxHeartbeats 400000 in
theorem dT_any (h : Ddr w lo g rest fault) :
    Calls Try.prog 36 #[.pointer (some ⟨g, 0, none⟩)] w fun e w' => e = .returned (.string ⟨(rB rest fault).1.toArray⟩) ∧ Ddr w' lo g (rB rest fault).2.1 (rB rest fault).2.2 ∧ w.grownBy w' (some g) := by
  go_enter Try.func36, Try.ntmps36
  go_wp2_with fail
  refine (dB_any h).mono ?_
  rintro e w1 ⟨v1, rfl, ho1, hrd1, hg1⟩
  have hcv := run_str (P := Try.prog) Try.underlying22 Try.underlying5 Try.isString ho1.rd
  go_wp2_with fail
  go_ret
  exact ⟨rfl, hrd1, hg1⟩

set_option maxHeartbeats 1000000 in
theorem dF_any (h : Ddr w lo g rest fault) :
    Calls Try.prog 37 #[.pointer (some ⟨g, 0, none⟩)] w fun e w' => e = .returned (.bool (rF rest fault).1) ∧ Ddr w' lo g (rF rest fault).2.1 (rF rest fault).2.2 ∧ w.grownBy w' (some g) := by
  obtain ⟨sv, hg, hlo, hr, hs⟩ := id h
  have hlt := blk_lt hg
  obtain ⟨A0, c0', rfl⟩ := hr.form
  have c0 : w.cell? ⟨g, 0, none⟩ = some (.slice A0 rest.length c0') := blk_cell hg 0
  have c1 : w.cell? ⟨g, 1, none⟩ = some (.int .i64 fault) := blk_cell hg 1
  by_cases hf : fault = 0
  · subst hf
    rcases rest with _ | ⟨x, r⟩
    · have e : rF [] 0 = (false, [], 20) := by simp [rF]
      rw [e]
      clear e
      go_enter Try.func37, Try.ntmps37
      go_wp2_with fail
      refine (take_short h 1 (by simp)).mono ?_
      rintro e w' ⟨rfl, rfl⟩
      go_wp2_with fail
      go_ret
      exact ⟨rfl, h.put1 20, grown_set _ _ _ _⟩
    · by_cases hx : 1 < x.toNat
      · have e : rF (x :: r) 0 = (false, x :: r, 21) := by simp [rF, hx]
        rw [e]
        clear e
        have j1 : (1 : Int) < (x.toNat : Int) := by omega
        go_enter Try.func37, Try.ntmps37
        go_wp2_with fail
        refine (take_ok h 1 (by simp)).mono ?_
        rintro e w' ⟨A, c, sv', rfl, rfl, hx1, hd, hs'⟩
        have hx2 := hx1.set (i := 0) sv'
        obtain ⟨-, b, o, rfl, hb, hcell⟩ := hx2.cell (by omega)
        have cx : (w.setCell ⟨g, 0, none⟩ sv').cell? ⟨b, o, none⟩ = some (.int .u8 (x.toNat : Int)) := hcell 0 (by simp)
        clear hcell
        have hg1 : (w.setCell ⟨g, 0, none⟩ sv').heap[g]? = some (.cells #[sv', .int .i64 0] 55 (0, 0)) := by simpa using blk_set hg 0 sv'
        have d0 : (w.setCell ⟨g, 0, none⟩ sv').cell? ⟨g, 0, none⟩ = some sv' := blk_cell hg1 0
        have z0 := blk_free hg1 0
        have z1 := blk_free hg1 1
        have d1 : (w.setCell ⟨g, 0, none⟩ sv').cell? ⟨g, 1, none⟩ = some (.int .i64 0) := blk_cell hg1 1
        go_wp2_with fail
        go_ret
        exact ⟨rfl, (RdT.put0 hg1 hlo (hr.set 0 _) hs).put1 21, grownBy_trans (grownBy_trans (grown_set _ _ _ _) (grown_set _ _ _ _)) (grown_set _ _ _ _)⟩
      · have e : rF (x :: r) 0 = (x.toNat == 1, r, 0) := by simp [rF, hx]
        rw [e]
        clear e
        have j1 : (x.toNat : Int) ≤ 1 := by omega
        have j2 : ((x.toNat : Int) == 1) = (x.toNat == 1) := by rw [Bool.eq_iff_iff]; simp; omega
        go_enter Try.func37, Try.ntmps37
        go_wp2_with fail
        refine (take_ok h 1 (by simp)).mono ?_
        rintro e w' ⟨A, c, sv', rfl, rfl, hx1, hd, hs'⟩
        have hx2 := hx1.set (i := 0) sv'
        obtain ⟨-, b, o, rfl, hb, hcell⟩ := hx2.cell (by omega)
        have cx : (w.setCell ⟨g, 0, none⟩ sv').cell? ⟨b, o, none⟩ = some (.int .u8 (x.toNat : Int)) := hcell 0 (by simp)
        clear hcell
        go_wp2_with fail
        go_ret
        exact ⟨rfl, RdT.put0 hg hlo hd hs', grown_set _ _ _ _⟩
  · have e : rF rest fault = (false, rest, fault) := by simp [rF, hf]
    rw [e]
    clear e
    go_enter Try.func37, Try.ntmps37
    go_wp2_with fail
    refine (take_bad h hf 1).mono ?_
    rintro e w' ⟨rfl, rfl⟩
    go_wp2_with fail
    go_ret
    exact ⟨rfl, h, World.grownBy.refl _ _⟩
end Go.Proofs.Ytmmmbllbnfaboaa
