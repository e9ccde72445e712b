/- Texts joined: WireDoc0, BeLt, EncB1, PktB1. -/
import Derived.Test.YtpcoonnfaoakhaaGreatDoorM12
import Derived.Test.YtpcoonnfaoakhaaGreatDoorM01
import Derived.Laws.IdiomStrings
import Derived.Test.YtpcoonnfaoakhaaGreatDoorM02
import Derived.Deep.RegionHeldLaw
import Derived.Laws.StructEq
import Derived.Test.YtpcoonnfaoakhaaGreatDoorM04
import Derived.Test.YtpcoonnfaoakhaaGreatDoorM05
namespace Go.Proofs.YtpcoonnfaoakhaaGreatDoor
set_option maxRecDepth 100000
open Go.RowKit

variable {w : World} {lo g : Nat} {rest : List UInt8} {fault : Int}

set_option maxHeartbeats 400000 in
theorem dnumber_any (v : Value) (l : List UInt8) (w : World) (h : Rd w w.heap.size v l) (hl : l.length ≤ 8) :
    Calls Tryz.prog 144 #[v] w fun e w' => e = .returned (.int .u64 (beVal l : Nat)) ∧ w = w' := by
  obtain ⟨A, c, rfl, hc, hcm, hp⟩ := h
  go_enter Tryz.func144, Tryz.ntmps144
  go_wp2
  go_loop [3, 4] (fun n i => ∃ k : Nat, k ≤ l.length ∧ i = .int .i64 (k : Int) ∧ n = .int .u64 (beVal (l.take k) : Nat)) (fun _ i => l.length - (intOf i).toNat)
  case atStart => exact ⟨0, Nat.zero_le _, rfl, by simp [beVal]⟩
  case round =>
    obtain ⟨k, hk, rfl, rfl⟩ := hrel
    by_cases hlt : k < l.length
    · obtain ⟨b, o, rfl, hb, hcell⟩ := hp (by omega)
      have c1 : w.cell? ⟨b, o + k, none⟩ = some (.int .u8 (l[k].toNat : Int)) := hcell k (by omega)
      have hlt2 : beVal (l.take k) < 256 ^ 7 := beVal_lt8 _ 7 (by simp; omega)
      have hx := l[k].toNat_lt
      have i1 : (0 : Int) ≤ (k : Int) := by omega
      have i2 : (k : Int) < (l.length : Int) := by omega
      have hsn : beVal (l.take (k + 1)) = beVal (l.take k) * 256 + l[k].toNat := by rw [List.take_succ_eq_append_getElem (by omega), beVal_snoc]
      have HS := Lib.hid hsn
      clear hsn hcell hp
      go_wp2
      refine ⟨⟨k + 1, by omega, by go_num, ?_⟩, by simp [intOf]; omega⟩
      rw [HS.out]
      congr 1
      try simp only [IntKind.wrap_u64]
      omega
    · have hk' : ¬ (k : Int) < (l.length : Int) := by omega
      obtain rfl : k = l.length := by omega
      go_wp2
      go_ret
      exact ⟨by simp, rfl⟩

theorem take_bad (h : Ddr w lo g rest fault) (hf : fault ≠ 0) (n : Int) :
    Calls Tryz.prog 143 #[.pointer (some ⟨g, 0, none⟩), .int .i64 n] w fun e w' => e = .returned (.tuple #[.slice none 0 0, .bool false]) ∧ w = w' := by
  obtain ⟨sv, hg, hlo, hr, hs⟩ := h
  have c1 : w.cell? ⟨g, 1, none⟩ = some (.int .i64 fault) := blk_cell hg 1
  have j : (fault != 0) = true := by simp [hf]
  go_enter Tryz.func143, Tryz.ntmps143
  go_wp2
  go_ret2
  exact ⟨rfl, rfl⟩

theorem take_short (h : Ddr w lo g rest 0) (n : Nat) (hn : rest.length < n) :
    Calls Tryz.prog 143 #[.pointer (some ⟨g, 0, none⟩), .int .i64 (n : Int)] w fun e w' => e = .returned (.tuple #[.slice none 0 0, .bool false]) ∧ w.setCell ⟨g, 1, none⟩ (.int .i64 20) = w' := by
  obtain ⟨sv, hg, hlo, ⟨A, c, rfl, hc, hcm, hp⟩, hs⟩ := h
  have c0 : w.cell? ⟨g, 0, none⟩ = some (.slice A rest.length c) := blk_cell hg 0
  have c1 : w.cell? ⟨g, 1, none⟩ = some (.int .i64 0) := blk_cell hg 1
  have z1 : w.frozen? ⟨g, 1, none⟩ = false := blk_free hg 1
  have j : (rest.length : Int) < (n : Int) := by omega
  go_enter Tryz.func143, Tryz.ntmps143
  go_wp2
  go_ret2
  exact ⟨rfl, rfl⟩

/-- what a take that goes leaves -/
def TakeOk (w : World) (lo g : Nat) (rest : List UInt8) (n : Nat) (e : Ending) (w' : World) : Prop :=
  ∃ A c sv', e = .returned (.tuple #[.slice A n c, .bool true]) ∧ w.setCell ⟨g, 0, none⟩ sv' = w' ∧ Rd w g (.slice A n c) (rest.take n) ∧ Rd w g sv' (rest.drop n) ∧ (∀ k, sv'.ownBlock = some k → lo ≤ k)

set_option maxHeartbeats 400000 in
theorem take_ok (h : Ddr w lo g rest 0) (n : Nat) (hn : n ≤ rest.length) :
    Calls Tryz.prog 143 #[.pointer (some ⟨g, 0, none⟩), .int .i64 (n : Int)] w (TakeOk w lo g rest n) := by
  obtain ⟨sv, hg, hlo, ⟨A, c, rfl, hc, hcm, hp⟩, hs⟩ := h
  have c0 : w.cell? ⟨g, 0, none⟩ = some (.slice A rest.length c) := blk_cell hg 0
  have c1 : w.cell? ⟨g, 1, none⟩ = some (.int .i64 0) := blk_cell hg 1
  have z0 : w.frozen? ⟨g, 0, none⟩ = false := blk_free hg 0
  have j : (n : Int) ≤ (rest.length : Int) := by omega
  have j2 : (n : Int) ≤ (c : Int) := by omega
  by_cases h0 : rest.length = 0
  · obtain rfl : rest = [] := List.eq_nil_of_length_eq_zero h0
    obtain rfl : n = 0 := by simpa using hn
    clear j j2
    have j2 : (0 : Int) ≤ (c : Int) := by omega
    go_enter Tryz.func143, Tryz.ntmps143
    go_wp2
    go_ret2
    refine ⟨_, _, _, rfl, rfl, rd_empty hcm, rd_empty (by omega), by simpa [Value.ownBlock] using hs⟩
  · obtain ⟨b, o, rfl, hb, hcell⟩ := hp (by omega)
    have key : ∀ c', n ≤ c' → c' ≤ maxLen → Rd w g (.slice (some ⟨b, o, none⟩) n c') (rest.take n) := fun c' h1 h2 => by
      simpa using rd_piece (k := 0) (n := n) hb hcell rfl (by omega) (by intro _; rfl) h1 h2
    have KEY := Lib.hid key
    clear key
    go_enter Tryz.func143, Tryz.ntmps143
    go_wp2
    all_goals
      go_ret2
      exact ⟨_, _, _, rfl, rfl, KEY.out _ (by omega) (by omega), rd_cut (k := n) hb hcell (by omega) (by omega) (by intro h; omega) (by omega) (by omega), hs⟩

/-! ### the document's N, B, F, Count -/
set_option maxHeartbeats 400000 in
theorem dN_any (h : Ddr w lo g rest fault) :
    Calls Tryz.prog 78 #[.pointer (some ⟨g, 0, none⟩)] w fun e w' => e = .returned (.int .u64 ((rN rest fault).1 : Nat)) ∧ Ddr w' lo g (rN rest fault).2.1 (rN rest fault).2.2 ∧ w.grownBy w' (some g) := by
  by_cases hf : fault = 0
  · subst hf
    by_cases hl : rest.length < 8
    · have e : rN rest 0 = (0, rest, 20) := by simp [rN, hl]
      rw [e]
      clear e
      go_enter Tryz.func78, Tryz.ntmps78
      go_wp2_with fail
      refine (take_short h 8 hl).mono ?_
      rintro e w' ⟨rfl, rfl⟩
      go_wp2_with fail
      go_ret
      exact ⟨rfl, h.put1 20, grown_setR _ _ _ _⟩
    · have e : rN rest 0 = (beVal (rest.take 8), rest.drop 8, 0) := by simp [rN, hl]
      rw [e]
      clear e
      obtain ⟨sv, hg, hlo, hr, hs⟩ := id h
      go_enter Tryz.func78, Tryz.ntmps78
      go_wp2_with fail
      refine (take_ok h 8 (by omega)).mono ?_
      rintro e w' ⟨A, c, sv', rfl, rfl, hx, hd, hs'⟩
      have hlt := blk_lt hg
      have hx' : Rd (w.setCell ⟨g, 0, none⟩ sv') (w.setCell ⟨g, 0, none⟩ sv').heap.size (.slice A 8 c) (rest.take 8) := (hx.set 0 _).more (by simp [World.setCell]; omega)
      go_wp2_with fail
      refine (dnumber_any _ _ _ hx' (by simp; omega)).mono ?_
      rintro e w' ⟨rfl, rfl⟩
      go_wp2_with fail
      go_ret
      exact ⟨rfl, RdT.put0 hg hlo hd hs', grown_setR _ _ _ _⟩
  · have e : rN rest fault = (0, rest, fault) := by simp [rN, hf]
    rw [e]
    clear e
    go_enter Tryz.func78, Tryz.ntmps78
    go_wp2_with fail
    refine (take_bad h hf 8).mono ?_
    rintro e w' ⟨rfl, rfl⟩
    go_wp2_with fail
    go_ret
    exact ⟨rfl, h, World.grownBy.refl _ _⟩
end Go.Proofs.YtpcoonnfaoakhaaGreatDoor
namespace Go.Proofs.YtpcoonnfaoakhaaGreatDoor
set_option maxRecDepth 100000
open Go.RowKit

variable {w : World} {lo g : Nat} {rest : List UInt8} {fault : Int}

theorem hsize_set (w : World) (a : Addr) (u : Value) : (w.setCell a u).heap.size = w.heap.size := by simp [World.setCell]

set_option maxHeartbeats 1600000 in
theorem dB_any (h : Ddr w lo g rest fault) :
    Calls Tryz.prog 224 #[.pointer (some ⟨g, 0, none⟩)] w fun e w' => ∃ v, e = .returned v ∧ Own w' w.heap.size v (rB rest fault).1 ∧ Ddr w' lo g (rB rest fault).2.1 (rB rest fault).2.2 ∧ w.grownBy w' (some g) := by
  obtain ⟨i0, hi, hz, hsz, hby⟩ := info_parts Tryz.infoByte
  obtain ⟨sv, hg, hlo, hr, hs⟩ := id h
  have hlt := blk_lt hg
  obtain ⟨A0, c0', rfl⟩ := hr.form
  have c0 : w.cell? ⟨g, 0, none⟩ = some (.slice A0 rest.length c0') := blk_cell hg 0
  have c1 : w.cell? ⟨g, 1, none⟩ = some (.int .i64 fault) := blk_cell hg 1
  have z0 : w.frozen? ⟨g, 0, none⟩ = false := blk_free hg 0
  have z1 : w.frozen? ⟨g, 1, none⟩ = false := blk_free hg 1
  by_cases hf : fault = 0
  · subst hf
    by_cases hl : rest.length < 4
    · have e : rB rest 0 = ([], rest, 20) := by simp [rB, hl]
      rw [e]
      clear e
      go_enter Tryz.func224, Tryz.ntmps224
      go_wp2_with fail
      refine (take_short h 4 hl).mono ?_
      rintro e w' ⟨rfl, rfl⟩
      go_wp2_with fail
      go_ret
      exact ⟨_, rfl, Own.nil _ _, h.put1 20, grown_setR _ _ _ _⟩
    · have hbv : beVal (rest.take 4) < 256 ^ 4 := beVal_lt8 _ 4 (by simp; omega)
      obtain ⟨n, hn'⟩ : ∃ n, n = beVal (rest.take 4) := ⟨_, rfl⟩
      have HN := Lib.hid hn'
      have e0 : rB rest 0 = if 65535 < n then ([], rest, 22) else if rest.length < 4 + n then ([], rest, 20) else ((rest.drop 4).take n, rest.drop (4 + n), 0) := by simp [rB, hl, hn']
      rw [← hn'] at hbv
      clear hn'
      by_cases hn : 65535 < n
      · rw [if_pos hn] at e0
        rw [e0]
        clear e0
        have j1 : (65535 : Int) < (n : Int) := by omega
        go_enter Tryz.func224, Tryz.ntmps224
        go_wp2_with fail
        refine (take_ok h 4 (by omega)).mono ?_
        rintro e w' ⟨A, c, sv', rfl, rfl, hx, hd, hs'⟩
        have hx' : Rd (w.setCell ⟨g, 0, none⟩ sv') (w.setCell ⟨g, 0, none⟩ sv').heap.size (.slice A 4 c) (rest.take 4) := (hx.set 0 _).more (by rw [hsize_set]; omega)
        go_wp2_with fail
        refine (dnumber_any _ _ _ hx' (by simp; omega)).mono ?_
        rintro e w' ⟨rfl, rfl⟩
        rw [← HN.out]
        have hg1 : (w.setCell ⟨g, 0, none⟩ sv').heap[g]? = some (.cells #[sv', .int .i64 0] 188 (0, 0)) := by simpa using blk_set hg 0 sv'
        have d0 : (w.setCell ⟨g, 0, none⟩ sv').cell? ⟨g, 0, none⟩ = some sv' := blk_cell hg1 0
        go_wp2_with fail
        go_ret
        exact ⟨_, rfl, Own.nil _ _, (RdT.put0 hg1 hlo (hr.set 0 _) hs).put1 22, grownBy_trans (grownBy_trans (grown_setR _ _ _ _) (grown_setR _ _ _ _)) (grown_setR _ _ _ _)⟩
      · rw [if_neg hn] at e0
        have j1 : (n : Int) ≤ 65535 := by omega
        by_cases hm : rest.length < 4 + n
        · rw [if_pos hm] at e0
          rw [e0]
          clear e0
          go_enter Tryz.func224, Tryz.ntmps224
          go_wp2_with fail
          refine (take_ok h 4 (by omega)).mono ?_
          rintro e w' ⟨A, c, sv', rfl, rfl, hx, hd, hs'⟩
          have hx' : Rd (w.setCell ⟨g, 0, none⟩ sv') (w.setCell ⟨g, 0, none⟩ sv').heap.size (.slice A 4 c) (rest.take 4) := (hx.set 0 _).more (by rw [hsize_set]; omega)
          go_wp2_with fail
          refine (dnumber_any _ _ _ hx' (by simp; omega)).mono ?_
          rintro e w' ⟨rfl, rfl⟩
          rw [← HN.out]
          have hg1 : (w.setCell ⟨g, 0, none⟩ sv').heap[g]? = some (.cells #[sv', .int .i64 0] 188 (0, 0)) := by simpa using blk_set hg 0 sv'
          have d0 : (w.setCell ⟨g, 0, none⟩ sv').cell? ⟨g, 0, none⟩ = some sv' := blk_cell hg1 0
          have hdd : Ddr (w.setCell ⟨g, 0, none⟩ sv') lo g (rest.drop 4) 0 := RdT.put0 hg hlo hd hs'
          go_wp2_with fail
          refine (take_short hdd n (by simp; omega)).mono ?_
          rintro e w' ⟨rfl, rfl⟩
          have hg2 : ((w.setCell ⟨g, 0, none⟩ sv').setCell ⟨g, 1, none⟩ (.int .i64 20)).heap[g]? = some (.cells #[sv', .int .i64 20] 188 (0, 0)) := by simpa using blk_set hg1 1 (.int .i64 20)
          have d1 : ((w.setCell ⟨g, 0, none⟩ sv').setCell ⟨g, 1, none⟩ (.int .i64 20)).cell? ⟨g, 0, none⟩ = some sv' := blk_cell hg2 0
          have d2 := blk_free hg2 0
          go_wp2_with fail
          go_ret
          exact ⟨_, rfl, Own.nil _ _, RdT.put0 hg2 hlo ((hr.set 0 _).set 1 _) hs, grownBy_trans (grownBy_trans (grown_setR _ _ _ _) (grown_setR _ _ _ _)) (grown_setR _ _ _ _)⟩
        · rw [if_neg hm] at e0
          rw [e0]
          clear e0
          go_enter Tryz.func224, Tryz.ntmps224
          go_wp2_with fail
          refine (take_ok h 4 (by omega)).mono ?_
          rintro e w' ⟨A, c, sv', rfl, rfl, hx, hd, hs'⟩
          have hx' : Rd (w.setCell ⟨g, 0, none⟩ sv') (w.setCell ⟨g, 0, none⟩ sv').heap.size (.slice A 4 c) (rest.take 4) := (hx.set 0 _).more (by rw [hsize_set]; omega)
          go_wp2_with fail
          refine (dnumber_any _ _ _ hx' (by simp; omega)).mono ?_
          rintro e w' ⟨rfl, rfl⟩
          rw [← HN.out]
          have hdd : Ddr (w.setCell ⟨g, 0, none⟩ sv') lo g (rest.drop 4) 0 := RdT.put0 hg hlo hd hs'
          have hg1 : (w.setCell ⟨g, 0, none⟩ sv').heap[g]? = some (.cells #[sv', .int .i64 0] 188 (0, 0)) := by simpa using blk_set hg 0 sv'
          go_wp2_with fail
          refine (take_ok hdd n (by simp; omega)).mono ?_
          rintro e w' ⟨A2, c2, sv2, rfl, rfl, hx2, hd2, hs2⟩
          have hfin : Ddr ((w.setCell ⟨g, 0, none⟩ sv').setCell ⟨g, 0, none⟩ sv2) lo g (rest.drop (4 + n)) 0 := by
            have := RdT.put0 hg1 hlo hd2 hs2
            rwa [List.drop_drop] at this
          have hx3 : Rd (((w.setCell ⟨g, 0, none⟩ sv').setCell ⟨g, 0, none⟩ sv2).alloc (.cells #[] 5)) g (.slice A2 n c2) ((rest.drop 4).take n) := (hx2.set 0 _).alloc (by rw [hsize_set, hsize_set]; omega) _
          have hgr : w.grownBy ((w.setCell ⟨g, 0, none⟩ sv').setCell ⟨g, 0, none⟩ sv2) (some g) := grownBy_trans (grown_setR _ _ _ _) (grown_setR _ _ _ _)
          generalize hw2 : (w.setCell ⟨g, 0, none⟩ sv').setCell ⟨g, 0, none⟩ sv2 = w2 at *
          have hsz2 : w.heap.size = w2.heap.size := by rw [← hw2, hsize_set, hsize_set]
          have HW := Lib.hid hw2
          clear hw2
          have hemp := own_empty w2 (Nat.le_refl _)
          have hle : ((rest.drop 4).take n).length ≤ 65535 := by simp; omega
          go_wp2_with (at_builtin; refine wpList_append_rd rfl (.tmp 43) (.tmp 44) _ rfl i0 Tryz.underlying27 hi hz hsz hby rfl hemp rfl hx3 (by simp; omega) (by simp) ?_; intro v3 w3 ho3 hg3 _)
          have hb3 : Below w2.heap.size w2 w3 := Own.below_grown ((Below.refl _ _).alloc (Nat.le_refl _) _) hemp (Nat.le_refl _) (by simp) hg3
          clear hg3
          go_ret
          exact ⟨_, rfl, by rw [hsz2]; simpa using ho3, hfin.below hb3, grownBy_below hgr hb3⟩
  · have e : rB rest fault = ([], rest, fault) := by simp [rB, hf]
    rw [e]
    clear e
    go_enter Tryz.func224, Tryz.ntmps224
    go_wp2_with fail
    refine (take_bad h hf 4).mono ?_
    rintro e w' ⟨rfl, rfl⟩
    go_wp2_with fail
    go_ret
    exact ⟨_, rfl, Own.nil _ _, h, World.grownBy.refl _ _⟩

set_option maxHeartbeats 400000 in
theorem dT_any (h : Ddr w lo g rest fault) :
    Calls Tryz.prog 192 #[.pointer (some ⟨g, 0, none⟩)] w fun e w' => e = .returned (.string ⟨(rB rest fault).1.toArray⟩) ∧ Ddr w' lo g (rB rest fault).2.1 (rB rest fault).2.2 ∧ w.grownBy w' (some g) := by
  go_enter Tryz.func192, Tryz.ntmps192
  go_wp2_with fail
  refine (dB_any h).mono ?_
  rintro e w1 ⟨v1, rfl, ho1, hrd1, hg1⟩
  have hcv := run_str (P := Tryz.prog) Tryz.underlying27 Tryz.underlying5 Tryz.isString ho1.rd
  go_wp2_with fail
  go_ret
  exact ⟨rfl, hrd1, hg1⟩

set_option maxHeartbeats 1000000 in
theorem dF_any (h : Ddr w lo g rest fault) :
    Calls Tryz.prog 251 #[.pointer (some ⟨g, 0, none⟩)] w fun e w' => e = .returned (.bool (rF rest fault).1) ∧ Ddr w' lo g (rF rest fault).2.1 (rF rest fault).2.2 ∧ w.grownBy w' (some g) := by
  obtain ⟨sv, hg, hlo, hr, hs⟩ := id h
  have hlt := blk_lt hg
  obtain ⟨A0, c0', rfl⟩ := hr.form
  have c0 : w.cell? ⟨g, 0, none⟩ = some (.slice A0 rest.length c0') := blk_cell hg 0
  have c1 : w.cell? ⟨g, 1, none⟩ = some (.int .i64 fault) := blk_cell hg 1
  by_cases hf : fault = 0
  · subst hf
    rcases rest with _ | ⟨x, r⟩
    · have e : rF [] 0 = (false, [], 20) := by simp [rF]
      rw [e]
      clear e
      go_enter Tryz.func251, Tryz.ntmps251
      go_wp2_with fail
      refine (take_short h 1 (by simp)).mono ?_
      rintro e w' ⟨rfl, rfl⟩
      go_wp2_with fail
      go_ret
      exact ⟨rfl, h.put1 20, grown_setR _ _ _ _⟩
    · by_cases hx : 1 < x.toNat
      · have e : rF (x :: r) 0 = (false, x :: r, 21) := by simp [rF, hx]
        rw [e]
        clear e
        have j1 : (1 : Int) < (x.toNat : Int) := by omega
        go_enter Tryz.func251, Tryz.ntmps251
        go_wp2_with fail
        refine (take_ok h 1 (by simp)).mono ?_
        rintro e w' ⟨A, c, sv', rfl, rfl, hx1, hd, hs'⟩
        have hx2 := hx1.set (i := 0) sv'
        obtain ⟨-, b, o, rfl, hb, hcell⟩ := hx2.cell (by omega)
        have cx : (w.setCell ⟨g, 0, none⟩ sv').cell? ⟨b, o, none⟩ = some (.int .u8 (x.toNat : Int)) := hcell 0 (by simp)
        clear hcell
        have hg1 : (w.setCell ⟨g, 0, none⟩ sv').heap[g]? = some (.cells #[sv', .int .i64 0] 188 (0, 0)) := by simpa using blk_set hg 0 sv'
        have d0 : (w.setCell ⟨g, 0, none⟩ sv').cell? ⟨g, 0, none⟩ = some sv' := blk_cell hg1 0
        have z0 := blk_free hg1 0
        have z1 := blk_free hg1 1
        have d1 : (w.setCell ⟨g, 0, none⟩ sv').cell? ⟨g, 1, none⟩ = some (.int .i64 0) := blk_cell hg1 1
        go_wp2_with fail
        go_ret
        exact ⟨rfl, (RdT.put0 hg1 hlo (hr.set 0 _) hs).put1 21, grownBy_trans (grownBy_trans (grown_setR _ _ _ _) (grown_setR _ _ _ _)) (grown_setR _ _ _ _)⟩
      · have e : rF (x :: r) 0 = (x.toNat == 1, r, 0) := by simp [rF, hx]
        rw [e]
        clear e
        have j1 : (x.toNat : Int) ≤ 1 := by omega
        have j2 : ((x.toNat : Int) == 1) = (x.toNat == 1) := by rw [Bool.eq_iff_iff]; simp; omega
        go_enter Tryz.func251, Tryz.ntmps251
        go_wp2_with fail
        refine (take_ok h 1 (by simp)).mono ?_
        rintro e w' ⟨A, c, sv', rfl, rfl, hx1, hd, hs'⟩
        have hx2 := hx1.set (i := 0) sv'
        obtain ⟨-, b, o, rfl, hb, hcell⟩ := hx2.cell (by omega)
        have cx : (w.setCell ⟨g, 0, none⟩ sv').cell? ⟨b, o, none⟩ = some (.int .u8 (x.toNat : Int)) := hcell 0 (by simp)
        clear hcell
        go_wp2_with fail
        go_ret
        exact ⟨rfl, RdT.put0 hg hlo hd hs', grown_setR _ _ _ _⟩
  · have e : rF rest fault = (false, rest, fault) := by simp [rF, hf]
    rw [e]
    clear e
    go_enter Tryz.func251, Tryz.ntmps251
    go_wp2_with fail
    refine (take_bad h hf 1).mono ?_
    rintro e w' ⟨rfl, rfl⟩
    go_wp2_with fail
    go_ret
    exact ⟨rfl, h, World.grownBy.refl _ _⟩
end Go.Proofs.YtpcoonnfaoakhaaGreatDoor
namespace Go.Proofs.YtpcoonnfaoakhaaGreatDoor
set_option maxRecDepth 100000
open Go.RowKit

variable {w : World} {lo g : Nat} {rest : List UInt8} {fault : Int}

theorem Rd.grown {w w' : World} {g : Nat} {v : Value} {l : List UInt8} (h : Rd w g v l) (hg : w.grownBy w' (some g)) (hlt : g ≤ w.heap.size) : Rd w' g v l :=
  h.keep fun p hp => World.cell?_of_block (hg.block p.block (by omega) (by intro e; injection e with e; omega))

set_option maxHeartbeats 400000 in
theorem dEnd_any (h : Ddr w lo g rest fault) :
    Calls Tryz.prog 193 #[.pointer (some ⟨g, 0, none⟩)] w fun e w' => e = .returned (.int .i64 (rEnd rest fault)) ∧ w = w' := by
  obtain ⟨sv, hg, hlo, ⟨A, c, rfl, hc, hcm, hp⟩, hs⟩ := h
  have c0 : w.cell? ⟨g, 0, none⟩ = some (.slice A rest.length c) := blk_cell hg 0
  have c1 : w.cell? ⟨g, 1, none⟩ = some (.int .i64 fault) := blk_cell hg 1
  unfold rEnd
  by_cases hf : fault = 0
  · subst hf
    by_cases hl : 0 < rest.length
    · have j : (0 : Int) < (rest.length : Int) := by omega
      rw [if_neg (by simp), if_pos hl]
      go_enter Tryz.func193, Tryz.ntmps193
      go_wp2
      go_ret
      exact ⟨rfl, rfl⟩
    · have j : ¬ (0 : Int) < (rest.length : Int) := by omega
      rw [if_neg (by simp), if_neg hl]
      go_enter Tryz.func193, Tryz.ntmps193
      go_wp2
      go_ret
      exact ⟨rfl, rfl⟩
  · have j : (fault == 0) = false := by simp [hf]
    rw [if_pos hf]
    go_enter Tryz.func193, Tryz.ntmps193
    go_wp2
    go_ret
    exact ⟨rfl, rfl⟩

set_option maxHeartbeats 400000 in
theorem open_dd (v : Value) (l : List UInt8) (w : World) (hr : Rd w w.heap.size v l) (hl : l.length ≤ 140737488355320) :
    Calls Tryz.prog 77 #[v] w fun e w' => ∃ g, e = .returned (.pointer (some ⟨g, 0, none⟩)) ∧ Ddr w' w.heap.size g l 0 ∧ Below w.heap.size w w' := by
  obtain ⟨i0, hi, hz, hsz, hby⟩ := info_parts Tryz.infoByte
  have hbe : Below w.heap.size w (w.alloc (.cells #[] 5)) := (Below.refl _ _).alloc (Nat.le_refl _) _
  go_enter Tryz.func77, Tryz.ntmps77
  go_wp2_with (at_builtin; refine wpList_append_rd rfl (.tmp 3) (.tmp 4) _ rfl i0 Tryz.underlying27 hi hz hsz hby rfl (own_empty w (Nat.le_refl _)) rfl (hr.below hbe) (by simp; omega) hbe.size ?_; intro v1 w1 ho1 hg1 _; have hb1 : Below w.heap.size w w1 := Own.below_grown hbe (own_empty w (Nat.le_refl _)) (Nat.le_refl _) hbe.size hg1; clear hg1; simp only [List.nil_append] at ho1; obtain ⟨A1, c1, rfl⟩ := ho1.form)
  go_ret
  refine ⟨_, rfl, ⟨_, heap_alloc_new _ _, hb1.size, (ho1.rd).alloc (Nat.le_refl _) _, fun k hk => (ho1.lt k hk).1⟩, hb1.alloc hb1.size _⟩
end Go.Proofs.YtpcoonnfaoakhaaGreatDoor
namespace Go.Proofs.YtpcoonnfaoakhaaGreatDoor
set_option maxRecDepth 100000
open Go.RowKit

set_option maxHeartbeats 400000 in
theorem refN_any (v : Value) (l : List UInt8) (n : Nat) (w : World) (hr : Rd w w.heap.size v l) (hn : n < 18446744073709551616) (hl : l.length ≤ 140737488355320) :
    Calls Tryz.prog 74 #[v, .int .u64 (n : Int)] w fun e w' => ∃ v', e = .returned v' ∧ Own w' w.heap.size v' (l ++ be n 8) ∧ Below w.heap.size w w' := by
  obtain ⟨i0, hi, hz, hsz, hby⟩ := info_parts Tryz.infoByte
  go_enter Tryz.func74, Tryz.ntmps74
  have hbe : Below w.heap.size w (w.alloc (.cells #[] 5)) := (Below.refl _ _).alloc (Nat.le_refl _) _
  go_wp2_with (at_builtin; refine wpList_append_rd rfl (.tmp 7) (.tmp 8) _ rfl i0 Tryz.underlying27 hi hz hsz hby rfl (own_empty w (Nat.le_refl _)) rfl (hr.below hbe) (by simp; omega) hbe.size ?_; intro v1 w1 ho1 hg1 _)
  have hb1 : Below w.heap.size w w1 := Own.below_grown hbe (own_empty w (Nat.le_refl _)) (Nat.le_refl _) hbe.size hg1
  clear hg1 hbe
  go_loopw [5, 6] (fun b i wr => ∃ (r : Nat) (dn : List UInt8), dn.length + r = 8 ∧ i = .int .i64 ((r : Int) - 1) ∧ dn ++ be n r = be n 8 ∧ Own wr w.heap.size b (l ++ dn) ∧ Below w.heap.size w wr)
    (fun _ i _ => (intOf i + 1).toNat)
  case atStart => exact ⟨8, [], rfl, rfl, rfl, by simpa using ho1, hb1⟩
  case round =>
    obtain ⟨r, dn, hdn, rfl, hbe, ho, hbw⟩ := hrel
    have HD := Lib.hid hdn
    have HB := Lib.hid hbe
    have hr8 : r ≤ 8 := by omega
    clear hdn hbe
    by_cases h0 : r = 0
    · subst h0
      go_wp2
      go_ret
      refine ⟨_, rfl, ?_, hbw⟩
      have := HB.out
      rw [show be n 0 = [] from rfl, List.append_nil] at this
      rw [← this]
      exact ho
    · obtain ⟨q, rfl⟩ : ∃ q, r = q + 1 := ⟨r - 1, by omega⟩
      have hdl : dn.length ≤ 7 := by have := HD.out; omega
      go_wp2_with (at_builtin; refine wpList_append_rd rfl (.tmp 14) (.tmp 21) _ rfl i0 Tryz.underlying27 hi hz hsz hby rfl (ho.alloc _) rfl (rd_lit wr _ [UInt8.ofNat (n / 2 ^ (8 * q))] 1 rfl (by simp [bcells, bval]) (by simp [maxLen])) (by simp; omega) (by have := hbw.size; simp; omega) ?_; intro v1 w1 ho1 hg1 _)
      have hb1 : Below w.heap.size w w1 := Own.below_grown (hbw.alloc (by have := hbw.size; omega) _) (ho.alloc _) (Nat.le_refl _) (by have := hbw.size; simp; omega) hg1
      clear hg1 ho hbw
      go_roundw
      case rel => exact ⟨q, dn ++ [UInt8.ofNat (n / 2 ^ (8 * q))], by have := HD.out; simp; omega, by go_num, by have := HB.out; rw [← this, List.append_assoc]; rfl, by rw [← List.append_assoc]; exact ho1, hb1⟩
      case measure => first | (simp [intOf]; done) | (simp [intOf]; omega)


end Go.Proofs.YtpcoonnfaoakhaaGreatDoor
namespace Go.Proofs.YtpcoonnfaoakhaaGreatDoor
set_option maxRecDepth 100000
open Go.RowKit

theorem be4 (n : Nat) (h : n ≤ 65535) : be n 4 = [0, 0, UInt8.ofNat (n / 256), UInt8.ofNat (n % 256)] := by
  have e : be n 4 = [UInt8.ofNat (n / 2 ^ (8 * 3)), UInt8.ofNat (n / 2 ^ (8 * 2)), UInt8.ofNat (n / 2 ^ (8 * 1)), UInt8.ofNat (n / 2 ^ (8 * 0))] := rfl
  rw [e, show n / 2 ^ (8 * 3) = 0 by omega, show n / 2 ^ (8 * 2) = 0 by omega, show n / 2 ^ (8 * 1) = n / 256 by omega, show n / 2 ^ (8 * 0) = n by omega]
  rw [show UInt8.ofNat (n % 256) = UInt8.ofNat n from by apply UInt8.toNat_inj.1; simp]
  rfl

set_option maxHeartbeats 1000000 in
theorem refB_any (v x : Value) (l m : List UInt8) (w : World) (hr : Rd w w.heap.size v l) (hx : Rd w w.heap.size x m) (hl : l.length ≤ 140737488355328 - 65539) :
    Calls Tryz.prog 157 #[v, x] w fun e w' => ∃ v', e = .returned v' ∧ Own w' w.heap.size v' (l ++ be (m.take 65535).length 4 ++ m.take 65535) ∧ Below w.heap.size w w' := by
  obtain ⟨i0, hi, hz, hsz, hby⟩ := info_parts Tryz.infoByte
  have hml := hx.len
  unfold maxLen at hml
  obtain ⟨Al, cl, rfl⟩ := hr.form
  by_cases h0 : m.length ≤ 65535
  · have ht : m.take 65535 = m := List.take_of_length_le h0
    rw [ht, be4 m.length h0]
    have hx0 := hx
    obtain ⟨A, c, rfl, hc, hcm, hp⟩ := hx
    unfold maxLen at hcm
    have hmin : min (m.length : Int) 65535 = (m.length : Int) := by omega
    have hmin2 : min m.length 65535 = m.length := by omega
    have hmc : (m.length : Int) ≤ (c : Int) := by omega
    have q1 : (0 : Int) ≤ (m.length : Int) := by omega
    have q2 : (m.length : Int) ≤ 65535 := by omega
    clear ht hp
    have hbe : Below w.heap.size w (w.alloc (.cells #[] 5)) := (Below.refl _ _).alloc (Nat.le_refl _) _
    go_enter Tryz.func157, Tryz.ntmps157
    go_wp2_with (at_builtin; first
      | (refine wpList_append_rd rfl (.tmp 7) (.tmp 8) _ rfl i0 Tryz.underlying27 hi hz hsz hby rfl (own_empty w (Nat.le_refl _)) rfl (hr.below hbe) (by simp; omega) hbe.size ?_; intro v1 w1 ho1 hg1 _
         have hb1 : Below w.heap.size w w1 := Own.below_grown hbe (own_empty w (Nat.le_refl _)) (Nat.le_refl _) hbe.size hg1
         clear hg1 hbe)
      | (refine wpList_append_rd rfl (.tmp 13) (.tmp 14) _ rfl i0 Tryz.underlying27 hi hz hsz hby rfl (ho1.alloc _) rfl (rd_lit w1 _ [0] 1 rfl (by simp [bcells, bval] <;> omega) (by simp [maxLen])) (by simp; omega) (by have := hb1.size; simp; omega) ?_; intro v2 w2 ho2 hg2 _
         have hb2 : Below w.heap.size w w2 := Own.below_grown (hb1.alloc hb1.size _) (ho1.alloc _) (Nat.le_refl _) (by have := hb1.size; simp; omega) hg2
         clear hg2 ho1 hb1)
      | (refine wpList_append_rd rfl (.tmp 16) (.tmp 17) _ rfl i0 Tryz.underlying27 hi hz hsz hby rfl (ho2.alloc _) rfl (rd_lit w2 _ [0] 1 rfl (by simp [bcells, bval] <;> omega) (by simp [maxLen])) (by simp; omega) (by have := hb2.size; simp; omega) ?_; intro v3 w3 ho3 hg3 _
         have hb3 : Below w.heap.size w w3 := Own.below_grown (hb2.alloc hb2.size _) (ho2.alloc _) (Nat.le_refl _) (by have := hb2.size; simp; omega) hg3
         clear hg3 ho2 hb2)
      | (refine wpList_append_rd rfl (.tmp 19) (.tmp 23) _ rfl i0 Tryz.underlying27 hi hz hsz hby rfl (ho3.alloc _) rfl (rd_lit w3 _ [UInt8.ofNat (m.length / 256)] 1 rfl (by simp [bcells, bval] <;> omega) (by simp [maxLen])) (by simp; omega) (by have := hb3.size; simp; omega) ?_; intro v4 w4 ho4 hg4 _
         have hb4 : Below w.heap.size w w4 := Own.below_grown (hb3.alloc hb3.size _) (ho3.alloc _) (Nat.le_refl _) (by have := hb3.size; simp; omega) hg4
         clear hg4 ho3 hb3)
      | (refine wpList_append_rd rfl (.tmp 25) (.tmp 29) _ rfl i0 Tryz.underlying27 hi hz hsz hby rfl (ho4.alloc _) rfl (rd_lit w4 _ [UInt8.ofNat (m.length % 256)] 1 rfl (by simp [bcells, bval] <;> omega) (by simp [maxLen])) (by simp; omega) (by have := hb4.size; simp; omega) ?_; intro v5 w5 ho5 hg5 _
         have hb5 : Below w.heap.size w w5 := Own.below_grown (hb4.alloc hb4.size _) (ho4.alloc _) (Nat.le_refl _) (by have := hb4.size; simp; omega) hg5
         clear hg5 ho4 hb4)
      | (refine wpList_append_rd rfl (.tmp 31) (.tmp 34) _ rfl i0 Tryz.underlying27 hi hz hsz hby rfl ho5 rfl (hx0.below hb5) (by  simp; omega) hb5.size ?_; intro v6 w6 ho6 hg6 _
         have hb6 : Below w.heap.size w w6 := Own.below_grown hb5 ho5 (Nat.le_refl _) hb5.size hg6
         clear hg6 ho5 hb5))
    go_ret
    exact ⟨_, rfl, by simpa using ho6, hb6⟩
  · have hx0 := hx
    obtain ⟨A, c, rfl, hc, hcm, hp⟩ := hx
    have htl : (m.take 65535).length = 65535 := by simp; omega
    have hx1 : Rd w w.heap.size (.slice A 65535 c) (m.take 65535) := by
      obtain ⟨b, o, rfl, hb, hcell⟩ := hp (by omega)
      refine ⟨_, c, by rw [htl], by omega, hcm, fun _ => ⟨b, o, rfl, hb, fun j hj => ?_⟩⟩
      rw [hcell j (by omega)]
      simp
    have h1 : ¬ (m.length : Int) ≤ 65535 := by omega
    have h2 : (65535 : Int) ≤ (m.length : Int) := by omega
    have h3 : (65535 : Int) ≤ (c : Int) := by omega
    unfold maxLen at hcm
    rw [htl, show be 65535 4 = [0, 0, 255, 255] from rfl]
    have hmin : min (m.length : Int) 65535 = 65535 := by omega
    have hmin2 : min m.length 65535 = 65535 := by omega
    generalize m.take 65535 = t at *
    have HT := Lib.hid htl
    clear htl hp hx0
    have hbe : Below w.heap.size w (w.alloc (.cells #[] 5)) := (Below.refl _ _).alloc (Nat.le_refl _) _
    go_enter Tryz.func157, Tryz.ntmps157
    go_wp2_with (at_builtin; first
      | (refine wpList_append_rd rfl (.tmp 7) (.tmp 8) _ rfl i0 Tryz.underlying27 hi hz hsz hby rfl (own_empty w (Nat.le_refl _)) rfl (hr.below hbe) (by simp; omega) hbe.size ?_; intro v1 w1 ho1 hg1 _
         have hb1 : Below w.heap.size w w1 := Own.below_grown hbe (own_empty w (Nat.le_refl _)) (Nat.le_refl _) hbe.size hg1
         clear hg1 hbe)
      | (refine wpList_append_rd rfl (.tmp 13) (.tmp 14) _ rfl i0 Tryz.underlying27 hi hz hsz hby rfl (ho1.alloc _) rfl (rd_lit w1 _ [0] 1 rfl (by simp [bcells, bval] <;> omega) (by simp [maxLen])) (by simp; omega) (by have := hb1.size; simp; omega) ?_; intro v2 w2 ho2 hg2 _
         have hb2 : Below w.heap.size w w2 := Own.below_grown (hb1.alloc hb1.size _) (ho1.alloc _) (Nat.le_refl _) (by have := hb1.size; simp; omega) hg2
         clear hg2 ho1 hb1)
      | (refine wpList_append_rd rfl (.tmp 16) (.tmp 17) _ rfl i0 Tryz.underlying27 hi hz hsz hby rfl (ho2.alloc _) rfl (rd_lit w2 _ [0] 1 rfl (by simp [bcells, bval] <;> omega) (by simp [maxLen])) (by simp; omega) (by have := hb2.size; simp; omega) ?_; intro v3 w3 ho3 hg3 _
         have hb3 : Below w.heap.size w w3 := Own.below_grown (hb2.alloc hb2.size _) (ho2.alloc _) (Nat.le_refl _) (by have := hb2.size; simp; omega) hg3
         clear hg3 ho2 hb2)
      | (refine wpList_append_rd rfl (.tmp 19) (.tmp 23) _ rfl i0 Tryz.underlying27 hi hz hsz hby rfl (ho3.alloc _) rfl (rd_lit w3 _ [255] 1 rfl (by simp [bcells, bval] <;> omega) (by simp [maxLen])) (by simp; omega) (by have := hb3.size; simp; omega) ?_; intro v4 w4 ho4 hg4 _
         have hb4 : Below w.heap.size w w4 := Own.below_grown (hb3.alloc hb3.size _) (ho3.alloc _) (Nat.le_refl _) (by have := hb3.size; simp; omega) hg4
         clear hg4 ho3 hb3)
      | (refine wpList_append_rd rfl (.tmp 25) (.tmp 29) _ rfl i0 Tryz.underlying27 hi hz hsz hby rfl (ho4.alloc _) rfl (rd_lit w4 _ [255] 1 rfl (by simp [bcells, bval] <;> omega) (by simp [maxLen])) (by simp; omega) (by have := hb4.size; simp; omega) ?_; intro v5 w5 ho5 hg5 _
         have hb5 : Below w.heap.size w w5 := Own.below_grown (hb4.alloc hb4.size _) (ho4.alloc _) (Nat.le_refl _) (by have := hb4.size; simp; omega) hg5
         clear hg5 ho4 hb4)
      | (refine wpList_append_rd rfl (.tmp 31) (.tmp 34) _ rfl i0 Tryz.underlying27 hi hz hsz hby rfl ho5 rfl (hx1.below hb5) (by have := HT.out; simp; omega) hb5.size ?_; intro v6 w6 ho6 hg6 _
         have hb6 : Below w.heap.size w w6 := Own.below_grown hb5 ho5 (Nat.le_refl _) hb5.size hg6
         clear hg6 ho5 hb5))
    go_ret
    exact ⟨_, rfl, by simpa using ho6, hb6⟩
end Go.Proofs.YtpcoonnfaoakhaaGreatDoor
namespace Go.Proofs.YtpcoonnfaoakhaaGreatDoor
set_option maxRecDepth 100000
open Go.RowKit

set_option maxHeartbeats 400000 in
theorem refT_any (v : Value) (s : ByteArray) (l : List UInt8) (w : World) (hr : Rd w w.heap.size v l) (hsm : s.size ≤ maxLen) (hl : l.length ≤ 140737488355328 - 65539) :
    Calls Tryz.prog 97 #[v, .string s] w fun e w' => ∃ v', e = .returned v' ∧ Own w' w.heap.size v' (l ++ be ((strBytes s).take 65535).length 4 ++ (strBytes s).take 65535) ∧ Below w.heap.size w w' := by
  have hcv := run_bytes_of_string (P := Tryz.prog) w 9 27 5 s Tryz.underlying9 Tryz.underlying27 Tryz.underlying5
  have hge := grownCap_ge w s.size 0 5
  have hlm := grownCap_le_maxLen w s.size 0 5 hsm
  generalize grownCap w s.size 0 5 = cap at *
  have hb0 : Below w.heap.size w (w.drew.alloc (.cells (bytesRow s cap) 5 ((bytesRow s cap).size, (bytesRow s cap).size + 1))) := ((Below.refl _ _).drew).alloc (Nat.le_refl _) _
  have hx : Rd (w.drew.alloc (.cells (bytesRow s cap) 5 ((bytesRow s cap).size, (bytesRow s cap).size + 1))) (w.drew.alloc (.cells (bytesRow s cap) 5 ((bytesRow s cap).size, (bytesRow s cap).size + 1))).heap.size (.slice (some ⟨w.heap.size, 0, none⟩) s.size cap) (strBytes s) := by
    refine ⟨_, cap, by rw [strBytes_length], by rw [strBytes_length]; exact hge, hlm, fun _ => ⟨w.heap.size, 0, rfl, by simp, fun j hj => ?_⟩⟩
    rw [strBytes_length] at hj
    rw [show 0 + j = j by omega]
    have h1 := cell_of_row (w.drew.alloc (.cells (bytesRow s cap) 5 ((bytesRow s cap).size, (bytesRow s cap).size + 1))) w.heap.size j (bytesRow s cap) _ _ (heap_alloc_new w.drew _)
    rw [h1, bytesRow_at s cap j hj]
    rfl
  generalize hw2 : w.drew.alloc (.cells (bytesRow s cap) 5 ((bytesRow s cap).size, (bytesRow s cap).size + 1)) = w2 at *
  have HX := Lib.hid hx
  clear hx hw2 hge hlm
  go_enter Tryz.func97, Tryz.ntmps97
  go_wp2_with fail
  refine (refB_any v _ l (strBytes s) w2 (hr.up (Nat.le_refl _) hb0) HX.out hl).mono ?_
  rintro e w3 ⟨v3, rfl, ho3, hb3⟩
  go_wp2_with fail
  go_ret
  exact ⟨_, rfl, ho3.more hb0.size, below_chain hb0 hb0.size hb3⟩
end Go.Proofs.YtpcoonnfaoakhaaGreatDoor
namespace Go.Proofs.YtpcoonnfaoakhaaGreatDoor
set_option maxRecDepth 100000

theorem be_lt (n k : Nat) : beVal (be n k) = n % 256 ^ k := by
  induction k with
  | zero => simp [be, beVal, Nat.mod_one]
  | succ k ih =>
    have h1 : ∀ (l : List UInt8) (a : Nat), l.foldl (fun n x => n * 256 + x.toNat) a = a * 256 ^ l.length + beVal l := by
      intro l
      induction l with
      | nil => intro a; simp [beVal]
      | cons x l ih2 =>
        intro a
        simp only [List.foldl_cons, List.length_cons, beVal]
        rw [ih2, ih2 (0 * 256 + x.toNat), Nat.pow_succ]
        simp only [Nat.zero_mul, Nat.zero_add, Nat.add_mul, Nat.mul_assoc, Nat.add_assoc, Nat.mul_comm 256]
    have h2 : beVal (be n (k + 1)) = (UInt8.ofNat (n / 2 ^ (8 * k))).toNat * 256 ^ k + beVal (be n k) := by
      simp only [be]
      rw [show beVal (UInt8.ofNat (n / 2 ^ (8 * k)) :: be n k) = (be n k).foldl (fun n x => n * 256 + x.toNat) (UInt8.ofNat (n / 2 ^ (8 * k))).toNat by simp [beVal], h1, be_length]
    rw [h2, ih]
    have h3 : (2 : Nat) ^ (8 * k) = 256 ^ k := by rw [Nat.pow_mul]
    rw [h3, UInt8.toNat_ofNat']
    have h4 : n % 256 ^ (k + 1) = 256 ^ k * (n / 256 ^ k % 256) + n % 256 ^ k := by
      rw [Nat.pow_succ, Nat.mod_mul]
      omega
    rw [h4, Nat.mul_comm]
end Go.Proofs.YtpcoonnfaoakhaaGreatDoor
namespace Go.Proofs.YtpcoonnfaoakhaaGreatDoor
set_option maxRecDepth 100000

/-- the form of what is put -/
def encB (m : List UInt8) : List UInt8 := be (m.take 65535).length 4 ++ m.take 65535
theorem rN_enc (n : Nat) (rest : List UInt8) (h : n < 18446744073709551616) : rN (be n 8 ++ rest) 0 = (n, rest, 0) := by
  have h1 : (be n 8 ++ rest).take 8 = be n 8 := by rw [List.take_append_of_le_length (by simp [be_length]), List.take_of_length_le (by simp [be_length])]
  have h2 : (be n 8 ++ rest).drop 8 = rest := by rw [List.drop_append_of_le_length (by simp [be_length]), List.drop_of_length_le (by simp [be_length]), List.nil_append]
  unfold rN
  rw [if_neg (by simp), if_neg (by simp [be_length]), h1, h2, be_lt, Nat.mod_eq_of_lt (by omega)]
theorem rB_enc (m : List UInt8) (rest : List UInt8) : rB (encB m ++ rest) 0 = (m.take 65535, rest, 0) := by
  have hl : (m.take 65535).length ≤ 65535 := by simp; omega
  unfold encB
  generalize m.take 65535 = t at *
  have h1 : (be t.length 4 ++ t ++ rest).take 4 = be t.length 4 := by
    rw [List.append_assoc, List.take_append_of_le_length (by simp [be_length]), List.take_of_length_le (by simp [be_length])]
  have h2 : (be t.length 4 ++ t ++ rest).drop 4 = t ++ rest := by
    rw [List.append_assoc, List.drop_append_of_le_length (by simp [be_length]), List.drop_of_length_le (by simp [be_length]), List.nil_append]
  have h3 : beVal (be t.length 4) = t.length := by rw [be_lt, Nat.mod_eq_of_lt (by omega)]
  unfold rB
  rw [if_neg (by simp), if_neg (by simp [be_length]), h1, h3, if_neg (by omega), if_neg (by simp [be_length]), h2]
  rw [← List.drop_drop, h2]
  simp
end Go.Proofs.YtpcoonnfaoakhaaGreatDoor
namespace Go.Proofs.YtpcoonnfaoakhaaGreatDoor
set_option maxRecDepth 100000
open Go Go.RowKit
set_option linter.unusedVariables false

theorem be_mod (n k : Nat) : ∀ j, j ≤ k → be (n % 256 ^ k) j = be n j := by
  intro j
  induction j with
  | zero => intro _; rfl
  | succ j ih =>
    intro h
    simp only [be]
    rw [ih (by omega)]
    congr 1
    have e : 256 ^ k = 2 ^ (8 * j) * (256 * 256 ^ (k - j - 1)) := by
      rw [Nat.pow_mul, ← Nat.mul_assoc]
      show 256 ^ k = 256 ^ j * 256 * 256 ^ (k - j - 1)
      rw [← Nat.pow_succ, ← Nat.pow_add]
      congr 1
      omega
    rw [e, Nat.mod_mul_right_div_self]
    apply UInt8.toNat_inj.1
    rw [UInt8.toNat_ofNat', UInt8.toNat_ofNat']
    show n / 2 ^ (8 * j) % (256 * _) % 256 = n / 2 ^ (8 * j) % 256
    rw [Nat.mod_mul_right_mod]
theorem be_beVal (t : List UInt8) : be (beVal t) t.length = t := by
  have h1 := be_valB t
  have h2 : beVal t = valB t % 256 ^ t.length := by
    conv => lhs; rw [← h1]
    rw [be_lt]
  rw [h2, be_mod _ _ _ (Nat.le_refl _), h1]
theorem rEnd_zero {l : List UInt8} {f : Int} (h : rEnd l f = 0) : f = 0 ∧ l = [] := by
  unfold rEnd at h
  split at h
  · next h1 => exact absurd h h1
  · next h1 =>
    split at h
    · cases h
    · exact ⟨by simpa using h1, List.eq_nil_of_length_eq_zero (by omega)⟩
theorem rN_ok {l : List UInt8} {f : Int} (h : (rN l f).2.2 = 0) : f = 0 ∧ l = be (rN l f).1 8 ++ (rN l f).2.1 := by
  unfold rN at h ⊢
  split at h
  · next h1 => exact absurd h h1
  · next h1 =>
    split at h
    · cases h
    · next h2 =>
      rw [if_neg h1, if_neg h2]
      refine ⟨by simpa using h1, ?_⟩
      have e := be_beVal (l.take 8)
      rw [List.length_take, Nat.min_eq_left (by omega)] at e
      rw [e, List.take_append_drop]
theorem rB_ok {l : List UInt8} {f : Int} (h : (rB l f).2.2 = 0) : f = 0 ∧ l = encB (rB l f).1 ++ (rB l f).2.1 := by
  have hle := rB_le l f
  unfold encB
  rw [List.take_of_length_le hle]
  unfold rB at h hle ⊢
  split at h
  · next h1 => exact absurd h h1
  · next h1 =>
    split at h
    · cases h
    · next h2 =>
      split at h
      · cases h
      · next h3 =>
        split at h
        · cases h
        · next h4 =>
          rw [if_neg h1, if_neg h2, if_neg h3, if_neg h4]
          refine ⟨by simpa using h1, ?_⟩
          have e := be_beVal (l.take 4)
          rw [List.length_take, Nat.min_eq_left (by omega)] at e
          have e2 : ((l.drop 4).take (beVal (l.take 4))).length = beVal (l.take 4) := by rw [List.length_take, List.length_drop]; omega
          rw [e2, e, List.append_assoc, ← List.drop_drop, List.take_append_drop, List.take_append_drop]
end Go.Proofs.YtpcoonnfaoakhaaGreatDoor
namespace Go.Proofs.YtpcoonnfaoakhaaGreatDoor
set_option maxRecDepth 100000
open Go Go.RowKit
set_option linter.unusedVariables false

theorem set3P {w : World} {g : Nat} {x0 x1 x2 : Value} {t : TypeId} (h : w.heap[g]? = some (.cells #[x0, x1, x2] t (0, 0))) (y0 y1 y2 : Value) : (((w.setCell ⟨g, 0, none⟩ y0).setCell ⟨g, 1, none⟩ y1).setCell ⟨g, 2, none⟩ y2).heap[g]? = some (.cells #[y0, y1, y2] t (0, 0)) := by
  simpa using (blk_set (blk_set (blk_set h 0 y0) 1 y1) 2 y2)
theorem below_set3P {B : Nat} {w w' : World} {g : Nat} (h : Below B w w') (hg : B ≤ g) (y0 y1 y2 : Value) : Below B w (((w'.setCell ⟨g, 0, none⟩ y0).setCell ⟨g, 1, none⟩ y1).setCell ⟨g, 2, none⟩ y2) := (((h.setCell hg y0).setCell hg y1).setCell hg y2)
theorem set4P {w : World} {g : Nat} {x0 x1 x2 x3 : Value} {t : TypeId} (h : w.heap[g]? = some (.cells #[x0, x1, x2, x3] t (0, 0))) (y0 y1 y2 y3 : Value) : ((((w.setCell ⟨g, 0, none⟩ y0).setCell ⟨g, 1, none⟩ y1).setCell ⟨g, 2, none⟩ y2).setCell ⟨g, 3, none⟩ y3).heap[g]? = some (.cells #[y0, y1, y2, y3] t (0, 0)) := by
  simpa using (blk_set (blk_set (blk_set (blk_set h 0 y0) 1 y1) 2 y2) 3 y3)
theorem below_set4P {B : Nat} {w w' : World} {g : Nat} (h : Below B w w') (hg : B ≤ g) (y0 y1 y2 y3 : Value) : Below B w ((((w'.setCell ⟨g, 0, none⟩ y0).setCell ⟨g, 1, none⟩ y1).setCell ⟨g, 2, none⟩ y2).setCell ⟨g, 3, none⟩ y3) := ((((h.setCell hg y0).setCell hg y1).setCell hg y2).setCell hg y3)
theorem set7P {w : World} {g : Nat} {x0 x1 x2 x3 x4 x5 x6 : Value} {t : TypeId} (h : w.heap[g]? = some (.cells #[x0, x1, x2, x3, x4, x5, x6] t (0, 0))) (y0 y1 y2 y3 y4 y5 y6 : Value) : (((((((w.setCell ⟨g, 0, none⟩ y0).setCell ⟨g, 1, none⟩ y1).setCell ⟨g, 2, none⟩ y2).setCell ⟨g, 3, none⟩ y3).setCell ⟨g, 4, none⟩ y4).setCell ⟨g, 5, none⟩ y5).setCell ⟨g, 6, none⟩ y6).heap[g]? = some (.cells #[y0, y1, y2, y3, y4, y5, y6] t (0, 0)) := by
  simpa using (blk_set (blk_set (blk_set (blk_set (blk_set (blk_set (blk_set h 0 y0) 1 y1) 2 y2) 3 y3) 4 y4) 5 y5) 6 y6)
theorem below_set7P {B : Nat} {w w' : World} {g : Nat} (h : Below B w w') (hg : B ≤ g) (y0 y1 y2 y3 y4 y5 y6 : Value) : Below B w (((((((w'.setCell ⟨g, 0, none⟩ y0).setCell ⟨g, 1, none⟩ y1).setCell ⟨g, 2, none⟩ y2).setCell ⟨g, 3, none⟩ y3).setCell ⟨g, 4, none⟩ y4).setCell ⟨g, 5, none⟩ y5).setCell ⟨g, 6, none⟩ y6) := (((((((h.setCell hg y0).setCell hg y1).setCell hg y2).setCell hg y3).setCell hg y4).setCell hg y5).setCell hg y6)
/-- made at w0: the result's block gr, the struct's block gd, the reader g -/
structure PZ (T : Nat) (w0 : World) (gr gd lo g : Nat) (tr td : TypeId) (cr cd : Array Value) (rest : List UInt8) (fault : Int) (W : World) : Prop where
  below : Below w0.heap.size w0 W
  hr : w0.heap.size ≤ gr
  hd : w0.heap.size ≤ gd
  res : W.heap[gr]? = some (.cells cr tr (0, 0))
  loc : W.heap[gd]? = some (.cells cd td (0, 0))
  rd : RdT T W lo g rest fault
  o1 : gr < lo
  o2 : g < gd
section
variable {T : Nat} {w0 W W' : World} {gr gd lo g : Nat} {tr td : TypeId} {cr cd : Array Value} {rest rest' : List UInt8} {fault fault' : Int}
theorem PZ.lo' (h : PZ T w0 gr gd lo g tr td cr cd rest fault W) : gr < g := Nat.lt_of_lt_of_le h.o1 h.rd.from_
theorem PZ.up (h : PZ T w0 gr gd lo g tr td cr cd rest fault W) (hb : Below W.heap.size W W') : PZ T w0 gr gd lo g tr td cr cd rest fault W' where
  below := below_chain h.below h.below.size hb
  hr := h.hr
  hd := h.hd
  res := (hb.block _ (blk_lt h.res)).trans h.res
  loc := (hb.block _ (blk_lt h.loc)).trans h.loc
  rd := h.rd.below hb
  o1 := h.o1
  o2 := h.o2
theorem PZ.call (h : PZ T w0 gr gd lo g tr td cr cd rest fault W) (hg : W.grownBy W' (some g)) (hr : RdT T W' lo g rest' fault') : PZ T w0 gr gd lo g tr td cr cd rest' fault' W' where
  below := h.below.grown hg h.below.size (fun k hk => by injection hk with hk; have := h.lo'; have := h.hr; omega)
  hr := h.hr
  hd := h.hd
  res := (hg.block _ (blk_lt h.res) (fun e => by injection e with e; have := h.lo'; omega)).trans h.res
  loc := (hg.block _ (blk_lt h.loc) (fun e => by injection e with e; have := h.o2; omega)).trans h.loc
  rd := hr
  o1 := h.o1
  o2 := h.o2
theorem PZ.set (h : PZ T w0 gr gd lo g tr td cr cd rest fault W) (i : Nat) (u : Value) : PZ T w0 gr gd lo g tr td cr (cd.setIfInBounds i u) rest fault (W.setCell ⟨gd, i, none⟩ u) where
  below := h.below.setCell h.hd u
  hr := h.hr
  hd := h.hd
  res := (Below.heap_setCell W ⟨gd, i, none⟩ u gr (by have := h.lo'; have := h.o2; show gr ≠ gd; omega)).trans h.res
  loc := blk_set h.loc i u
  rd := h.rd.grown (grown_setR W gd i u) (Or.inr h.o2)
  o1 := h.o1
  o2 := h.o2
theorem PZ.other (h : PZ T w0 gr gd lo g tr td cr cd rest fault W) {gu : Nat} (hu : gd < gu) (i : Nat) (u : Value) : PZ T w0 gr gd lo g tr td cr cd rest fault (W.setCell ⟨gu, i, none⟩ u) where
  below := h.below.setCell (by have := h.hd; show w0.heap.size ≤ gu; omega) u
  hr := h.hr
  hd := h.hd
  res := (Below.heap_setCell W ⟨gu, i, none⟩ u gr (by have := h.lo'; have := h.o2; show gr ≠ gu; omega)).trans h.res
  loc := (Below.heap_setCell W ⟨gu, i, none⟩ u gd (by show gd ≠ gu; omega)).trans h.loc
  rd := h.rd.grown (grown_setR W gu i u) (Or.inr (by have := h.o2; omega))
  o1 := h.o1
  o2 := h.o2
theorem PZ.drew (h : PZ T w0 gr gd lo g tr td cr cd rest fault W) : PZ T w0 gr gd lo g tr td cr cd rest fault W.drew := h.up (Below.drew (Below.refl _ _))
theorem PZ.alloc (h : PZ T w0 gr gd lo g tr td cr cd rest fault W) (o : Obj) : PZ T w0 gr gd lo g tr td cr cd rest fault (W.alloc o) := h.up ((Below.refl _ _).alloc (Nat.le_refl _) o)
/-- the result's block, all cells stored -/
theorem PZ.out (h : PZ T w0 gr gd lo g tr td cr cd rest fault W) : Below w0.heap.size w0 W := h.below
end
end Go.Proofs.YtpcoonnfaoakhaaGreatDoor
namespace Go.Proofs.YtpcoonnfaoakhaaGreatDoor
set_option maxRecDepth 100000
open Go Go.RowKit
set_option linter.unusedVariables false

/-- a field, read out of a struct, is equal to itself -/
def SelfF (xs : Array Value) (f : Field) : Prop := ∃ a, (∀ w, (part f.type xs f.offset).run Tryz.prog w = .ok a w) ∧ ∀ w, (Op.equalIn 9999 f.type a a).run Tryz.prog w = .ok true w
end Go.Proofs.YtpcoonnfaoakhaaGreatDoor
namespace Go.Proofs.YtpcoonnfaoakhaaGreatDoor
set_option maxRecDepth 100000
open Go Go.RowKit
set_option linter.unusedVariables false

/-- a number in a key: sixteen digits -/
def hexN (n : Nat) : ByteArray := ⟨(hexOf (be n 8)).toArray⟩
theorem hexOf_len (l : List UInt8) : (hexOf l).length = 2 * l.length := by
  induction l with
  | nil => rfl
  | cons x l ih =>
    unfold hexOf at *
    simp [hex2, ih]
    omega
theorem hexN_size (n : Nat) : (hexN n).size = 16 := by
  show (hexOf (be n 8)).length = 16
  rw [hexOf_len, be_length]
theorem chex_any (n : Nat) (w : World) (hn : n < 18446744073709551616) : Calls Tryz.prog 21 #[.int .u64 (n : Int)] w fun e w' => e = .returned (.string (hexN n)) ∧ Below w.heap.size w w' := by
  have HN := Lib.hid (N_any (.slice none 0 0) [] n w (Rd.nil _ _) hn (by simp))
  have HH : Hid (∀ (v : Value) (W : World) (B : Nat), Own W B v (be n 8) → Calls Tryz.prog 71 #[v] W fun e w' => e = .returned (.string (hexN n)) ∧ Below W.heap.size W w') := Lib.hid fun v W B h => hex_any v _ W h.rd (by simp [be_length])
  rw [List.nil_append] at HN
  generalize be n 8 = L at *
  generalize hexN n = S at *
  go_enter Tryz.func21, Tryz.ntmps21
  go_wp2_with fail
  refine HN.out.mono ?_
  rintro e w1 ⟨v, rfl, ho, hb1⟩
  have H2 := Lib.hid (HH.out _ _ _ ho)
  obtain ⟨A, c, rfl⟩ := ho.form
  go_wp2_with fail
  refine H2.out.mono ?_
  rintro e w2 ⟨rfl, hb2⟩
  go_wp2_with fail
  go_ret
  exact ⟨rfl, below_chain hb1 hb1.size hb2⟩
def ibcS : ByteArray := ⟨#[105, 98, 99, 47]⟩
/-- where something of a packet is kept -/
def kPl (what a : ByteArray) (n : Nat) : ByteArray := ((((ibcS ++ what) ++ slB) ++ a) ++ slB) ++ hexN n
def wCommit : ByteArray := ⟨#[99, 111, 109, 109, 105, 116]⟩
def rCommitP : ByteArray := ⟨#[105, 98, 99, 47, 99, 111, 109, 109, 105, 116, 47]⟩
def wReceipt : ByteArray := ⟨#[114, 101, 99, 101, 105, 112, 116]⟩
def rReceiptP : ByteArray := ⟨#[105, 98, 99, 47, 114, 101, 99, 101, 105, 112, 116, 47]⟩
def wAckKey : ByteArray := ⟨#[97, 99, 107]⟩
def rAckKeyP : ByteArray := ⟨#[105, 98, 99, 47, 97, 99, 107, 47]⟩
def wSent : ByteArray := ⟨#[115, 101, 110, 116]⟩
def rSentP : ByteArray := ⟨#[105, 98, 99, 47, 115, 101, 110, 116, 47]⟩
def wTold : ByteArray := ⟨#[116, 111, 108, 100]⟩
def rToldP : ByteArray := ⟨#[105, 98, 99, 47, 116, 111, 108, 100, 47]⟩
end Go.Proofs.YtpcoonnfaoakhaaGreatDoor
namespace Go.Proofs.YtpcoonnfaoakhaaGreatDoor
set_option maxRecDepth 100000
open Go Go.RowKit
set_option linter.unusedVariables false

structure PktV where
  src : ByteArray
  dst : ByteArray
  seq : Nat
  data : List UInt8
  ht : Nat
  tm : Nat
def PktV.none : PktV := ⟨⟨#[]⟩, ⟨#[]⟩, 0, [], 0, 0⟩
def PktV.val (p : PktV) (vd : Value) : Value := .agg #[.string p.src, .string p.dst, .int .u64 (p.seq : Int), vd, .int .u64 (p.ht : Int), .int .u64 (p.tm : Int)]
def readP (l : List UInt8) : Option PktV :=
  match rB l 0 with
  | (sa, l1, f1) => match rB l1 f1 with
    | (sb, l2, f2) => match rN l2 f2 with
      | (sq, l3, f3) => match rB l3 f3 with
        | (dt, l4, f4) => match rN l4 f4 with
          | (ht, l5, f5) => match rN l5 f5 with
            | (tm, l6, f6) => if rEnd l6 f6 = 0 then some ⟨⟨sa.toArray⟩, ⟨sb.toArray⟩, sq, dt, ht, tm⟩ else Option.none
theorem rN_ltP (l : List UInt8) (f : Int) : (rN l f).1 < 18446744073709551616 := by
  unfold rN
  split
  · show 0 < _; omega
  · split
    · show 0 < _; omega
    · have := beVal_lt8 (l.take 8) 8 (by simp; omega)
      show beVal (l.take 8) < _
      omega
end Go.Proofs.YtpcoonnfaoakhaaGreatDoor
namespace Go.Proofs.YtpcoonnfaoakhaaGreatDoor
set_option maxRecDepth 100000
open Go Go.RowKit
set_option linter.unusedVariables false

def encS (s : ByteArray) : List UInt8 := encB (strBytes s)
theorem encB_lenP (m : List UInt8) : (encB m).length ≤ 65539 := by
  unfold encB
  simp [be_length]
  omega
theorem TS0 (v : Value) (s : ByteArray) (l : List UInt8) (Z : World) (hr : Rd Z Z.heap.size v l) (hs : s.size ≤ maxLen) (hl : l.length ≤ 140737488355328 - 65539) :
    Calls Tryz.prog 84 #[v, .string s] Z fun e w' => ∃ v', e = .returned v' ∧ Own w' Z.heap.size v' (l ++ encS s) ∧ Below Z.heap.size Z w' :=
  (T_any v s l Z hr hs hl).mono fun e w' ⟨v', h1, h2, h3⟩ => ⟨v', h1, by rw [List.append_assoc] at h2; exact h2, h3⟩
/-- a packet's bytes -/
def pktB (p : PktV) : List UInt8 := ((((encS p.src ++ encS p.dst) ++ be p.seq 8) ++ encB p.data) ++ be p.ht 8) ++ be p.tm 8
def chanP : ByteArray := ⟨#[105, 98, 99, 47, 99, 104, 97, 110, 47]⟩
end Go.Proofs.YtpcoonnfaoakhaaGreatDoor
