
/- The walks: the document's reader. The walks: the document's reader, its bytes, texts, flags, counts. The walks: the document's reader, its counts, what is left, its faults; a new one. The walks of the document's puts: a number. The walks of the document's put of bytes. The walk of the document's put of a text. -/
import Derived.Test.YtaafaaoioleokaaGreatDoorWireR0
import Derived.Test.YtaafaaoioleokaaGreatDoorInfo0
import Derived.Test.YtaafaaoioleokaaGreatDoorBase0
import Derived.Laws.IdiomStrings
namespace Go.Proofs.YtaafaaoioleokaaGreatDoor
set_option maxRecDepth 100000
open Go.RowKit

variable {w : World} {lo g : Nat} {rest : List UInt8} {fault : Int}

set_option maxHeartbeats 400000 in
theorem dnumber_any (v : Value) (l : List UInt8) (w : World) (h : Rd w w.heap.size v l) (hl : l.length ≤ 8) :
    Calls Tryz.prog 146 #[v] w fun e w' => e = .returned (.int .u64 (beVal l : Nat)) ∧ w = w' := by
  obtain ⟨A, c, rfl, hc, hcm, hp⟩ := h
  go_enter Tryz.func146, Tryz.ntmps146
  go_wp2
  go_loop [3, 4] (fun n i => ∃ k : Nat, k ≤ l.length ∧ i = .int .i64 (k : Int) ∧ n = .int .u64 (beVal (l.take k) : Nat)) (fun _ i => l.length - (intOf i).toNat)
  case atStart => exact ⟨0, Nat.zero_le _, rfl, by simp [beVal]⟩
  case round =>
    obtain ⟨k, hk, rfl, rfl⟩ := hrel
    by_cases hlt : k < l.length
    · obtain ⟨b, o, rfl, hb, hcell⟩ := hp (by omega)
      have c1 : w.cell? ⟨b, o + k, none⟩ = some (.int .u8 (l[k].toNat : Int)) := hcell k (by omega)
      have hlt2 : beVal (l.take k) < 256 ^ 7 := beVal_lt8 _ 7 (by simp; omega)
      have hx := l[k].toNat_lt
      have i1 : (0 : Int) ≤ (k : Int) := by omega
      have i2 : (k : Int) < (l.length : Int) := by omega
      have hsn : beVal (l.take (k + 1)) = beVal (l.take k) * 256 + l[k].toNat := by rw [List.take_succ_eq_append_getElem (by omega), beVal_snoc]
      have HS := Lib.hid hsn
      clear hsn hcell hp
      go_wp2
      refine ⟨⟨k + 1, by omega, by go_num, ?_⟩, by simp [intOf]; omega⟩
      rw [HS.out]
      congr 1
      try simp only [IntKind.wrap_u64]
      omega
    · have hk' : ¬ (k : Int) < (l.length : Int) := by omega
      obtain rfl : k = l.length := by omega
      go_wp2
      go_ret
      exact ⟨by simp, rfl⟩

theorem take_bad (h : Ddr w lo g rest fault) (hf : fault ≠ 0) (n : Int) :
    Calls Tryz.prog 145 #[.pointer (some ⟨g, 0, none⟩), .int .i64 n] w fun e w' => e = .returned (.tuple #[.slice none 0 0, .bool false]) ∧ w = w' := by
  obtain ⟨sv, hg, hlo, hr, hs⟩ := h
  have c1 : w.cell? ⟨g, 1, none⟩ = some (.int .i64 fault) := blk_cell hg 1
  have j : (fault != 0) = true := by simp [hf]
  go_enter Tryz.func145, Tryz.ntmps145
  go_wp2
  go_ret2
  exact ⟨rfl, rfl⟩

theorem take_short (h : Ddr w lo g rest 0) (n : Nat) (hn : rest.length < n) :
    Calls Tryz.prog 145 #[.pointer (some ⟨g, 0, none⟩), .int .i64 (n : Int)] w fun e w' => e = .returned (.tuple #[.slice none 0 0, .bool false]) ∧ w.setCell ⟨g, 1, none⟩ (.int .i64 20) = w' := by
  obtain ⟨sv, hg, hlo, ⟨A, c, rfl, hc, hcm, hp⟩, hs⟩ := h
  have c0 : w.cell? ⟨g, 0, none⟩ = some (.slice A rest.length c) := blk_cell hg 0
  have c1 : w.cell? ⟨g, 1, none⟩ = some (.int .i64 0) := blk_cell hg 1
  have z1 : w.frozen? ⟨g, 1, none⟩ = false := blk_free hg 1
  have j : (rest.length : Int) < (n : Int) := by omega
  go_enter Tryz.func145, Tryz.ntmps145
  go_wp2
  go_ret2
  exact ⟨rfl, rfl⟩

/-- what a take that goes leaves -/
def TakeOk (w : World) (lo g : Nat) (rest : List UInt8) (n : Nat) (e : Ending) (w' : World) : Prop :=
  ∃ A c sv', e = .returned (.tuple #[.slice A n c, .bool true]) ∧ w.setCell ⟨g, 0, none⟩ sv' = w' ∧ Rd w g (.slice A n c) (rest.take n) ∧ Rd w g sv' (rest.drop n) ∧ (∀ k, sv'.ownBlock = some k → lo ≤ k)

set_option maxHeartbeats 400000 in
theorem take_ok (h : Ddr w lo g rest 0) (n : Nat) (hn : n ≤ rest.length) :
    Calls Tryz.prog 145 #[.pointer (some ⟨g, 0, none⟩), .int .i64 (n : Int)] w (TakeOk w lo g rest n) := by
  obtain ⟨sv, hg, hlo, ⟨A, c, rfl, hc, hcm, hp⟩, hs⟩ := h
  have c0 : w.cell? ⟨g, 0, none⟩ = some (.slice A rest.length c) := blk_cell hg 0
  have c1 : w.cell? ⟨g, 1, none⟩ = some (.int .i64 0) := blk_cell hg 1
  have z0 : w.frozen? ⟨g, 0, none⟩ = false := blk_free hg 0
  have j : (n : Int) ≤ (rest.length : Int) := by omega
  have j2 : (n : Int) ≤ (c : Int) := by omega
  by_cases h0 : rest.length = 0
  · obtain rfl : rest = [] := List.eq_nil_of_length_eq_zero h0
    obtain rfl : n = 0 := by simpa using hn
    clear j j2
    have j2 : (0 : Int) ≤ (c : Int) := by omega
    go_enter Tryz.func145, Tryz.ntmps145
    go_wp2
    go_ret2
    refine ⟨_, _, _, rfl, rfl, rd_empty hcm, rd_empty (by omega), by simpa [Value.ownBlock] using hs⟩
  · obtain ⟨b, o, rfl, hb, hcell⟩ := hp (by omega)
    have key : ∀ c', n ≤ c' → c' ≤ maxLen → Rd w g (.slice (some ⟨b, o, none⟩) n c') (rest.take n) := fun c' h1 h2 => by
      simpa using rd_piece (k := 0) (n := n) hb hcell rfl (by omega) (by intro _; rfl) h1 h2
    have KEY := Lib.hid key
    clear key
    go_enter Tryz.func145, Tryz.ntmps145
    go_wp2
    all_goals
      go_ret2
      exact ⟨_, _, _, rfl, rfl, KEY.out _ (by omega) (by omega), rd_cut (k := n) hb hcell (by omega) (by omega) (by intro h; omega) (by omega) (by omega), hs⟩

/-! ### the document's N, B, F, Count -/
theorem Ddr.open_ (h : Ddr w lo g rest fault) : ∃ sv, w.cell? ⟨g, 0, none⟩ = some sv ∧ w.cell? ⟨g, 1, none⟩ = some (.int .i64 fault) ∧ w.frozen? ⟨g, 0, none⟩ = false ∧ w.frozen? ⟨g, 1, none⟩ = false := by
  obtain ⟨sv, hg, _⟩ := h
  exact ⟨sv, blk_cell hg 0, blk_cell hg 1, blk_free hg 0, blk_free hg 1⟩

set_option maxHeartbeats 400000 in
theorem dN_any (h : Ddr w lo g rest fault) :
    Calls Tryz.prog 86 #[.pointer (some ⟨g, 0, none⟩)] w fun e w' => e = .returned (.int .u64 ((rN rest fault).1 : Nat)) ∧ Ddr w' lo g (rN rest fault).2.1 (rN rest fault).2.2 ∧ w.grownBy w' (some g) := by
  by_cases hf : fault = 0
  · subst hf
    by_cases hl : rest.length < 8
    · have e : rN rest 0 = (0, rest, 20) := by simp [rN, hl]
      rw [e]
      clear e
      go_enter Tryz.func86, Tryz.ntmps86
      go_wp2_with fail
      refine (take_short h 8 hl).mono ?_
      rintro e w' ⟨rfl, rfl⟩
      go_wp2_with fail
      go_ret
      exact ⟨rfl, h.put1 20, grown_setR _ _ _ _⟩
    · have e : rN rest 0 = (beVal (rest.take 8), rest.drop 8, 0) := by simp [rN, hl]
      rw [e]
      clear e
      obtain ⟨sv, hg, hlo, hr, hs⟩ := id h
      go_enter Tryz.func86, Tryz.ntmps86
      go_wp2_with fail
      refine (take_ok h 8 (by omega)).mono ?_
      rintro e w' ⟨A, c, sv', rfl, rfl, hx, hd, hs'⟩
      have hlt := blk_lt hg
      have hx' : Rd (w.setCell ⟨g, 0, none⟩ sv') (w.setCell ⟨g, 0, none⟩ sv').heap.size (.slice A 8 c) (rest.take 8) := (hx.set 0 _).more (by simp [World.setCell]; omega)
      go_wp2_with fail
      refine (dnumber_any _ _ _ hx' (by simp; omega)).mono ?_
      rintro e w' ⟨rfl, rfl⟩
      go_wp2_with fail
      go_ret
      exact ⟨rfl, RdT.put0 hg hlo hd hs', grown_setR _ _ _ _⟩
  · have e : rN rest fault = (0, rest, fault) := by simp [rN, hf]
    rw [e]
    clear e
    go_enter Tryz.func86, Tryz.ntmps86
    go_wp2_with fail
    refine (take_bad h hf 8).mono ?_
    rintro e w' ⟨rfl, rfl⟩
    go_wp2_with fail
    go_ret
    exact ⟨rfl, h, World.grownBy.refl _ _⟩
end Go.Proofs.YtaafaaoioleokaaGreatDoor
namespace Go.Proofs.YtaafaaoioleokaaGreatDoor
set_option maxRecDepth 100000
open Go.RowKit

variable {w : World} {lo g : Nat} {rest : List UInt8} {fault : Int}

theorem hsize_set (w : World) (a : Addr) (u : Value) : (w.setCell a u).heap.size = w.heap.size := by simp [World.setCell]

set_option maxHeartbeats 1600000 in
theorem dB_any (h : Ddr w lo g rest fault) :
    Calls Tryz.prog 216 #[.pointer (some ⟨g, 0, none⟩)] w fun e w' => ∃ v, e = .returned v ∧ Own w' w.heap.size v (rB rest fault).1 ∧ Ddr w' lo g (rB rest fault).2.1 (rB rest fault).2.2 ∧ w.grownBy w' (some g) := by
  obtain ⟨i0, hi, hz, hsz, hby⟩ := info_parts Tryz.infoByte
  obtain ⟨sv, hg, hlo, hr, hs⟩ := id h
  have hlt := blk_lt hg
  obtain ⟨A0, c0', rfl⟩ := hr.form
  have c0 : w.cell? ⟨g, 0, none⟩ = some (.slice A0 rest.length c0') := blk_cell hg 0
  have c1 : w.cell? ⟨g, 1, none⟩ = some (.int .i64 fault) := blk_cell hg 1
  have z0 : w.frozen? ⟨g, 0, none⟩ = false := blk_free hg 0
  have z1 : w.frozen? ⟨g, 1, none⟩ = false := blk_free hg 1
  by_cases hf : fault = 0
  · subst hf
    by_cases hl : rest.length < 4
    · have e : rB rest 0 = ([], rest, 20) := by simp [rB, hl]
      rw [e]
      clear e
      go_enter Tryz.func216, Tryz.ntmps216
      go_wp2_with fail
      refine (take_short h 4 hl).mono ?_
      rintro e w' ⟨rfl, rfl⟩
      go_wp2_with fail
      go_ret
      exact ⟨_, rfl, Own.nil _ _, h.put1 20, grown_setR _ _ _ _⟩
    · have hbv : beVal (rest.take 4) < 256 ^ 4 := beVal_lt8 _ 4 (by simp; omega)
      obtain ⟨n, hn'⟩ : ∃ n, n = beVal (rest.take 4) := ⟨_, rfl⟩
      have HN := Lib.hid hn'
      have e0 : rB rest 0 = if 65535 < n then ([], rest, 22) else if rest.length < 4 + n then ([], rest, 20) else ((rest.drop 4).take n, rest.drop (4 + n), 0) := by simp [rB, hl, hn']
      rw [← hn'] at hbv
      clear hn'
      by_cases hn : 65535 < n
      · rw [if_pos hn] at e0
        rw [e0]
        clear e0
        have j1 : (65535 : Int) < (n : Int) := by omega
        go_enter Tryz.func216, Tryz.ntmps216
        go_wp2_with fail
        refine (take_ok h 4 (by omega)).mono ?_
        rintro e w' ⟨A, c, sv', rfl, rfl, hx, hd, hs'⟩
        have hx' : Rd (w.setCell ⟨g, 0, none⟩ sv') (w.setCell ⟨g, 0, none⟩ sv').heap.size (.slice A 4 c) (rest.take 4) := (hx.set 0 _).more (by rw [hsize_set]; omega)
        go_wp2_with fail
        refine (dnumber_any _ _ _ hx' (by simp; omega)).mono ?_
        rintro e w' ⟨rfl, rfl⟩
        rw [← HN.out]
        have hg1 : (w.setCell ⟨g, 0, none⟩ sv').heap[g]? = some (.cells #[sv', .int .i64 0] 199 (0, 0)) := by simpa using blk_set hg 0 sv'
        have d0 : (w.setCell ⟨g, 0, none⟩ sv').cell? ⟨g, 0, none⟩ = some sv' := blk_cell hg1 0
        go_wp2_with fail
        go_ret
        exact ⟨_, rfl, Own.nil _ _, (RdT.put0 hg1 hlo (hr.set 0 _) hs).put1 22, grownBy_trans (grownBy_trans (grown_setR _ _ _ _) (grown_setR _ _ _ _)) (grown_setR _ _ _ _)⟩
      · rw [if_neg hn] at e0
        have j1 : (n : Int) ≤ 65535 := by omega
        by_cases hm : rest.length < 4 + n
        · rw [if_pos hm] at e0
          rw [e0]
          clear e0
          go_enter Tryz.func216, Tryz.ntmps216
          go_wp2_with fail
          refine (take_ok h 4 (by omega)).mono ?_
          rintro e w' ⟨A, c, sv', rfl, rfl, hx, hd, hs'⟩
          have hx' : Rd (w.setCell ⟨g, 0, none⟩ sv') (w.setCell ⟨g, 0, none⟩ sv').heap.size (.slice A 4 c) (rest.take 4) := (hx.set 0 _).more (by rw [hsize_set]; omega)
          go_wp2_with fail
          refine (dnumber_any _ _ _ hx' (by simp; omega)).mono ?_
          rintro e w' ⟨rfl, rfl⟩
          rw [← HN.out]
          have hg1 : (w.setCell ⟨g, 0, none⟩ sv').heap[g]? = some (.cells #[sv', .int .i64 0] 199 (0, 0)) := by simpa using blk_set hg 0 sv'
          have d0 : (w.setCell ⟨g, 0, none⟩ sv').cell? ⟨g, 0, none⟩ = some sv' := blk_cell hg1 0
          have hdd : Ddr (w.setCell ⟨g, 0, none⟩ sv') lo g (rest.drop 4) 0 := RdT.put0 hg hlo hd hs'
          go_wp2_with fail
          refine (take_short hdd n (by simp; omega)).mono ?_
          rintro e w' ⟨rfl, rfl⟩
          have hg2 : ((w.setCell ⟨g, 0, none⟩ sv').setCell ⟨g, 1, none⟩ (.int .i64 20)).heap[g]? = some (.cells #[sv', .int .i64 20] 199 (0, 0)) := by simpa using blk_set hg1 1 (.int .i64 20)
          have d1 : ((w.setCell ⟨g, 0, none⟩ sv').setCell ⟨g, 1, none⟩ (.int .i64 20)).cell? ⟨g, 0, none⟩ = some sv' := blk_cell hg2 0
          have d2 := blk_free hg2 0
          go_wp2_with fail
          go_ret
          exact ⟨_, rfl, Own.nil _ _, RdT.put0 hg2 hlo ((hr.set 0 _).set 1 _) hs, grownBy_trans (grownBy_trans (grown_setR _ _ _ _) (grown_setR _ _ _ _)) (grown_setR _ _ _ _)⟩
        · rw [if_neg hm] at e0
          rw [e0]
          clear e0
          go_enter Tryz.func216, Tryz.ntmps216
          go_wp2_with fail
          refine (take_ok h 4 (by omega)).mono ?_
          rintro e w' ⟨A, c, sv', rfl, rfl, hx, hd, hs'⟩
          have hx' : Rd (w.setCell ⟨g, 0, none⟩ sv') (w.setCell ⟨g, 0, none⟩ sv').heap.size (.slice A 4 c) (rest.take 4) := (hx.set 0 _).more (by rw [hsize_set]; omega)
          go_wp2_with fail
          refine (dnumber_any _ _ _ hx' (by simp; omega)).mono ?_
          rintro e w' ⟨rfl, rfl⟩
          rw [← HN.out]
          have hdd : Ddr (w.setCell ⟨g, 0, none⟩ sv') lo g (rest.drop 4) 0 := RdT.put0 hg hlo hd hs'
          have hg1 : (w.setCell ⟨g, 0, none⟩ sv').heap[g]? = some (.cells #[sv', .int .i64 0] 199 (0, 0)) := by simpa using blk_set hg 0 sv'
          go_wp2_with fail
          refine (take_ok hdd n (by simp; omega)).mono ?_
          rintro e w' ⟨A2, c2, sv2, rfl, rfl, hx2, hd2, hs2⟩
          have hfin : Ddr ((w.setCell ⟨g, 0, none⟩ sv').setCell ⟨g, 0, none⟩ sv2) lo g (rest.drop (4 + n)) 0 := by
            have := RdT.put0 hg1 hlo hd2 hs2
            rwa [List.drop_drop] at this
          have hx3 : Rd (((w.setCell ⟨g, 0, none⟩ sv').setCell ⟨g, 0, none⟩ sv2).alloc (.cells #[] 5)) g (.slice A2 n c2) ((rest.drop 4).take n) := (hx2.set 0 _).alloc (by rw [hsize_set, hsize_set]; omega) _
          have hgr : w.grownBy ((w.setCell ⟨g, 0, none⟩ sv').setCell ⟨g, 0, none⟩ sv2) (some g) := grownBy_trans (grown_setR _ _ _ _) (grown_setR _ _ _ _)
          generalize hw2 : (w.setCell ⟨g, 0, none⟩ sv').setCell ⟨g, 0, none⟩ sv2 = w2 at *
          have hsz2 : w.heap.size = w2.heap.size := by rw [← hw2, hsize_set, hsize_set]
          have HW := Lib.hid hw2
          clear hw2
          have hemp := own_empty w2 (Nat.le_refl _)
          have hle : ((rest.drop 4).take n).length ≤ 65535 := by simp; omega
          go_wp2_with (at_builtin; refine wpList_append_rd rfl (.tmp 43) (.tmp 44) _ rfl i0 Tryz.underlying37 hi hz hsz hby rfl hemp rfl hx3 (by simp; omega) (by simp) ?_; intro v3 w3 ho3 hg3 _)
          have hb3 : Below w2.heap.size w2 w3 := Own.below_grown ((Below.refl _ _).alloc (Nat.le_refl _) _) hemp (Nat.le_refl _) (by simp) hg3
          clear hg3
          go_ret
          exact ⟨_, rfl, by rw [hsz2]; simpa using ho3, hfin.below hb3, grownBy_below hgr hb3⟩
  · have e : rB rest fault = ([], rest, fault) := by simp [rB, hf]
    rw [e]
    clear e
    go_enter Tryz.func216, Tryz.ntmps216
    go_wp2_with fail
    refine (take_bad h hf 4).mono ?_
    rintro e w' ⟨rfl, rfl⟩
    go_wp2_with fail
    go_ret
    exact ⟨_, rfl, Own.nil _ _, h, World.grownBy.refl _ _⟩

set_option maxHeartbeats 400000 in
theorem dT_any (h : Ddr w lo g rest fault) :
    Calls Tryz.prog 189 #[.pointer (some ⟨g, 0, none⟩)] w fun e w' => e = .returned (.string ⟨(rB rest fault).1.toArray⟩) ∧ Ddr w' lo g (rB rest fault).2.1 (rB rest fault).2.2 ∧ w.grownBy w' (some g) := by
  go_enter Tryz.func189, Tryz.ntmps189
  go_wp2_with fail
  refine (dB_any h).mono ?_
  rintro e w1 ⟨v1, rfl, ho1, hrd1, hg1⟩
  have hcv := run_str (P := Tryz.prog) Tryz.underlying37 Tryz.underlying5 Tryz.isString ho1.rd
  go_wp2_with fail
  go_ret
  exact ⟨rfl, hrd1, hg1⟩

set_option maxHeartbeats 1000000 in
theorem dF_any (h : Ddr w lo g rest fault) :
    Calls Tryz.prog 243 #[.pointer (some ⟨g, 0, none⟩)] w fun e w' => e = .returned (.bool (rF rest fault).1) ∧ Ddr w' lo g (rF rest fault).2.1 (rF rest fault).2.2 ∧ w.grownBy w' (some g) := by
  obtain ⟨sv, hg, hlo, hr, hs⟩ := id h
  have hlt := blk_lt hg
  obtain ⟨A0, c0', rfl⟩ := hr.form
  have c0 : w.cell? ⟨g, 0, none⟩ = some (.slice A0 rest.length c0') := blk_cell hg 0
  have c1 : w.cell? ⟨g, 1, none⟩ = some (.int .i64 fault) := blk_cell hg 1
  by_cases hf : fault = 0
  · subst hf
    rcases rest with _ | ⟨x, r⟩
    · have e : rF [] 0 = (false, [], 20) := by simp [rF]
      rw [e]
      clear e
      go_enter Tryz.func243, Tryz.ntmps243
      go_wp2_with fail
      refine (take_short h 1 (by simp)).mono ?_
      rintro e w' ⟨rfl, rfl⟩
      go_wp2_with fail
      go_ret
      exact ⟨rfl, h.put1 20, grown_setR _ _ _ _⟩
    · by_cases hx : 1 < x.toNat
      · have e : rF (x :: r) 0 = (false, x :: r, 21) := by simp [rF, hx]
        rw [e]
        clear e
        have j1 : (1 : Int) < (x.toNat : Int) := by omega
        go_enter Tryz.func243, Tryz.ntmps243
        go_wp2_with fail
        refine (take_ok h 1 (by simp)).mono ?_
        rintro e w' ⟨A, c, sv', rfl, rfl, hx1, hd, hs'⟩
        have hx2 := hx1.set (i := 0) sv'
        obtain ⟨-, b, o, rfl, hb, hcell⟩ := hx2.cell (by omega)
        have cx : (w.setCell ⟨g, 0, none⟩ sv').cell? ⟨b, o, none⟩ = some (.int .u8 (x.toNat : Int)) := hcell 0 (by simp)
        clear hcell
        have hg1 : (w.setCell ⟨g, 0, none⟩ sv').heap[g]? = some (.cells #[sv', .int .i64 0] 199 (0, 0)) := by simpa using blk_set hg 0 sv'
        have d0 : (w.setCell ⟨g, 0, none⟩ sv').cell? ⟨g, 0, none⟩ = some sv' := blk_cell hg1 0
        have z0 := blk_free hg1 0
        have z1 := blk_free hg1 1
        have d1 : (w.setCell ⟨g, 0, none⟩ sv').cell? ⟨g, 1, none⟩ = some (.int .i64 0) := blk_cell hg1 1
        go_wp2_with fail
        go_ret
        exact ⟨rfl, (RdT.put0 hg1 hlo (hr.set 0 _) hs).put1 21, grownBy_trans (grownBy_trans (grown_setR _ _ _ _) (grown_setR _ _ _ _)) (grown_setR _ _ _ _)⟩
      · have e : rF (x :: r) 0 = (x.toNat == 1, r, 0) := by simp [rF, hx]
        rw [e]
        clear e
        have j1 : (x.toNat : Int) ≤ 1 := by omega
        have j2 : ((x.toNat : Int) == 1) = (x.toNat == 1) := by rw [Bool.eq_iff_iff]; simp; omega
        go_enter Tryz.func243, Tryz.ntmps243
        go_wp2_with fail
        refine (take_ok h 1 (by simp)).mono ?_
        rintro e w' ⟨A, c, sv', rfl, rfl, hx1, hd, hs'⟩
        have hx2 := hx1.set (i := 0) sv'
        obtain ⟨-, b, o, rfl, hb, hcell⟩ := hx2.cell (by omega)
        have cx : (w.setCell ⟨g, 0, none⟩ sv').cell? ⟨b, o, none⟩ = some (.int .u8 (x.toNat : Int)) := hcell 0 (by simp)
        clear hcell
        go_wp2_with fail
        go_ret
        exact ⟨rfl, RdT.put0 hg hlo hd hs', grown_setR _ _ _ _⟩
  · have e : rF rest fault = (false, rest, fault) := by simp [rF, hf]
    rw [e]
    clear e
    go_enter Tryz.func243, Tryz.ntmps243
    go_wp2_with fail
    refine (take_bad h hf 1).mono ?_
    rintro e w' ⟨rfl, rfl⟩
    go_wp2_with fail
    go_ret
    exact ⟨rfl, h, World.grownBy.refl _ _⟩
end Go.Proofs.YtaafaaoioleokaaGreatDoor
namespace Go.Proofs.YtaafaaoioleokaaGreatDoor
set_option maxRecDepth 100000
open Go.RowKit

variable {w : World} {lo g : Nat} {rest : List UInt8} {fault : Int}

theorem Rd.grown {w w' : World} {g : Nat} {v : Value} {l : List UInt8} (h : Rd w g v l) (hg : w.grownBy w' (some g)) (hlt : g ≤ w.heap.size) : Rd w' g v l :=
  h.keep fun p hp => World.cell?_of_block (hg.block p.block (by omega) (by intro e; injection e with e; omega))

set_option maxHeartbeats 400000 in
theorem dEnd_any (h : Ddr w lo g rest fault) :
    Calls Tryz.prog 190 #[.pointer (some ⟨g, 0, none⟩)] w fun e w' => e = .returned (.int .i64 (rEnd rest fault)) ∧ w = w' := by
  obtain ⟨sv, hg, hlo, ⟨A, c, rfl, hc, hcm, hp⟩, hs⟩ := h
  have c0 : w.cell? ⟨g, 0, none⟩ = some (.slice A rest.length c) := blk_cell hg 0
  have c1 : w.cell? ⟨g, 1, none⟩ = some (.int .i64 fault) := blk_cell hg 1
  unfold rEnd
  by_cases hf : fault = 0
  · subst hf
    by_cases hl : 0 < rest.length
    · have j : (0 : Int) < (rest.length : Int) := by omega
      rw [if_neg (by simp), if_pos hl]
      go_enter Tryz.func190, Tryz.ntmps190
      go_wp2
      go_ret
      exact ⟨rfl, rfl⟩
    · have j : ¬ (0 : Int) < (rest.length : Int) := by omega
      rw [if_neg (by simp), if_neg hl]
      go_enter Tryz.func190, Tryz.ntmps190
      go_wp2
      go_ret
      exact ⟨rfl, rfl⟩
  · have j : (fault == 0) = false := by simp [hf]
    rw [if_pos hf]
    go_enter Tryz.func190, Tryz.ntmps190
    go_wp2
    go_ret
    exact ⟨rfl, rfl⟩

set_option maxHeartbeats 400000 in
theorem open_dd (v : Value) (l : List UInt8) (w : World) (hr : Rd w w.heap.size v l) (hl : l.length ≤ 140737488355320) :
    Calls Tryz.prog 85 #[v] w fun e w' => ∃ g, e = .returned (.pointer (some ⟨g, 0, none⟩)) ∧ Ddr w' w.heap.size g l 0 ∧ Below w.heap.size w w' := by
  obtain ⟨i0, hi, hz, hsz, hby⟩ := info_parts Tryz.infoByte
  have hbe : Below w.heap.size w (w.alloc (.cells #[] 5)) := (Below.refl _ _).alloc (Nat.le_refl _) _
  go_enter Tryz.func85, Tryz.ntmps85
  go_wp2_with (at_builtin; refine wpList_append_rd rfl (.tmp 3) (.tmp 4) _ rfl i0 Tryz.underlying37 hi hz hsz hby rfl (own_empty w (Nat.le_refl _)) rfl (hr.below hbe) (by simp; omega) hbe.size ?_; intro v1 w1 ho1 hg1 _; have hb1 : Below w.heap.size w w1 := Own.below_grown hbe (own_empty w (Nat.le_refl _)) (Nat.le_refl _) hbe.size hg1; clear hg1; simp only [List.nil_append] at ho1; obtain ⟨A1, c1, rfl⟩ := ho1.form)
  go_ret
  refine ⟨_, rfl, ⟨_, heap_alloc_new _ _, hb1.size, (ho1.rd).alloc (Nat.le_refl _) _, fun k hk => (ho1.lt k hk).1⟩, hb1.alloc hb1.size _⟩
end Go.Proofs.YtaafaaoioleokaaGreatDoor
namespace Go.Proofs.YtaafaaoioleokaaGreatDoor
set_option maxRecDepth 100000
open Go.RowKit

set_option maxHeartbeats 400000 in
theorem refN_any (v : Value) (l : List UInt8) (n : Nat) (w : World) (hr : Rd w w.heap.size v l) (hn : n < 18446744073709551616) (hl : l.length ≤ 140737488355320) :
    Calls Tryz.prog 82 #[v, .int .u64 (n : Int)] w fun e w' => ∃ v', e = .returned v' ∧ Own w' w.heap.size v' (l ++ be n 8) ∧ Below w.heap.size w w' := by
  obtain ⟨i0, hi, hz, hsz, hby⟩ := info_parts Tryz.infoByte
  go_enter Tryz.func82, Tryz.ntmps82
  have hbe : Below w.heap.size w (w.alloc (.cells #[] 5)) := (Below.refl _ _).alloc (Nat.le_refl _) _
  go_wp2_with (at_builtin; refine wpList_append_rd rfl (.tmp 7) (.tmp 8) _ rfl i0 Tryz.underlying37 hi hz hsz hby rfl (own_empty w (Nat.le_refl _)) rfl (hr.below hbe) (by simp; omega) hbe.size ?_; intro v1 w1 ho1 hg1 _)
  have hb1 : Below w.heap.size w w1 := Own.below_grown hbe (own_empty w (Nat.le_refl _)) (Nat.le_refl _) hbe.size hg1
  clear hg1 hbe
  go_loopw [5, 6] (fun b i wr => ∃ (r : Nat) (dn : List UInt8), dn.length + r = 8 ∧ i = .int .i64 ((r : Int) - 1) ∧ dn ++ be n r = be n 8 ∧ Own wr w.heap.size b (l ++ dn) ∧ Below w.heap.size w wr)
    (fun _ i _ => (intOf i + 1).toNat)
  case atStart => exact ⟨8, [], rfl, rfl, rfl, by simpa using ho1, hb1⟩
  case round =>
    obtain ⟨r, dn, hdn, rfl, hbe, ho, hbw⟩ := hrel
    have HD := Lib.hid hdn
    have HB := Lib.hid hbe
    have hr8 : r ≤ 8 := by omega
    clear hdn hbe
    by_cases h0 : r = 0
    · subst h0
      go_wp2
      go_ret
      refine ⟨_, rfl, ?_, hbw⟩
      have := HB.out
      rw [show be n 0 = [] from rfl, List.append_nil] at this
      rw [← this]
      exact ho
    · obtain ⟨q, rfl⟩ : ∃ q, r = q + 1 := ⟨r - 1, by omega⟩
      have hdl : dn.length ≤ 7 := by have := HD.out; omega
      go_wp2_with (at_builtin; refine wpList_append_rd rfl (.tmp 14) (.tmp 21) _ rfl i0 Tryz.underlying37 hi hz hsz hby rfl (ho.alloc _) rfl (rd_lit wr _ [UInt8.ofNat (n / 2 ^ (8 * q))] 1 rfl (by simp [bcells, bval]) (by simp [maxLen])) (by simp; omega) (by have := hbw.size; simp; omega) ?_; intro v1 w1 ho1 hg1 _)
      have hb1 : Below w.heap.size w w1 := Own.below_grown (hbw.alloc (by have := hbw.size; omega) _) (ho.alloc _) (Nat.le_refl _) (by have := hbw.size; simp; omega) hg1
      clear hg1 ho hbw
      go_roundw
      case rel => exact ⟨q, dn ++ [UInt8.ofNat (n / 2 ^ (8 * q))], by have := HD.out; simp; omega, by go_num, by have := HB.out; rw [← this, List.append_assoc]; rfl, by rw [← List.append_assoc]; exact ho1, hb1⟩
      case measure => first | (simp [intOf]; done) | (simp [intOf]; omega)


end Go.Proofs.YtaafaaoioleokaaGreatDoor
namespace Go.Proofs.YtaafaaoioleokaaGreatDoor
set_option maxRecDepth 100000
open Go.RowKit

theorem be4 (n : Nat) (h : n ≤ 65535) : be n 4 = [0, 0, UInt8.ofNat (n / 256), UInt8.ofNat (n % 256)] := by
  have e : be n 4 = [UInt8.ofNat (n / 2 ^ (8 * 3)), UInt8.ofNat (n / 2 ^ (8 * 2)), UInt8.ofNat (n / 2 ^ (8 * 1)), UInt8.ofNat (n / 2 ^ (8 * 0))] := rfl
  rw [e, show n / 2 ^ (8 * 3) = 0 by omega, show n / 2 ^ (8 * 2) = 0 by omega, show n / 2 ^ (8 * 1) = n / 256 by omega, show n / 2 ^ (8 * 0) = n by omega]
  rw [show UInt8.ofNat (n % 256) = UInt8.ofNat n from by apply UInt8.toNat_inj.1; simp]
  rfl

set_option maxHeartbeats 1000000 in
theorem refB_any (v x : Value) (l m : List UInt8) (w : World) (hr : Rd w w.heap.size v l) (hx : Rd w w.heap.size x m) (hl : l.length ≤ 140737488355328 - 65539) :
    Calls Tryz.prog 159 #[v, x] w fun e w' => ∃ v', e = .returned v' ∧ Own w' w.heap.size v' (l ++ be (m.take 65535).length 4 ++ m.take 65535) ∧ Below w.heap.size w w' := by
  obtain ⟨i0, hi, hz, hsz, hby⟩ := info_parts Tryz.infoByte
  have hml := hx.len
  unfold maxLen at hml
  obtain ⟨Al, cl, rfl⟩ := hr.form
  by_cases h0 : m.length ≤ 65535
  · have ht : m.take 65535 = m := List.take_of_length_le h0
    rw [ht, be4 m.length h0]
    have hx0 := hx
    obtain ⟨A, c, rfl, hc, hcm, hp⟩ := hx
    unfold maxLen at hcm
    have hmin : min (m.length : Int) 65535 = (m.length : Int) := by omega
    have hmin2 : min m.length 65535 = m.length := by omega
    have hmc : (m.length : Int) ≤ (c : Int) := by omega
    have q1 : (0 : Int) ≤ (m.length : Int) := by omega
    have q2 : (m.length : Int) ≤ 65535 := by omega
    clear ht hp
    have hbe : Below w.heap.size w (w.alloc (.cells #[] 5)) := (Below.refl _ _).alloc (Nat.le_refl _) _
    go_enter Tryz.func159, Tryz.ntmps159
    go_wp2_with (at_builtin; first
      | (refine wpList_append_rd rfl (.tmp 7) (.tmp 8) _ rfl i0 Tryz.underlying37 hi hz hsz hby rfl (own_empty w (Nat.le_refl _)) rfl (hr.below hbe) (by simp; omega) hbe.size ?_; intro v1 w1 ho1 hg1 _
         have hb1 : Below w.heap.size w w1 := Own.below_grown hbe (own_empty w (Nat.le_refl _)) (Nat.le_refl _) hbe.size hg1
         clear hg1 hbe)
      | (refine wpList_append_rd rfl (.tmp 13) (.tmp 14) _ rfl i0 Tryz.underlying37 hi hz hsz hby rfl (ho1.alloc _) rfl (rd_lit w1 _ [0] 1 rfl (by simp [bcells, bval] <;> omega) (by simp [maxLen])) (by simp; omega) (by have := hb1.size; simp; omega) ?_; intro v2 w2 ho2 hg2 _
         have hb2 : Below w.heap.size w w2 := Own.below_grown (hb1.alloc hb1.size _) (ho1.alloc _) (Nat.le_refl _) (by have := hb1.size; simp; omega) hg2
         clear hg2 ho1 hb1)
      | (refine wpList_append_rd rfl (.tmp 16) (.tmp 17) _ rfl i0 Tryz.underlying37 hi hz hsz hby rfl (ho2.alloc _) rfl (rd_lit w2 _ [0] 1 rfl (by simp [bcells, bval] <;> omega) (by simp [maxLen])) (by simp; omega) (by have := hb2.size; simp; omega) ?_; intro v3 w3 ho3 hg3 _
         have hb3 : Below w.heap.size w w3 := Own.below_grown (hb2.alloc hb2.size _) (ho2.alloc _) (Nat.le_refl _) (by have := hb2.size; simp; omega) hg3
         clear hg3 ho2 hb2)
      | (refine wpList_append_rd rfl (.tmp 19) (.tmp 23) _ rfl i0 Tryz.underlying37 hi hz hsz hby rfl (ho3.alloc _) rfl (rd_lit w3 _ [UInt8.ofNat (m.length / 256)] 1 rfl (by simp [bcells, bval] <;> omega) (by simp [maxLen])) (by simp; omega) (by have := hb3.size; simp; omega) ?_; intro v4 w4 ho4 hg4 _
         have hb4 : Below w.heap.size w w4 := Own.below_grown (hb3.alloc hb3.size _) (ho3.alloc _) (Nat.le_refl _) (by have := hb3.size; simp; omega) hg4
         clear hg4 ho3 hb3)
      | (refine wpList_append_rd rfl (.tmp 25) (.tmp 29) _ rfl i0 Tryz.underlying37 hi hz hsz hby rfl (ho4.alloc _) rfl (rd_lit w4 _ [UInt8.ofNat (m.length % 256)] 1 rfl (by simp [bcells, bval] <;> omega) (by simp [maxLen])) (by simp; omega) (by have := hb4.size; simp; omega) ?_; intro v5 w5 ho5 hg5 _
         have hb5 : Below w.heap.size w w5 := Own.below_grown (hb4.alloc hb4.size _) (ho4.alloc _) (Nat.le_refl _) (by have := hb4.size; simp; omega) hg5
         clear hg5 ho4 hb4)
      | (refine wpList_append_rd rfl (.tmp 31) (.tmp 34) _ rfl i0 Tryz.underlying37 hi hz hsz hby rfl ho5 rfl (hx0.below hb5) (by  simp; omega) hb5.size ?_; intro v6 w6 ho6 hg6 _
         have hb6 : Below w.heap.size w w6 := Own.below_grown hb5 ho5 (Nat.le_refl _) hb5.size hg6
         clear hg6 ho5 hb5))
    go_ret
    exact ⟨_, rfl, by simpa using ho6, hb6⟩
  · have hx0 := hx
    obtain ⟨A, c, rfl, hc, hcm, hp⟩ := hx
    have htl : (m.take 65535).length = 65535 := by simp; omega
    have hx1 : Rd w w.heap.size (.slice A 65535 c) (m.take 65535) := by
      obtain ⟨b, o, rfl, hb, hcell⟩ := hp (by omega)
      refine ⟨_, c, by rw [htl], by omega, hcm, fun _ => ⟨b, o, rfl, hb, fun j hj => ?_⟩⟩
      rw [hcell j (by omega)]
      simp
    have h1 : ¬ (m.length : Int) ≤ 65535 := by omega
    have h2 : (65535 : Int) ≤ (m.length : Int) := by omega
    have h3 : (65535 : Int) ≤ (c : Int) := by omega
    unfold maxLen at hcm
    rw [htl, show be 65535 4 = [0, 0, 255, 255] from rfl]
    have hmin : min (m.length : Int) 65535 = 65535 := by omega
    have hmin2 : min m.length 65535 = 65535 := by omega
    generalize m.take 65535 = t at *
    have HT := Lib.hid htl
    clear htl hp hx0
    have hbe : Below w.heap.size w (w.alloc (.cells #[] 5)) := (Below.refl _ _).alloc (Nat.le_refl _) _
    go_enter Tryz.func159, Tryz.ntmps159
    go_wp2_with (at_builtin; first
      | (refine wpList_append_rd rfl (.tmp 7) (.tmp 8) _ rfl i0 Tryz.underlying37 hi hz hsz hby rfl (own_empty w (Nat.le_refl _)) rfl (hr.below hbe) (by simp; omega) hbe.size ?_; intro v1 w1 ho1 hg1 _
         have hb1 : Below w.heap.size w w1 := Own.below_grown hbe (own_empty w (Nat.le_refl _)) (Nat.le_refl _) hbe.size hg1
         clear hg1 hbe)
      | (refine wpList_append_rd rfl (.tmp 13) (.tmp 14) _ rfl i0 Tryz.underlying37 hi hz hsz hby rfl (ho1.alloc _) rfl (rd_lit w1 _ [0] 1 rfl (by simp [bcells, bval] <;> omega) (by simp [maxLen])) (by simp; omega) (by have := hb1.size; simp; omega) ?_; intro v2 w2 ho2 hg2 _
         have hb2 : Below w.heap.size w w2 := Own.below_grown (hb1.alloc hb1.size _) (ho1.alloc _) (Nat.le_refl _) (by have := hb1.size; simp; omega) hg2
         clear hg2 ho1 hb1)
      | (refine wpList_append_rd rfl (.tmp 16) (.tmp 17) _ rfl i0 Tryz.underlying37 hi hz hsz hby rfl (ho2.alloc _) rfl (rd_lit w2 _ [0] 1 rfl (by simp [bcells, bval] <;> omega) (by simp [maxLen])) (by simp; omega) (by have := hb2.size; simp; omega) ?_; intro v3 w3 ho3 hg3 _
         have hb3 : Below w.heap.size w w3 := Own.below_grown (hb2.alloc hb2.size _) (ho2.alloc _) (Nat.le_refl _) (by have := hb2.size; simp; omega) hg3
         clear hg3 ho2 hb2)
      | (refine wpList_append_rd rfl (.tmp 19) (.tmp 23) _ rfl i0 Tryz.underlying37 hi hz hsz hby rfl (ho3.alloc _) rfl (rd_lit w3 _ [255] 1 rfl (by simp [bcells, bval] <;> omega) (by simp [maxLen])) (by simp; omega) (by have := hb3.size; simp; omega) ?_; intro v4 w4 ho4 hg4 _
         have hb4 : Below w.heap.size w w4 := Own.below_grown (hb3.alloc hb3.size _) (ho3.alloc _) (Nat.le_refl _) (by have := hb3.size; simp; omega) hg4
         clear hg4 ho3 hb3)
      | (refine wpList_append_rd rfl (.tmp 25) (.tmp 29) _ rfl i0 Tryz.underlying37 hi hz hsz hby rfl (ho4.alloc _) rfl (rd_lit w4 _ [255] 1 rfl (by simp [bcells, bval] <;> omega) (by simp [maxLen])) (by simp; omega) (by have := hb4.size; simp; omega) ?_; intro v5 w5 ho5 hg5 _
         have hb5 : Below w.heap.size w w5 := Own.below_grown (hb4.alloc hb4.size _) (ho4.alloc _) (Nat.le_refl _) (by have := hb4.size; simp; omega) hg5
         clear hg5 ho4 hb4)
      | (refine wpList_append_rd rfl (.tmp 31) (.tmp 34) _ rfl i0 Tryz.underlying37 hi hz hsz hby rfl ho5 rfl (hx1.below hb5) (by have := HT.out; simp; omega) hb5.size ?_; intro v6 w6 ho6 hg6 _
         have hb6 : Below w.heap.size w w6 := Own.below_grown hb5 ho5 (Nat.le_refl _) hb5.size hg6
         clear hg6 ho5 hb5))
    go_ret
    exact ⟨_, rfl, by simpa using ho6, hb6⟩
end Go.Proofs.YtaafaaoioleokaaGreatDoor
namespace Go.Proofs.YtaafaaoioleokaaGreatDoor
set_option maxRecDepth 100000
open Go.RowKit

set_option maxHeartbeats 400000 in
theorem refT_any (v : Value) (s : ByteArray) (l : List UInt8) (w : World) (hr : Rd w w.heap.size v l) (hsm : s.size ≤ maxLen) (hl : l.length ≤ 140737488355328 - 65539) :
    Calls Tryz.prog 105 #[v, .string s] w fun e w' => ∃ v', e = .returned v' ∧ Own w' w.heap.size v' (l ++ be ((strBytes s).take 65535).length 4 ++ (strBytes s).take 65535) ∧ Below w.heap.size w w' := by
  have hcv := run_bytes_of_string (P := Tryz.prog) w 9 37 5 s Tryz.underlying9 Tryz.underlying37 Tryz.underlying5
  have hge := grownCap_ge w s.size 0 5
  have hlm := grownCap_le_maxLen w s.size 0 5 hsm
  generalize grownCap w s.size 0 5 = cap at *
  have hb0 : Below w.heap.size w (w.drew.alloc (.cells (bytesRow s cap) 5 ((bytesRow s cap).size, (bytesRow s cap).size + 1))) := ((Below.refl _ _).drew).alloc (Nat.le_refl _) _
  have hx : Rd (w.drew.alloc (.cells (bytesRow s cap) 5 ((bytesRow s cap).size, (bytesRow s cap).size + 1))) (w.drew.alloc (.cells (bytesRow s cap) 5 ((bytesRow s cap).size, (bytesRow s cap).size + 1))).heap.size (.slice (some ⟨w.heap.size, 0, none⟩) s.size cap) (strBytes s) := by
    refine ⟨_, cap, by rw [strBytes_length], by rw [strBytes_length]; exact hge, hlm, fun _ => ⟨w.heap.size, 0, rfl, by simp, fun j hj => ?_⟩⟩
    rw [strBytes_length] at hj
    rw [show 0 + j = j by omega]
    have h1 := cell_of_row (w.drew.alloc (.cells (bytesRow s cap) 5 ((bytesRow s cap).size, (bytesRow s cap).size + 1))) w.heap.size j (bytesRow s cap) _ _ (heap_alloc_new w.drew _)
    rw [h1, bytesRow_at s cap j hj]
    rfl
  generalize hw2 : w.drew.alloc (.cells (bytesRow s cap) 5 ((bytesRow s cap).size, (bytesRow s cap).size + 1)) = w2 at *
  have HX := Lib.hid hx
  clear hx hw2 hge hlm
  go_enter Tryz.func105, Tryz.ntmps105
  go_wp2_with fail
  refine (refB_any v _ l (strBytes s) w2 (hr.up (Nat.le_refl _) hb0) HX.out hl).mono ?_
  rintro e w3 ⟨v3, rfl, ho3, hb3⟩
  go_wp2_with fail
  go_ret
  exact ⟨_, rfl, ho3.more hb0.size, below_chain hb0 hb0.size hb3⟩
end Go.Proofs.YtaafaaoioleokaaGreatDoor
