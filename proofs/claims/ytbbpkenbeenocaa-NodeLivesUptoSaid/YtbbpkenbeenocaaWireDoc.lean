
/- The walks: the document's reader. The walks: the document's reader, its bytes, texts, flags, counts. The walks: the document's reader, its counts, what is left, its faults; a new one. -/
import Derived.Test.YtbbpkenbeenocaaWireR
namespace Go.Proofs.Ytbbpkenbeenocaa
set_option maxRecDepth 100000
open Go.RowKit

variable {w : World} {lo g : Nat} {rest : List UInt8} {fault : Int}

set_option maxHeartbeats 400000 in
theorem number_any (v : Value) (l : List UInt8) (w : World) (h : Rd w w.heap.size v l) (hl : l.length ≤ 8) :
    Calls Try.prog 71 #[v] w fun e w' => e = .returned (.int .u64 (beVal l : Nat)) ∧ w = w' := by
  obtain ⟨A, c, rfl, hc, hcm, hp⟩ := h
  go_enter Try.func71, Try.ntmps71
  go_wp2
  go_loop [3, 4] (fun n i => ∃ k : Nat, k ≤ l.length ∧ i = .int .i64 (k : Int) ∧ n = .int .u64 (beVal (l.take k) : Nat)) (fun _ i => l.length - (intOf i).toNat)
  case atStart => exact ⟨0, Nat.zero_le _, rfl, by simp [beVal]⟩
  case round =>
    obtain ⟨k, hk, rfl, rfl⟩ := hrel
    by_cases hlt : k < l.length
    · obtain ⟨b, o, rfl, hb, hcell⟩ := hp (by omega)
      have c1 : w.cell? ⟨b, o + k, none⟩ = some (.int .u8 (l[k].toNat : Int)) := hcell k (by omega)
      have hlt2 : beVal (l.take k) < 256 ^ 7 := beVal_lt8 _ 7 (by simp; omega)
      have hx := l[k].toNat_lt
      have i1 : (0 : Int) ≤ (k : Int) := by omega
      have i2 : (k : Int) < (l.length : Int) := by omega
      have hsn : beVal (l.take (k + 1)) = beVal (l.take k) * 256 + l[k].toNat := by rw [List.take_succ_eq_append_getElem (by omega), beVal_snoc]
      have HS := Lib.hid hsn
      clear hsn hcell hp
      go_wp2
      refine ⟨⟨k + 1, by omega, by go_num, ?_⟩, by simp [intOf]; omega⟩
      rw [HS.out]
      congr 1
      try simp only [IntKind.wrap_u64]
      omega
    · have hk' : ¬ (k : Int) < (l.length : Int) := by omega
      obtain rfl : k = l.length := by omega
      go_wp2
      go_ret
      exact ⟨by simp, rfl⟩

theorem take_bad (h : Ddr w lo g rest fault) (hf : fault ≠ 0) (n : Int) :
    Calls Try.prog 70 #[.pointer (some ⟨g, 0, none⟩), .int .i64 n] w fun e w' => e = .returned (.tuple #[.slice none 0 0, .bool false]) ∧ w = w' := by
  obtain ⟨sv, hg, hlo, hr, hs⟩ := h
  have c1 : w.cell? ⟨g, 1, none⟩ = some (.int .i64 fault) := blk_cell hg 1
  have j : (fault != 0) = true := by simp [hf]
  go_enter Try.func70, Try.ntmps70
  go_wp2
  go_ret2
  exact ⟨rfl, rfl⟩

theorem take_short (h : Ddr w lo g rest 0) (n : Nat) (hn : rest.length < n) :
    Calls Try.prog 70 #[.pointer (some ⟨g, 0, none⟩), .int .i64 (n : Int)] w fun e w' => e = .returned (.tuple #[.slice none 0 0, .bool false]) ∧ w.setCell ⟨g, 1, none⟩ (.int .i64 20) = w' := by
  obtain ⟨sv, hg, hlo, ⟨A, c, rfl, hc, hcm, hp⟩, hs⟩ := h
  have c0 : w.cell? ⟨g, 0, none⟩ = some (.slice A rest.length c) := blk_cell hg 0
  have c1 : w.cell? ⟨g, 1, none⟩ = some (.int .i64 0) := blk_cell hg 1
  have z1 : w.frozen? ⟨g, 1, none⟩ = false := blk_free hg 1
  have j : (rest.length : Int) < (n : Int) := by omega
  go_enter Try.func70, Try.ntmps70
  go_wp2
  go_ret2
  exact ⟨rfl, rfl⟩

/-- what a take that goes leaves -/
def TakeOk (w : World) (lo g : Nat) (rest : List UInt8) (n : Nat) (e : Ending) (w' : World) : Prop :=
  ∃ A c sv', e = .returned (.tuple #[.slice A n c, .bool true]) ∧ w.setCell ⟨g, 0, none⟩ sv' = w' ∧ Rd w g (.slice A n c) (rest.take n) ∧ Rd w g sv' (rest.drop n) ∧ (∀ k, sv'.ownBlock = some k → lo ≤ k)

set_option maxHeartbeats 400000 in
theorem take_ok (h : Ddr w lo g rest 0) (n : Nat) (hn : n ≤ rest.length) :
    Calls Try.prog 70 #[.pointer (some ⟨g, 0, none⟩), .int .i64 (n : Int)] w (TakeOk w lo g rest n) := by
  obtain ⟨sv, hg, hlo, ⟨A, c, rfl, hc, hcm, hp⟩, hs⟩ := h
  have c0 : w.cell? ⟨g, 0, none⟩ = some (.slice A rest.length c) := blk_cell hg 0
  have c1 : w.cell? ⟨g, 1, none⟩ = some (.int .i64 0) := blk_cell hg 1
  have z0 : w.frozen? ⟨g, 0, none⟩ = false := blk_free hg 0
  have j : (n : Int) ≤ (rest.length : Int) := by omega
  have j2 : (n : Int) ≤ (c : Int) := by omega
  by_cases h0 : rest.length = 0
  · obtain rfl : rest = [] := List.eq_nil_of_length_eq_zero h0
    obtain rfl : n = 0 := by simpa using hn
    clear j j2
    have j2 : (0 : Int) ≤ (c : Int) := by omega
    go_enter Try.func70, Try.ntmps70
    go_wp2
    go_ret2
    refine ⟨_, _, _, rfl, rfl, rd_empty hcm, rd_empty (by omega), by simpa [Value.ownBlock] using hs⟩
  · obtain ⟨b, o, rfl, hb, hcell⟩ := hp (by omega)
    have key : ∀ c', n ≤ c' → c' ≤ maxLen → Rd w g (.slice (some ⟨b, o, none⟩) n c') (rest.take n) := fun c' h1 h2 => by
      simpa using rd_piece (k := 0) (n := n) hb hcell rfl (by omega) (by intro _; rfl) h1 h2
    have KEY := Lib.hid key
    clear key
    go_enter Try.func70, Try.ntmps70
    go_wp2
    all_goals
      go_ret2
      exact ⟨_, _, _, rfl, rfl, KEY.out _ (by omega) (by omega), rd_cut (k := n) hb hcell (by omega) (by omega) (by intro h; omega) (by omega) (by omega), hs⟩

/-! ### the document's N, B, F, Count -/
theorem Ddr.open_ (h : Ddr w lo g rest fault) : ∃ sv, w.cell? ⟨g, 0, none⟩ = some sv ∧ w.cell? ⟨g, 1, none⟩ = some (.int .i64 fault) ∧ w.frozen? ⟨g, 0, none⟩ = false ∧ w.frozen? ⟨g, 1, none⟩ = false := by
  obtain ⟨sv, hg, _⟩ := h
  exact ⟨sv, blk_cell hg 0, blk_cell hg 1, blk_free hg 0, blk_free hg 1⟩

set_option maxHeartbeats 400000 in
theorem dN_any (h : Ddr w lo g rest fault) :
    Calls Try.prog 59 #[.pointer (some ⟨g, 0, none⟩)] w fun e w' => e = .returned (.int .u64 ((rN rest fault).1 : Nat)) ∧ Ddr w' lo g (rN rest fault).2.1 (rN rest fault).2.2 ∧ w.grownBy w' (some g) := by
  by_cases hf : fault = 0
  · subst hf
    by_cases hl : rest.length < 8
    · have e : rN rest 0 = (0, rest, 20) := by simp [rN, hl]
      rw [e]
      clear e
      go_enter Try.func59, Try.ntmps59
      go_wp2_with fail
      refine (take_short h 8 hl).mono ?_
      rintro e w' ⟨rfl, rfl⟩
      go_wp2_with fail
      go_ret
      exact ⟨rfl, h.put1 20, grown_set _ _ _ _⟩
    · have e : rN rest 0 = (beVal (rest.take 8), rest.drop 8, 0) := by simp [rN, hl]
      rw [e]
      clear e
      obtain ⟨sv, hg, hlo, hr, hs⟩ := id h
      go_enter Try.func59, Try.ntmps59
      go_wp2_with fail
      refine (take_ok h 8 (by omega)).mono ?_
      rintro e w' ⟨A, c, sv', rfl, rfl, hx, hd, hs'⟩
      have hlt := blk_lt hg
      have hx' : Rd (w.setCell ⟨g, 0, none⟩ sv') (w.setCell ⟨g, 0, none⟩ sv').heap.size (.slice A 8 c) (rest.take 8) := (hx.set 0 _).more (by simp [World.setCell]; omega)
      go_wp2_with fail
      refine (number_any _ _ _ hx' (by simp; omega)).mono ?_
      rintro e w' ⟨rfl, rfl⟩
      go_wp2_with fail
      go_ret
      exact ⟨rfl, RdT.put0 hg hlo hd hs', grown_set _ _ _ _⟩
  · have e : rN rest fault = (0, rest, fault) := by simp [rN, hf]
    rw [e]
    clear e
    go_enter Try.func59, Try.ntmps59
    go_wp2_with fail
    refine (take_bad h hf 8).mono ?_
    rintro e w' ⟨rfl, rfl⟩
    go_wp2_with fail
    go_ret
    exact ⟨rfl, h, World.grownBy.refl _ _⟩
end Go.Proofs.Ytbbpkenbeenocaa
namespace Go.Proofs.Ytbbpkenbeenocaa
open Go.RowKit

variable {w : World} {lo g : Nat} {rest : List UInt8} {fault : Int}

theorem hsize_set (w : World) (a : Addr) (u : Value) : (w.setCell a u).heap.size = w.heap.size := by simp [World.setCell]

end Go.Proofs.Ytbbpkenbeenocaa
namespace Go.Proofs.Ytbbpkenbeenocaa
open Go.RowKit

variable {w : World} {lo g : Nat} {rest : List UInt8} {fault : Int}

theorem Rd.grown {w w' : World} {g : Nat} {v : Value} {l : List UInt8} (h : Rd w g v l) (hg : w.grownBy w' (some g)) (hlt : g ≤ w.heap.size) : Rd w' g v l :=
  h.keep fun p hp => World.cell?_of_block (hg.block p.block (by omega) (by intro e; injection e with e; omega))

theorem dLeft_any (h : Ddr w lo g rest fault) :
    Calls Try.prog 61 #[.pointer (some ⟨g, 0, none⟩)] w fun e w' => e = .returned (.int .i64 (rest.length : Int)) ∧ w = w' := by
  obtain ⟨sv, hg, hlo, ⟨A, c, rfl, hc, hcm, hp⟩, hs⟩ := h
  have c0 : w.cell? ⟨g, 0, none⟩ = some (.slice A rest.length c) := blk_cell hg 0
  go_enter Try.func61, Try.ntmps61
  go_wp2
  go_ret
  exact ⟨rfl, rfl⟩

theorem dErr_any (h : Ddr w lo g rest fault) :
    Calls Try.prog 60 #[.pointer (some ⟨g, 0, none⟩)] w fun e w' => e = .returned (.int .i64 fault) ∧ w = w' := by
  obtain ⟨sv, hg, hlo, hr, hs⟩ := h
  have c1 : w.cell? ⟨g, 1, none⟩ = some (.int .i64 fault) := blk_cell hg 1
  go_enter Try.func60, Try.ntmps60
  go_wp2
  go_ret
  exact ⟨rfl, rfl⟩

set_option maxHeartbeats 400000 in
theorem open_dd (v : Value) (l : List UInt8) (w : World) (hr : Rd w w.heap.size v l) (hl : l.length ≤ 140737488355320) :
    Calls Try.prog 58 #[v] w fun e w' => ∃ g, e = .returned (.pointer (some ⟨g, 0, none⟩)) ∧ Ddr w' w.heap.size g l 0 ∧ Below w.heap.size w w' := by
  obtain ⟨i0, hi, hz, hsz, hby⟩ := info_parts Try.infoByte
  have hbe : Below w.heap.size w (w.alloc (.cells #[] 5)) := (Below.refl _ _).alloc (Nat.le_refl _) _
  go_enter Try.func58, Try.ntmps58
  go_wp2_with (at_builtin; refine wpList_append_rd rfl (.tmp 3) (.tmp 4) _ rfl i0 Try.underlying40 hi hz hsz hby rfl (own_empty w (Nat.le_refl _)) rfl (hr.below hbe) (by simp; omega) hbe.size ?_; intro v1 w1 ho1 hg1 _; have hb1 : Below w.heap.size w w1 := Own.below_grown hbe (own_empty w (Nat.le_refl _)) (Nat.le_refl _) hbe.size hg1; clear hg1; simp only [List.nil_append] at ho1; obtain ⟨A1, c1, rfl⟩ := ho1.form)
  go_ret
  refine ⟨_, rfl, ⟨_, heap_alloc_new _ _, hb1.size, (ho1.rd).alloc (Nat.le_refl _) _, fun k hk => (ho1.lt k hk).1⟩, hb1.alloc hb1.size _⟩
end Go.Proofs.Ytbbpkenbeenocaa
