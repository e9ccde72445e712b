/- Texts joined: WireR0, WireDoc0, BeLt, EncB1, PktB1. -/
import Derived.Test.YtpcoonnfaoakhaaGreatDoorM04
import Derived.Test.YtpcoonnfaoakhaaGreatDoorM01
import Derived.Laws.IdiomStrings
import Derived.Test.YtpcoonnfaoakhaaGreatDoorM02
import Derived.Deep.RegionHeldLaw
import Derived.Laws.StructEq
import Derived.Test.YtpcoonnfaoakhaaGreatDoorM12
import Derived.Test.YtpcoonnfaoakhaaGreatDoorM05
namespace Go.Proofs.YtpcoonnfaoakhaaGreatDoor
set_option maxRecDepth 100000
open Go.RowKit

/-- the byte of a flag -/
def fb (yes : Bool) : UInt8 := if yes then 1 else 0

set_option maxHeartbeats 400000 in
theorem F_any (v : Value) (yes : Bool) (l : List UInt8) (w : World) (hr : Rd w w.heap.size v l) (hl : l.length ≤ 140737488355320) :
    Calls Tryz.prog 96 #[v, .bool yes] w fun e w' => ∃ v', e = .returned v' ∧ Own w' w.heap.size v' (l ++ [fb yes]) ∧ Below w.heap.size w w' := by
  obtain ⟨i0, hi, hz, hsz, hby⟩ := info_parts Tryz.infoByte
  cases yes
  · go_enter Tryz.func96, Tryz.ntmps96
    go_wp2_with fail
    refine (grown_any v l _ w hr (by omega) (by omega)).mono ?_
    rintro e w1 ⟨v1, rfl, ho1, hb1⟩
    go_wp2_with (at_builtin; refine wpList_append_rd rfl (.tmp 12) (.tmp 13) _ rfl i0 Tryz.underlying27 hi hz hsz hby rfl (ho1.alloc _) rfl (rd_lit w1 _ [0] 1 rfl (by simp [bcells, bval]) (by simp [maxLen])) (by simp; omega) (by have := hb1.size; simp; omega) ?_; intro v3 w3 ho3 hg3 _)
    go_ret
    exact ⟨_, rfl, ho3, Own.below_grown (hb1.alloc hb1.size _) (ho1.alloc _) (Nat.le_refl _) (by have := hb1.size; simp; omega) hg3⟩
  · go_enter Tryz.func96, Tryz.ntmps96
    go_wp2_with fail
    refine (grown_any v l _ w hr (by omega) (by omega)).mono ?_
    rintro e w1 ⟨v1, rfl, ho1, hb1⟩
    go_wp2_with (at_builtin; refine wpList_append_rd rfl (.tmp 9) (.tmp 10) _ rfl i0 Tryz.underlying27 hi hz hsz hby rfl (ho1.alloc _) rfl (rd_lit w1 _ [1] 1 rfl (by simp [bcells, bval]) (by simp [maxLen])) (by simp; omega) (by have := hb1.size; simp; omega) ?_; intro v3 w3 ho3 hg3 _)
    go_ret
    exact ⟨_, rfl, ho3, Own.below_grown (hb1.alloc hb1.size _) (ho1.alloc _) (Nat.le_refl _) (by have := hb1.size; simp; omega) hg3⟩
end Go.Proofs.YtpcoonnfaoakhaaGreatDoor
namespace Go.Proofs.YtpcoonnfaoakhaaGreatDoor
set_option maxRecDepth 100000
open Go.RowKit

/-- a reader at block g: what is left, and the fault; its bytes and itself lie in blocks from lo on -/
def RdT (T : Nat) (w : World) (lo g : Nat) (rest : List UInt8) (fault : Int) : Prop :=
  ∃ sv, w.heap[g]? = some (.cells #[sv, .int .i64 fault] T (0, 0)) ∧ lo ≤ g ∧ Rd w g sv rest ∧ (∀ k, sv.ownBlock = some k → lo ≤ k)
abbrev Rdr := RdT 170
/-- the document's reader -/
abbrev Ddr := RdT 188

section
variable {T : Nat} {w w' : World} {lo g : Nat} {rest : List UInt8} {fault : Int}
theorem RdT.from_ (h : RdT T w lo g rest fault) : lo ≤ g := by obtain ⟨_, _, h, _⟩ := h; exact h
theorem RdT.lt (h : RdT T w lo g rest fault) : g < w.heap.size := by obtain ⟨sv, h, _⟩ := h; exact blk_lt h
/-- kept where nothing from lo to g has turned -/
theorem RdT.keep (h : RdT T w lo g rest fault) (hk : ∀ k, lo ≤ k → k ≤ g → w'.heap[k]? = w.heap[k]?) : RdT T w' lo g rest fault := by
  obtain ⟨sv, hb, hlo, ⟨A, c, hv, hc, hm, hp⟩, hs⟩ := h
  refine ⟨sv, (hk g hlo (Nat.le_refl _)).trans hb, hlo, ⟨A, c, hv, hc, hm, fun h0 => ?_⟩, hs⟩
  obtain ⟨b, o, hA, hbg, hcell⟩ := hp h0
  refine ⟨b, o, hA, hbg, fun j hj => ?_⟩
  rw [← hcell j hj]
  exact World.cell?_of_block (hk b (hs b (by subst hv; subst hA; rfl)) (by omega))
theorem RdT.below (h : RdT T w lo g rest fault) (hb : Below w.heap.size w w') : RdT T w' lo g rest fault := h.keep fun k _ hk => hb.block k (by have := h.lt; omega)
/-- kept where another block alone has turned -/
theorem RdT.grown {g' : Nat} (h : RdT T w lo g rest fault) (hg : w.grownBy w' (some g')) (hne : g' < lo ∨ g < g') : RdT T w' lo g rest fault :=
  h.keep fun k h1 h2 => hg.block k (by have := h.lt; omega) (by intro e; injection e with e; omega)
theorem grown_setR (w : World) (g i : Nat) (u : Value) : w.grownBy (w.setCell ⟨g, i, none⟩ u) (some g) :=
  ⟨rfl, rfl, rfl, by simp [World.setCell], fun k hk hne => Below.heap_setCell w _ u k (by rintro rfl; exact hne rfl)⟩
theorem Rd.set {v : Value} (h : Rd w g v rest) (i : Nat) (u : Value) : Rd (w.setCell ⟨g, i, none⟩ u) g v rest := h.keep fun p hp => World.cell?_setCell_other w _ _ _ (by rintro rfl; simp at hp)
end

variable {w : World} {lo g : Nat} {rest : List UInt8} {fault : Int}

theorem ready_any (h : Rdr w lo g rest fault) (b : Bool) (hb : (fault == 0) = b) :
    Calls Tryz.prog 124 #[.pointer (some ⟨g, 0, none⟩)] w fun e w' => e = .returned (.bool b) ∧ w = w' := by
  obtain ⟨sv, hg, hlo, hr, hs⟩ := h
  have c1 : w.cell? ⟨g, 1, none⟩ = some (.int .i64 fault) := blk_cell hg 1
  go_enter Tryz.func124, Tryz.ntmps124
  go_wp2
  go_ret
  exact ⟨rfl, rfl⟩

/-- the number that bytes are, the highest first -/
def beVal (l : List UInt8) : Nat := l.foldl (fun n x => n * 256 + x.toNat) 0
theorem beVal_snoc (l : List UInt8) (x : UInt8) : beVal (l ++ [x]) = beVal l * 256 + x.toNat := by simp [beVal]
theorem beVal_foldl (l : List UInt8) : ∀ a : Nat, l.foldl (fun n x => n * 256 + x.toNat) a < (a + 1) * 256 ^ l.length := by
  induction l with
  | nil => intro a; simp
  | cons x l ih =>
    intro a
    have h1 := ih (a * 256 + x.toNat)
    have h2 := x.toNat_lt
    have h3 : (a * 256 + x.toNat + 1) * 256 ^ l.length ≤ ((a + 1) * 256) * 256 ^ l.length := Nat.mul_le_mul_right _ (by omega)
    simp only [List.foldl_cons, List.length_cons, Nat.pow_succ]
    have h4 : (a + 1) * (256 ^ l.length * 256) = ((a + 1) * 256) * 256 ^ l.length := by
      rw [Nat.mul_assoc, Nat.mul_comm 256]
    omega
theorem beVal_lt (l : List UInt8) : beVal l < 256 ^ l.length := by simpa [beVal] using beVal_foldl l 0
theorem beVal_lt8 (l : List UInt8) (k : Nat) (h : l.length ≤ k) : beVal l < 256 ^ k := Nat.lt_of_lt_of_le (beVal_lt l) (Nat.pow_le_pow_right (by omega) h)
theorem or_byte (x : Nat) (y : UInt8) (h : x < 72057594037927936) :
    bits BinOp.or IntKind.u64 ((x : Int) * 256) (IntKind.u64.wrap (y.toNat : Int)) = ((x * 256 + y.toNat : Nat) : Int) := by
  have hy := y.toNat_lt
  have e1 : ((x : Int) * 256) = ((x * 256 : Nat) : Int) := by omega
  have e2 : IntKind.u64.wrap (y.toNat : Int) = (y.toNat : Int) := by rw [IntKind.wrap_u64]; omega
  rw [e1, e2, bits_or_u64_nat _ _ (by omega) (by omega)]
  have := Nat.shiftLeft_add_eq_or_of_lt (b := y.toNat) (i := 8) (by omega) x
  rw [Nat.shiftLeft_eq] at this
  rw [show x * 256 = x * 2 ^ 8 from rfl, ← this]

set_option maxHeartbeats 400000 in
theorem high_any (h : Rdr w lo g rest fault) (size : Nat) (hs : size ≤ 8) (hl : size ≤ rest.length) :
    Calls Tryz.prog 125 #[.pointer (some ⟨g, 0, none⟩), .int .i64 (size : Int)] w fun e w' => e = .returned (.int .u64 (beVal (rest.take size) : Nat)) ∧ w = w' := by
  obtain ⟨sv, hg, hlo, ⟨A, c, rfl, hc, hcm, hp⟩, hss⟩ := h
  have c0 : w.cell? ⟨g, 0, none⟩ = some (.slice A rest.length c) := blk_cell hg 0
  have hb0 : (0 : Int) ≤ (size : Int) := by omega
  have hb1 : (size : Int) ≤ (c : Int) := by omega
  go_enter Tryz.func125, Tryz.ntmps125
  go_wp2
  go_loop [5, 15] (fun n i => ∃ k : Nat, k ≤ size ∧ i = .int .i64 (k : Int) ∧ n = .int .u64 (beVal (rest.take k) : Nat)) (fun _ i => size - (intOf i).toNat)
  case atStart => exact ⟨0, Nat.zero_le _, rfl, by simp [beVal]⟩
  case round =>
    obtain ⟨k, hk, rfl, rfl⟩ := hrel
    by_cases hlt : k < size
    · obtain ⟨b, o, rfl, hb, hcell⟩ := hp (by omega)
      have c1 : w.cell? ⟨b, o + k, none⟩ = some (.int .u8 ((rest[k]'(by omega)).toNat : Int)) := hcell k (by omega)
      have hlt2 : beVal (rest.take k) < 256 ^ 7 := beVal_lt8 _ 7 (by simp; omega)
      have ho := or_byte (beVal (rest.take k)) (rest[k]'(by omega)) hlt2
      have hsn : beVal (rest.take (k + 1)) = beVal (rest.take k) * 256 + (rest[k]'(by omega)).toNat := by rw [List.take_succ_eq_append_getElem (by omega), beVal_snoc]
      have HO := Lib.hid ho
      have HS := Lib.hid hsn
      clear ho hsn
      go_wp2
      exact ⟨⟨k + 1, by omega, by go_num, by rw [HO.out, HS.out]⟩, by simp [intOf]; omega⟩
    · have hk' : ¬ (k : Int) < (size : Int) := by omega
      obtain rfl : k = size := by omega
      go_wp2
      go_ret
      exact ⟨rfl, rfl⟩
end Go.Proofs.YtpcoonnfaoakhaaGreatDoor
namespace Go.Proofs.YtpcoonnfaoakhaaGreatDoor
set_option maxRecDepth 100000
open Go.RowKit

/-- what a reader answers for a number, what is left, the fault -/
def rN (l : List UInt8) (f : Int) : Nat × List UInt8 × Int :=
  if f ≠ 0 then (0, l, f) else if l.length < 8 then (0, l, 20) else (beVal (l.take 8), l.drop 8, 0)

variable {w : World} {lo g : Nat} {rest : List UInt8} {fault : Int}

theorem RdT.put0 {T : Nat} {sv sv' : Value} {rest' : List UInt8} (hg : w.heap[g]? = some (.cells #[sv, .int .i64 fault] T (0, 0))) (hlo : lo ≤ g) (hr : Rd w g sv' rest')
    (hs : ∀ k, sv'.ownBlock = some k → lo ≤ k) : RdT T (w.setCell ⟨g, 0, none⟩ sv') lo g rest' fault :=
  ⟨sv', by simpa using blk_set hg 0 sv', hlo, hr.set 0 _, hs⟩
theorem RdT.put1 {T : Nat} (h : RdT T w lo g rest fault) (f : Int) : RdT T (w.setCell ⟨g, 1, none⟩ (.int .i64 f)) lo g rest f := by
  obtain ⟨sv, hg, hlo, hr, hs⟩ := h
  exact ⟨sv, by simpa using blk_set hg 1 (.int .i64 f), hlo, hr.set 1 _, hs⟩
theorem rd_cut {B b o o' n' c' k : Nat} (hb : b < B) (hcell : ∀ j (h : j < rest.length), w.cell? ⟨b, o + j, none⟩ = some (bval rest[j])) (hn : n' = rest.length - k) (hk : k ≤ rest.length)
    (ho : 0 < n' → o' = o + k) (hc : n' ≤ c') (hm : c' ≤ maxLen) : Rd w B (.slice (some ⟨b, o', none⟩) n' c') (rest.drop k) := by
  refine ⟨_, c', by rw [List.length_drop, hn], by rw [List.length_drop]; omega, hm, fun h0 => ⟨b, o', rfl, hb, fun j hj => ?_⟩⟩
  rw [List.length_drop] at h0 hj
  rw [ho (by omega), Nat.add_assoc, hcell (k + j) (by omega)]
  simp
theorem rd_piece {B b o o' n n' c' k : Nat} (hb : b < B) (hcell : ∀ j (h : j < rest.length), w.cell? ⟨b, o + j, none⟩ = some (bval rest[j])) (hn : n' = n) (hk : k + n ≤ rest.length)
    (ho : 0 < n' → o' = o + k) (hc : n' ≤ c') (hm : c' ≤ maxLen) : Rd w B (.slice (some ⟨b, o', none⟩) n' c') ((rest.drop k).take n) := by
  subst hn
  have hl : ((rest.drop k).take n').length = n' := by simp; omega
  refine ⟨_, c', by rw [hl], by rw [hl]; exact hc, hm, fun h0 => ⟨b, o', rfl, hb, fun j hj => ?_⟩⟩
  rw [hl] at h0 hj
  rw [ho (by omega), Nat.add_assoc, hcell (k + j) (by omega)]
  simp

set_option maxHeartbeats 400000 in
theorem rN_any (h : Rdr w lo g rest fault) :
    Calls Tryz.prog 57 #[.pointer (some ⟨g, 0, none⟩)] w fun e w' => e = .returned (.int .u64 ((rN rest fault).1 : Nat)) ∧ Rdr w' lo g (rN rest fault).2.1 (rN rest fault).2.2 ∧ w.grownBy w' (some g) := by
  by_cases hf : fault = 0
  · have h0 := h
    obtain ⟨sv, hg, hlo, hr, hs⟩ := h
    obtain ⟨A, c, rfl, hc, hcm, hp⟩ := hr
    have c0 : w.cell? ⟨g, 0, none⟩ = some (.slice A rest.length c) := blk_cell hg 0
    have c1 : w.cell? ⟨g, 1, none⟩ = some (.int .i64 fault) := blk_cell hg 1
    have z0 : w.frozen? ⟨g, 0, none⟩ = false := blk_free hg 0
    have z1 : w.frozen? ⟨g, 1, none⟩ = false := blk_free hg 1
    by_cases hl : rest.length < 8
    · have e : rN rest fault = (0, rest, 20) := by simp [rN, hf, hl]
      rw [e]
      clear e
      have i1 : (rest.length : Int) < 8 := by omega
      go_enter Tryz.func57, Tryz.ntmps57
      go_wp2_with fail
      refine (ready_any h0 true (by simp [hf])).mono ?_
      rintro e w' ⟨rfl, rfl⟩
      go_wp2_with fail
      go_ret
      exact ⟨rfl, h0.put1 20, grown_setR _ _ _ _⟩
    · have e : rN rest fault = (beVal (rest.take 8), rest.drop 8, 0) := by simp [rN, hf, hl]
      rw [e]
      clear e
      obtain ⟨b, o, rfl, hb, hcell⟩ := hp (by omega)
      have i1 : (8 : Int) ≤ (rest.length : Int) := by omega
      have i2 : (rest.length : Int) ≤ (c : Int) := by omega
      go_enter Tryz.func57, Tryz.ntmps57
      go_wp2_with fail
      refine (ready_any h0 true (by simp [hf])).mono ?_
      rintro e w' ⟨rfl, rfl⟩
      go_wp2_with fail
      refine (high_any h0 8 (by omega) (by omega)).mono ?_
      rintro e w' ⟨rfl, rfl⟩
      go_wp2_with fail
      all_goals
        subst hf
        go_ret
        exact ⟨rfl, RdT.put0 hg hlo (rd_cut hb hcell rfl (by omega) (by omega) (by omega) (by omega)) hs, grown_setR _ _ _ _⟩
  · have e : rN rest fault = (0, rest, fault) := by simp [rN, hf]
    rw [e]
    clear e
    go_enter Tryz.func57, Tryz.ntmps57
    go_wp2_with fail
    refine (ready_any h false (by simp [hf])).mono ?_
    rintro e w' ⟨rfl, rfl⟩
    go_wp2_with fail
    go_ret
    exact ⟨rfl, h, World.grownBy.refl _ _⟩
end Go.Proofs.YtpcoonnfaoakhaaGreatDoor
namespace Go.Proofs.YtpcoonnfaoakhaaGreatDoor
set_option maxRecDepth 100000
open Go.RowKit

variable {w : World} {lo g : Nat} {rest : List UInt8} {fault : Int}

/-- what a reader answers for bytes, what is left, the fault -/
def rB (l : List UInt8) (f : Int) : List UInt8 × List UInt8 × Int :=
  if f ≠ 0 then ([], l, f) else if l.length < 4 then ([], l, 20) else if 65535 < beVal (l.take 4) then ([], l, 22)
  else if l.length < 4 + beVal (l.take 4) then ([], l, 20) else ((l.drop 4).take (beVal (l.take 4)), l.drop (4 + beVal (l.take 4)), 0)

set_option maxHeartbeats 1000000 in
theorem field_any (h : Rdr w lo g rest fault) :
    Calls Tryz.prog 123 #[.pointer (some ⟨g, 0, none⟩)] w fun e w' => ∃ v, e = .returned v ∧ Rd w' g v (rB rest fault).1 ∧ Rdr w' lo g (rB rest fault).2.1 (rB rest fault).2.2 ∧ w.grownBy w' (some g) := by
  by_cases hf : fault = 0
  · have h0 := h
    obtain ⟨sv, hg, hlo, hr, hs⟩ := h
    obtain ⟨A, c, rfl, hc, hcm, hp⟩ := hr
    have c0 : w.cell? ⟨g, 0, none⟩ = some (.slice A rest.length c) := blk_cell hg 0
    have c1 : w.cell? ⟨g, 1, none⟩ = some (.int .i64 fault) := blk_cell hg 1
    have z0 : w.frozen? ⟨g, 0, none⟩ = false := blk_free hg 0
    have z1 : w.frozen? ⟨g, 1, none⟩ = false := blk_free hg 1
    by_cases hl : rest.length < 4
    · have e : rB rest fault = ([], rest, 20) := by simp [rB, hf, hl]
      rw [e]
      clear e
      have i1 : (rest.length : Int) < 4 := by omega
      go_enter Tryz.func123, Tryz.ntmps123
      go_wp2_with fail
      refine (ready_any h0 true (by simp [hf])).mono ?_
      rintro e w' ⟨rfl, rfl⟩
      go_wp2_with fail
      go_ret
      exact ⟨_, rfl, Rd.nil _ _, h0.put1 20, grown_setR _ _ _ _⟩
    · obtain ⟨b, o, rfl, hb, hcell⟩ := hp (by omega)
      have i1 : (4 : Int) ≤ (rest.length : Int) := by omega
      have i2 : (rest.length : Int) ≤ (c : Int) := by omega
      have hbv : beVal (rest.take 4) < 256 ^ 4 := beVal_lt8 _ 4 (by simp; omega)
      have hbound : (beVal (rest.take 4) : Int) ≤ 4294967295 := by omega
      by_cases hn : 65535 < beVal (rest.take 4)
      · have e : rB rest fault = ([], rest, 22) := by simp [rB, hf, hl, hn]
        rw [e]
        clear e
        have i3 : (65535 : Int) < (beVal (rest.take 4) : Int) := by omega
        go_enter Tryz.func123, Tryz.ntmps123
        go_wp2_with fail
        refine (ready_any h0 true (by simp [hf])).mono ?_
        rintro e w' ⟨rfl, rfl⟩
        go_wp2_with fail
        refine (high_any h0 4 (by omega) (by omega)).mono ?_
        rintro e w' ⟨rfl, rfl⟩
        go_wp2_with fail
        go_ret
        exact ⟨_, rfl, Rd.nil _ _, h0.put1 22, grown_setR _ _ _ _⟩
      · by_cases hm : rest.length < 4 + beVal (rest.take 4)
        · have e : rB rest fault = ([], rest, 20) := by simp [rB, hf, hl, hn, hm]
          rw [e]
          clear e
          have i3 : (beVal (rest.take 4) : Int) ≤ 65535 := by omega
          have i4 : (rest.length : Int) < 4 + (beVal (rest.take 4) : Int) := by omega
          go_enter Tryz.func123, Tryz.ntmps123
          go_wp2_with fail
          refine (ready_any h0 true (by simp [hf])).mono ?_
          rintro e w' ⟨rfl, rfl⟩
          go_wp2_with fail
          refine (high_any h0 4 (by omega) (by omega)).mono ?_
          rintro e w' ⟨rfl, rfl⟩
          go_wp2_with fail
          go_ret
          exact ⟨_, rfl, Rd.nil _ _, h0.put1 20, grown_setR _ _ _ _⟩
        · have e : rB rest fault = ((rest.drop 4).take (beVal (rest.take 4)), rest.drop (4 + beVal (rest.take 4)), 0) := by simp [rB, hf, hl, hn, hm]
          rw [e]
          clear e
          have i3 : (beVal (rest.take 4) : Int) ≤ 65535 := by omega
          have i4 : 4 + (beVal (rest.take 4) : Int) ≤ (rest.length : Int) := by omega
          have i5 : 4 + (beVal (rest.take 4) : Int) ≤ (c : Int) := by omega
          obtain ⟨n, hn'⟩ : ∃ n, n = beVal (rest.take 4) := ⟨_, rfl⟩
          rw [← hn'] at i3 i4 i5 hbv hbound ⊢
          have HN := Lib.hid hn'
          obtain ⟨p, hp1⟩ : ∃ p, p = (rest.drop 4).take n := ⟨_, rfl⟩
          obtain ⟨q, hq1⟩ : ∃ q, q = rest.drop (4 + n) := ⟨_, rfl⟩
          rw [← hp1, ← hq1]
          have HP := Lib.hid hp1
          have HQ := Lib.hid hq1
          clear hp1 hq1
          have hm' : 4 + n ≤ rest.length := by omega
          clear hn' hm hn
          go_enter Tryz.func123, Tryz.ntmps123
          go_wp2_with fail
          refine (ready_any h0 true (by simp [hf])).mono ?_
          rintro e w' ⟨rfl, rfl⟩
          go_wp2_with fail
          refine (high_any h0 4 (by omega) (by omega)).mono ?_
          rintro e w' ⟨rfl, rfl⟩
          rw [← HN.out]
          go_wp2_with fail
          all_goals
            subst hf
            go_ret
            refine ⟨_, rfl, ?_, ?_, grown_setR _ _ _ _⟩
            · rw [HP.out]
              exact Rd.set (rd_piece hb hcell (by omega) (by omega) (by omega) (by omega) (by omega)) _ _
            · rw [HQ.out]
              exact RdT.put0 hg hlo (rd_cut hb hcell (by omega) (by omega) (by omega) (by omega) (by omega)) hs
  · have e : rB rest fault = ([], rest, fault) := by simp [rB, hf]
    rw [e]
    clear e
    go_enter Tryz.func123, Tryz.ntmps123
    go_wp2_with fail
    refine (ready_any h false (by simp [hf])).mono ?_
    rintro e w' ⟨rfl, rfl⟩
    go_wp2_with fail
    go_ret
    exact ⟨_, rfl, Rd.nil _ _, h, World.grownBy.refl _ _⟩
end Go.Proofs.YtpcoonnfaoakhaaGreatDoor
namespace Go.Proofs.YtpcoonnfaoakhaaGreatDoor
set_option maxRecDepth 100000
open Go.RowKit

theorem rB_le (l : List UInt8) (f : Int) : (rB l f).1.length ≤ 65535 := by
  unfold rB
  split
  · simp
  · split
    · simp
    · split
      · simp
      · split
        · simp
        · simp; omega

theorem grownBy_trans {w w1 w2 : World} {row : Option Nat} (h : w.grownBy w1 row) (k : w1.grownBy w2 row) : w.grownBy w2 row :=
  ⟨k.os.trans h.os, k.tape.trans h.tape, k.output.trans h.output, Nat.le_trans h.size k.size, fun i hi hne => (k.block i (Nat.lt_of_lt_of_le hi h.size) hne).trans (h.block i hi hne)⟩
theorem grownBy_of_below {w w' : World} (h : Below w.heap.size w w') (row : Option Nat) : w.grownBy w' row := ⟨h.os, h.tape, h.output, h.size, fun i hi _ => h.block i hi⟩
theorem grownBy_below {w w1 w2 : World} {row : Option Nat} (h : w.grownBy w1 row) (k : Below w1.heap.size w1 w2) : w.grownBy w2 row := grownBy_trans h (grownBy_of_below k row)

variable {w : World} {lo g : Nat} {rest : List UInt8} {fault : Int}

set_option maxHeartbeats 400000 in
theorem rdB_any (h : Rdr w lo g rest fault) :
    Calls Tryz.prog 56 #[.pointer (some ⟨g, 0, none⟩)] w fun e w' => ∃ v, e = .returned v ∧ Own w' w.heap.size v (rB rest fault).1 ∧ Rdr w' lo g (rB rest fault).2.1 (rB rest fault).2.2 ∧ w.grownBy w' (some g) := by
  obtain ⟨i0, hi, hz, hsz, hby⟩ := info_parts Tryz.infoByte
  have hle := rB_le rest fault
  go_enter Tryz.func56, Tryz.ntmps56
  go_wp2_with fail
  refine (field_any h).mono ?_
  rintro e w1 ⟨v1, rfl, hr1, hrd1, hg1⟩
  have hs1 := hg1.size
  go_wp2_with (at_builtin; refine wpList_append_rd (B := w.heap.size) rfl (.const (.slice none 0 0)) (.tmp 4) _ rfl i0 Tryz.underlying27 hi hz hsz hby rfl (Own.nil _ _) rfl hr1 (by simp; omega) hs1 ?_; intro v3 w3 ho3 hg3 _)
  go_ret
  have hb3 : Below w1.heap.size w1 w3 := (Below.refl _ _).grown hg3 (Nat.le_refl _) (by simp [Act.eval, Value.ownBlock])
  exact ⟨_, rfl, by simpa using ho3, hrd1.below hb3, grownBy_below hg1 hb3⟩

set_option maxHeartbeats 400000 in
theorem rdT_any (h : Rdr w lo g rest fault) :
    Calls Tryz.prog 136 #[.pointer (some ⟨g, 0, none⟩)] w fun e w' => e = .returned (.string ⟨(rB rest fault).1.toArray⟩) ∧ Rdr w' lo g (rB rest fault).2.1 (rB rest fault).2.2 ∧ w.grownBy w' (some g) := by
  go_enter Tryz.func136, Tryz.ntmps136
  go_wp2_with fail
  refine (field_any h).mono ?_
  rintro e w1 ⟨v1, rfl, hr1, hrd1, hg1⟩
  have hcv := run_str (P := Tryz.prog) Tryz.underlying27 Tryz.underlying5 Tryz.isString hr1
  go_wp2_with fail
  go_ret
  exact ⟨rfl, hrd1, hg1⟩

/-- what a reader answers for a flag -/
def rF (l : List UInt8) (f : Int) : Bool × List UInt8 × Int :=
  if f ≠ 0 then (false, l, f) else match l with
  | [] => (false, l, 20)
  | x :: r => if 1 < x.toNat then (false, l, 21) else (x.toNat == 1, r, 0)

set_option maxHeartbeats 1000000 in
theorem rdF_any (h : Rdr w lo g rest fault) :
    Calls Tryz.prog 137 #[.pointer (some ⟨g, 0, none⟩)] w fun e w' => e = .returned (.bool (rF rest fault).1) ∧ Rdr w' lo g (rF rest fault).2.1 (rF rest fault).2.2 ∧ w.grownBy w' (some g) := by
  by_cases hf : fault = 0
  · have h0 := h
    obtain ⟨sv, hg, hlo, hr, hs⟩ := h
    obtain ⟨A, c, rfl, hc, hcm, hp⟩ := hr
    have c0 : w.cell? ⟨g, 0, none⟩ = some (.slice A rest.length c) := blk_cell hg 0
    have c1 : w.cell? ⟨g, 1, none⟩ = some (.int .i64 fault) := blk_cell hg 1
    have z0 : w.frozen? ⟨g, 0, none⟩ = false := blk_free hg 0
    have z1 : w.frozen? ⟨g, 1, none⟩ = false := blk_free hg 1
    rcases rest with _ | ⟨x, r⟩
    · have e : rF [] fault = (false, [], 20) := by simp [rF, hf]
      rw [e]
      clear e
      go_enter Tryz.func137, Tryz.ntmps137
      go_wp2_with fail
      refine (ready_any h0 true (by simp [hf])).mono ?_
      rintro e w' ⟨rfl, rfl⟩
      go_wp2_with fail
      go_ret
      exact ⟨rfl, h0.put1 20, grown_setR _ _ _ _⟩
    · obtain ⟨b, o, rfl, hb, hcell⟩ := hp (by simp)
      have cx : w.cell? ⟨b, o, none⟩ = some (.int .u8 (x.toNat : Int)) := hcell 0 (by simp)
      simp only [List.length_cons] at c0 hc hg
      have i2 : ((r.length + 1 : Nat) : Int) ≤ (c : Int) := by omega
      have i3 : (1 : Int) ≤ ((r.length + 1 : Nat) : Int) := by omega
      have i4 : (((r.length + 1 : Nat) : Int) == 0) = false := by simp; omega
      have i5 : (0 : Int) < ((r.length + 1 : Nat) : Int) := by omega
      by_cases hx : 1 < x.toNat
      · have e : rF (x :: r) fault = (false, x :: r, 21) := by simp [rF, hf, hx]
        rw [e]
        clear e
        have j1 : (1 : Int) < (x.toNat : Int) := by omega
        go_enter Tryz.func137, Tryz.ntmps137
        go_wp2_with fail
        refine (ready_any h0 true (by simp [hf])).mono ?_
        rintro e w' ⟨rfl, rfl⟩
        go_wp2_with fail
        go_ret
        exact ⟨rfl, h0.put1 21, grown_setR _ _ _ _⟩
      · have e : rF (x :: r) fault = (x.toNat == 1, r, 0) := by simp [rF, hf, hx]
        rw [e]
        clear e
        have j1 : (x.toNat : Int) ≤ 1 := by omega
        have j2 : ((x.toNat : Int) == 1) = (x.toNat == 1) := by rw [Bool.eq_iff_iff]; simp; omega
        go_enter Tryz.func137, Tryz.ntmps137
        go_wp2_with fail
        refine (ready_any h0 true (by simp [hf])).mono ?_
        rintro e w' ⟨rfl, rfl⟩
        go_wp2_with fail
        all_goals
          subst hf
          go_ret
          exact ⟨rfl, RdT.put0 hg hlo (rd_cut (rest := x :: r) (k := 1) hb hcell (by simp) (by simp) (by intro h; omega) (by omega) (by omega)) hs, grown_setR _ _ _ _⟩
  · have e : rF rest fault = (false, rest, fault) := by simp [rF, hf]
    rw [e]
    clear e
    go_enter Tryz.func137, Tryz.ntmps137
    go_wp2_with fail
    refine (ready_any h false (by simp [hf])).mono ?_
    rintro e w' ⟨rfl, rfl⟩
    go_wp2_with fail
    go_ret
    exact ⟨rfl, h, World.grownBy.refl _ _⟩
end Go.Proofs.YtpcoonnfaoakhaaGreatDoor
namespace Go.Proofs.YtpcoonnfaoakhaaGreatDoor
set_option maxRecDepth 100000
open Go.RowKit

variable {w : World} {lo g : Nat} {rest : List UInt8} {fault : Int}

theorem rdErr_any (h : Rdr w lo g rest fault) :
    Calls Tryz.prog 126 #[.pointer (some ⟨g, 0, none⟩)] w fun e w' => e = .returned (.int .i64 fault) ∧ w = w' := by
  obtain ⟨sv, hg, hlo, hr, hs⟩ := h
  have c1 : w.cell? ⟨g, 1, none⟩ = some (.int .i64 fault) := blk_cell hg 1
  go_enter Tryz.func126, Tryz.ntmps126
  go_wp2
  go_ret
  exact ⟨rfl, rfl⟩

/-- a reader's last word -/
def rEnd (l : List UInt8) (f : Int) : Int := if f ≠ 0 then f else if 0 < l.length then 23 else 0

set_option maxHeartbeats 400000 in
theorem rdEnd_any (h : Rdr w lo g rest fault) :
    Calls Tryz.prog 58 #[.pointer (some ⟨g, 0, none⟩)] w fun e w' => e = .returned (.int .i64 (rEnd rest fault)) ∧ w = w' := by
  have h0 := h
  obtain ⟨sv, hg, hlo, ⟨A, c, rfl, hc, hcm, hp⟩, hs⟩ := h
  have c0 : w.cell? ⟨g, 0, none⟩ = some (.slice A rest.length c) := blk_cell hg 0
  unfold rEnd
  by_cases hf : fault = 0
  · subst hf
    by_cases hl : 0 < rest.length
    · have j : (0 : Int) < (rest.length : Int) := by omega
      rw [if_neg (by simp), if_pos hl]
      go_enter Tryz.func58, Tryz.ntmps58
      go_wp2_with fail
      refine (rdErr_any h0).mono ?_
      rintro e w' ⟨rfl, rfl⟩
      go_wp2_with fail
      go_ret
      exact ⟨rfl, rfl⟩
    · have j : ¬ (0 : Int) < (rest.length : Int) := by omega
      rw [if_neg (by simp), if_neg hl]
      go_enter Tryz.func58, Tryz.ntmps58
      go_wp2_with fail
      refine (rdErr_any h0).mono ?_
      rintro e w' ⟨rfl, rfl⟩
      go_wp2_with fail
      go_ret
      exact ⟨rfl, rfl⟩
  · have j : (fault != 0) = true := by simp [hf]
    rw [if_pos hf]
    go_enter Tryz.func58, Tryz.ntmps58
    go_wp2_with fail
    refine (rdErr_any h0).mono ?_
    rintro e w' ⟨rfl, rfl⟩
    go_wp2_with fail
    go_ret
    exact ⟨rfl, rfl⟩

/-- what a reader answers for a count -/
def rC (most : Int) (l : List UInt8) (f : Int) : Int × List UInt8 × Int :=
  if f ≠ 0 then (0, l, f) else if l.length < 8 then (0, l, 20) else if most < 0 ∨ most < (beVal (l.take 8) : Int) then (0, l, 22) else ((beVal (l.take 8) : Int), l.drop 8, 0)

set_option maxHeartbeats 400000 in
theorem open_rd (v : Value) (l : List UInt8) (w : World) (hr : Rd w w.heap.size v l) (hl : l.length ≤ 140737488355320) :
    Calls Tryz.prog 55 #[v] w fun e w' => ∃ g, e = .returned (.pointer (some ⟨g, 0, none⟩)) ∧ Rdr w' w.heap.size g l 0 ∧ Below w.heap.size w w' := by
  go_enter Tryz.func55, Tryz.ntmps55
  go_wp2_with fail
  refine (clone_any v l w hr hl).mono ?_
  rintro e w1 ⟨v1, rfl, ho1, hb1⟩
  obtain ⟨A, c, rfl⟩ := ho1.form
  go_wp2_with fail
  go_ret
  refine ⟨_, rfl, ⟨_, heap_alloc_new _ _, hb1.size, (ho1.rd).alloc (Nat.le_refl _) _, fun k hk => (ho1.lt k hk).1⟩, hb1.alloc hb1.size _⟩
end Go.Proofs.YtpcoonnfaoakhaaGreatDoor
namespace Go.Proofs.YtpcoonnfaoakhaaGreatDoor
set_option maxRecDepth 100000
open Go.RowKit

variable {w : World} {lo g : Nat} {rest : List UInt8} {fault : Int}

set_option maxHeartbeats 400000 in
theorem dnumber_any (v : Value) (l : List UInt8) (w : World) (h : Rd w w.heap.size v l) (hl : l.length ≤ 8) :
    Calls Tryz.prog 144 #[v] w fun e w' => e = .returned (.int .u64 (beVal l : Nat)) ∧ w = w' := by
  obtain ⟨A, c, rfl, hc, hcm, hp⟩ := h
  go_enter Tryz.func144, Tryz.ntmps144
  go_wp2
  go_loop [3, 4] (fun n i => ∃ k : Nat, k ≤ l.length ∧ i = .int .i64 (k : Int) ∧ n = .int .u64 (beVal (l.take k) : Nat)) (fun _ i => l.length - (intOf i).toNat)
  case atStart => exact ⟨0, Nat.zero_le _, rfl, by simp [beVal]⟩
  case round =>
    obtain ⟨k, hk, rfl, rfl⟩ := hrel
    by_cases hlt : k < l.length
    · obtain ⟨b, o, rfl, hb, hcell⟩ := hp (by omega)
      have c1 : w.cell? ⟨b, o + k, none⟩ = some (.int .u8 (l[k].toNat : Int)) := hcell k (by omega)
      have hlt2 : beVal (l.take k) < 256 ^ 7 := beVal_lt8 _ 7 (by simp; omega)
      have hx := l[k].toNat_lt
      have i1 : (0 : Int) ≤ (k : Int) := by omega
      have i2 : (k : Int) < (l.length : Int) := by omega
      have hsn : beVal (l.take (k + 1)) = beVal (l.take k) * 256 + l[k].toNat := by rw [List.take_succ_eq_append_getElem (by omega), beVal_snoc]
      have HS := Lib.hid hsn
      clear hsn hcell hp
      go_wp2
      refine ⟨⟨k + 1, by omega, by go_num, ?_⟩, by simp [intOf]; omega⟩
      rw [HS.out]
      congr 1
      try simp only [IntKind.wrap_u64]
      omega
    · have hk' : ¬ (k : Int) < (l.length : Int) := by omega
      obtain rfl : k = l.length := by omega
      go_wp2
      go_ret
      exact ⟨by simp, rfl⟩

theorem take_bad (h : Ddr w lo g rest fault) (hf : fault ≠ 0) (n : Int) :
    Calls Tryz.prog 143 #[.pointer (some ⟨g, 0, none⟩), .int .i64 n] w fun e w' => e = .returned (.tuple #[.slice none 0 0, .bool false]) ∧ w = w' := by
  obtain ⟨sv, hg, hlo, hr, hs⟩ := h
  have c1 : w.cell? ⟨g, 1, none⟩ = some (.int .i64 fault) := blk_cell hg 1
  have j : (fault != 0) = true := by simp [hf]
  go_enter Tryz.func143, Tryz.ntmps143
  go_wp2
  go_ret2
  exact ⟨rfl, rfl⟩

theorem take_short (h : Ddr w lo g rest 0) (n : Nat) (hn : rest.length < n) :
    Calls Tryz.prog 143 #[.pointer (some ⟨g, 0, none⟩), .int .i64 (n : Int)] w fun e w' => e = .returned (.tuple #[.slice none 0 0, .bool false]) ∧ w.setCell ⟨g, 1, none⟩ (.int .i64 20) = w' := by
  obtain ⟨sv, hg, hlo, ⟨A, c, rfl, hc, hcm, hp⟩, hs⟩ := h
  have c0 : w.cell? ⟨g, 0, none⟩ = some (.slice A rest.length c) := blk_cell hg 0
  have c1 : w.cell? ⟨g, 1, none⟩ = some (.int .i64 0) := blk_cell hg 1
  have z1 : w.frozen? ⟨g, 1, none⟩ = false := blk_free hg 1
  have j : (rest.length : Int) < (n : Int) := by omega
  go_enter Tryz.func143, Tryz.ntmps143
  go_wp2
  go_ret2
  exact ⟨rfl, rfl⟩

/-- what a take that goes leaves -/
def TakeOk (w : World) (lo g : Nat) (rest : List UInt8) (n : Nat) (e : Ending) (w' : World) : Prop :=
  ∃ A c sv', e = .returned (.tuple #[.slice A n c, .bool true]) ∧ w.setCell ⟨g, 0, none⟩ sv' = w' ∧ Rd w g (.slice A n c) (rest.take n) ∧ Rd w g sv' (rest.drop n) ∧ (∀ k, sv'.ownBlock = some k → lo ≤ k)

set_option maxHeartbeats 400000 in
theorem take_ok (h : Ddr w lo g rest 0) (n : Nat) (hn : n ≤ rest.length) :
    Calls Tryz.prog 143 #[.pointer (some ⟨g, 0, none⟩), .int .i64 (n : Int)] w (TakeOk w lo g rest n) := by
  obtain ⟨sv, hg, hlo, ⟨A, c, rfl, hc, hcm, hp⟩, hs⟩ := h
  have c0 : w.cell? ⟨g, 0, none⟩ = some (.slice A rest.length c) := blk_cell hg 0
  have c1 : w.cell? ⟨g, 1, none⟩ = some (.int .i64 0) := blk_cell hg 1
  have z0 : w.frozen? ⟨g, 0, none⟩ = false := blk_free hg 0
  have j : (n : Int) ≤ (rest.length : Int) := by omega
  have j2 : (n : Int) ≤ (c : Int) := by omega
  by_cases h0 : rest.length = 0
  · obtain rfl : rest = [] := List.eq_nil_of_length_eq_zero h0
    obtain rfl : n = 0 := by simpa using hn
    clear j j2
    have j2 : (0 : Int) ≤ (c : Int) := by omega
    go_enter Tryz.func143, Tryz.ntmps143
    go_wp2
    go_ret2
    refine ⟨_, _, _, rfl, rfl, rd_empty hcm, rd_empty (by omega), by simpa [Value.ownBlock] using hs⟩
  · obtain ⟨b, o, rfl, hb, hcell⟩ := hp (by omega)
    have key : ∀ c', n ≤ c' → c' ≤ maxLen → Rd w g (.slice (some ⟨b, o, none⟩) n c') (rest.take n) := fun c' h1 h2 => by
      simpa using rd_piece (k := 0) (n := n) hb hcell rfl (by omega) (by intro _; rfl) h1 h2
    have KEY := Lib.hid key
    clear key
    go_enter Tryz.func143, Tryz.ntmps143
    go_wp2
    all_goals
      go_ret2
      exact ⟨_, _, _, rfl, rfl, KEY.out _ (by omega) (by omega), rd_cut (k := n) hb hcell (by omega) (by omega) (by intro h; omega) (by omega) (by omega), hs⟩

/-! ### the document's N, B, F, Count -/
set_option maxHeartbeats 400000 in
theorem dN_any (h : Ddr w lo g rest fault) :
    Calls Tryz.prog 78 #[.pointer (some ⟨g, 0, none⟩)] w fun e w' => e = .returned (.int .u64 ((rN rest fault).1 : Nat)) ∧ Ddr w' lo g (rN rest fault).2.1 (rN rest fault).2.2 ∧ w.grownBy w' (some g) := by
  by_cases hf : fault = 0
  · subst hf
    by_cases hl : rest.length < 8
    · have e : rN rest 0 = (0, rest, 20) := by simp [rN, hl]
      rw [e]
      clear e
      go_enter Tryz.func78, Tryz.ntmps78
      go_wp2_with fail
      refine (take_short h 8 hl).mono ?_
      rintro e w' ⟨rfl, rfl⟩
      go_wp2_with fail
      go_ret
      exact ⟨rfl, h.put1 20, grown_setR _ _ _ _⟩
    · have e : rN rest 0 = (beVal (rest.take 8), rest.drop 8, 0) := by simp [rN, hl]
      rw [e]
      clear e
      obtain ⟨sv, hg, hlo, hr, hs⟩ := id h
      go_enter Tryz.func78, Tryz.ntmps78
      go_wp2_with fail
      refine (take_ok h 8 (by omega)).mono ?_
      rintro e w' ⟨A, c, sv', rfl, rfl, hx, hd, hs'⟩
      have hlt := blk_lt hg
      have hx' : Rd (w.setCell ⟨g, 0, none⟩ sv') (w.setCell ⟨g, 0, none⟩ sv').heap.size (.slice A 8 c) (rest.take 8) := (hx.set 0 _).more (by simp [World.setCell]; omega)
      go_wp2_with fail
      refine (dnumber_any _ _ _ hx' (by simp; omega)).mono ?_
      rintro e w' ⟨rfl, rfl⟩
      go_wp2_with fail
      go_ret
      exact ⟨rfl, RdT.put0 hg hlo hd hs', grown_setR _ _ _ _⟩
  · have e : rN rest fault = (0, rest, fault) := by simp [rN, hf]
    rw [e]
    clear e
    go_enter Tryz.func78, Tryz.ntmps78
    go_wp2_with fail
    refine (take_bad h hf 8).mono ?_
    rintro e w' ⟨rfl, rfl⟩
    go_wp2_with fail
    go_ret
    exact ⟨rfl, h, World.grownBy.refl _ _⟩
end Go.Proofs.YtpcoonnfaoakhaaGreatDoor
namespace Go.Proofs.YtpcoonnfaoakhaaGreatDoor
set_option maxRecDepth 100000
open Go.RowKit

variable {w : World} {lo g : Nat} {rest : List UInt8} {fault : Int}

end Go.Proofs.YtpcoonnfaoakhaaGreatDoor
namespace Go.Proofs.YtpcoonnfaoakhaaGreatDoor
set_option maxRecDepth 100000
open Go.RowKit

variable {w : World} {lo g : Nat} {rest : List UInt8} {fault : Int}

theorem Rd.grown {w w' : World} {g : Nat} {v : Value} {l : List UInt8} (h : Rd w g v l) (hg : w.grownBy w' (some g)) (hlt : g ≤ w.heap.size) : Rd w' g v l :=
  h.keep fun p hp => World.cell?_of_block (hg.block p.block (by omega) (by intro e; injection e with e; omega))

set_option maxHeartbeats 400000 in
theorem open_dd (v : Value) (l : List UInt8) (w : World) (hr : Rd w w.heap.size v l) (hl : l.length ≤ 140737488355320) :
    Calls Tryz.prog 77 #[v] w fun e w' => ∃ g, e = .returned (.pointer (some ⟨g, 0, none⟩)) ∧ Ddr w' w.heap.size g l 0 ∧ Below w.heap.size w w' := by
  obtain ⟨i0, hi, hz, hsz, hby⟩ := info_parts Tryz.infoByte
  have hbe : Below w.heap.size w (w.alloc (.cells #[] 5)) := (Below.refl _ _).alloc (Nat.le_refl _) _
  go_enter Tryz.func77, Tryz.ntmps77
  go_wp2_with (at_builtin; refine wpList_append_rd rfl (.tmp 3) (.tmp 4) _ rfl i0 Tryz.underlying27 hi hz hsz hby rfl (own_empty w (Nat.le_refl _)) rfl (hr.below hbe) (by simp; omega) hbe.size ?_; intro v1 w1 ho1 hg1 _; have hb1 : Below w.heap.size w w1 := Own.below_grown hbe (own_empty w (Nat.le_refl _)) (Nat.le_refl _) hbe.size hg1; clear hg1; simp only [List.nil_append] at ho1; obtain ⟨A1, c1, rfl⟩ := ho1.form)
  go_ret
  refine ⟨_, rfl, ⟨_, heap_alloc_new _ _, hb1.size, (ho1.rd).alloc (Nat.le_refl _) _, fun k hk => (ho1.lt k hk).1⟩, hb1.alloc hb1.size _⟩
end Go.Proofs.YtpcoonnfaoakhaaGreatDoor
namespace Go.Proofs.YtpcoonnfaoakhaaGreatDoor
set_option maxRecDepth 100000
open Go.RowKit

set_option maxHeartbeats 400000 in
theorem refN_any (v : Value) (l : List UInt8) (n : Nat) (w : World) (hr : Rd w w.heap.size v l) (hn : n < 18446744073709551616) (hl : l.length ≤ 140737488355320) :
    Calls Tryz.prog 74 #[v, .int .u64 (n : Int)] w fun e w' => ∃ v', e = .returned v' ∧ Own w' w.heap.size v' (l ++ be n 8) ∧ Below w.heap.size w w' := by
  obtain ⟨i0, hi, hz, hsz, hby⟩ := info_parts Tryz.infoByte
  go_enter Tryz.func74, Tryz.ntmps74
  have hbe : Below w.heap.size w (w.alloc (.cells #[] 5)) := (Below.refl _ _).alloc (Nat.le_refl _) _
  go_wp2_with (at_builtin; refine wpList_append_rd rfl (.tmp 7) (.tmp 8) _ rfl i0 Tryz.underlying27 hi hz hsz hby rfl (own_empty w (Nat.le_refl _)) rfl (hr.below hbe) (by simp; omega) hbe.size ?_; intro v1 w1 ho1 hg1 _)
  have hb1 : Below w.heap.size w w1 := Own.below_grown hbe (own_empty w (Nat.le_refl _)) (Nat.le_refl _) hbe.size hg1
  clear hg1 hbe
  go_loopw [5, 6] (fun b i wr => ∃ (r : Nat) (dn : List UInt8), dn.length + r = 8 ∧ i = .int .i64 ((r : Int) - 1) ∧ dn ++ be n r = be n 8 ∧ Own wr w.heap.size b (l ++ dn) ∧ Below w.heap.size w wr)
    (fun _ i _ => (intOf i + 1).toNat)
  case atStart => exact ⟨8, [], rfl, rfl, rfl, by simpa using ho1, hb1⟩
  case round =>
    obtain ⟨r, dn, hdn, rfl, hbe, ho, hbw⟩ := hrel
    have HD := Lib.hid hdn
    have HB := Lib.hid hbe
    have hr8 : r ≤ 8 := by omega
    clear hdn hbe
    by_cases h0 : r = 0
    · subst h0
      go_wp2
      go_ret
      refine ⟨_, rfl, ?_, hbw⟩
      have := HB.out
      rw [show be n 0 = [] from rfl, List.append_nil] at this
      rw [← this]
      exact ho
    · obtain ⟨q, rfl⟩ : ∃ q, r = q + 1 := ⟨r - 1, by omega⟩
      have hdl : dn.length ≤ 7 := by have := HD.out; omega
      go_wp2_with (at_builtin; refine wpList_append_rd rfl (.tmp 14) (.tmp 21) _ rfl i0 Tryz.underlying27 hi hz hsz hby rfl (ho.alloc _) rfl (rd_lit wr _ [UInt8.ofNat (n / 2 ^ (8 * q))] 1 rfl (by simp [bcells, bval]) (by simp [maxLen])) (by simp; omega) (by have := hbw.size; simp; omega) ?_; intro v1 w1 ho1 hg1 _)
      have hb1 : Below w.heap.size w w1 := Own.below_grown (hbw.alloc (by have := hbw.size; omega) _) (ho.alloc _) (Nat.le_refl _) (by have := hbw.size; simp; omega) hg1
      clear hg1 ho hbw
      go_roundw
      case rel => exact ⟨q, dn ++ [UInt8.ofNat (n / 2 ^ (8 * q))], by have := HD.out; simp; omega, by go_num, by have := HB.out; rw [← this, List.append_assoc]; rfl, by rw [← List.append_assoc]; exact ho1, hb1⟩
      case measure => first | (simp [intOf]; done) | (simp [intOf]; omega)


end Go.Proofs.YtpcoonnfaoakhaaGreatDoor
namespace Go.Proofs.YtpcoonnfaoakhaaGreatDoor
set_option maxRecDepth 100000
open Go.RowKit

end Go.Proofs.YtpcoonnfaoakhaaGreatDoor
namespace Go.Proofs.YtpcoonnfaoakhaaGreatDoor
set_option maxRecDepth 100000
open Go.RowKit

end Go.Proofs.YtpcoonnfaoakhaaGreatDoor
namespace Go.Proofs.YtpcoonnfaoakhaaGreatDoor
set_option maxRecDepth 100000

end Go.Proofs.YtpcoonnfaoakhaaGreatDoor
namespace Go.Proofs.YtpcoonnfaoakhaaGreatDoor
set_option maxRecDepth 100000

/-- the form of what is put -/
def encB (m : List UInt8) : List UInt8 := be (m.take 65535).length 4 ++ m.take 65535
end Go.Proofs.YtpcoonnfaoakhaaGreatDoor
namespace Go.Proofs.YtpcoonnfaoakhaaGreatDoor
set_option maxRecDepth 100000
open Go Go.RowKit
set_option linter.unusedVariables false

end Go.Proofs.YtpcoonnfaoakhaaGreatDoor
namespace Go.Proofs.YtpcoonnfaoakhaaGreatDoor
set_option maxRecDepth 100000
open Go Go.RowKit
set_option linter.unusedVariables false

theorem set3P {w : World} {g : Nat} {x0 x1 x2 : Value} {t : TypeId} (h : w.heap[g]? = some (.cells #[x0, x1, x2] t (0, 0))) (y0 y1 y2 : Value) : (((w.setCell ⟨g, 0, none⟩ y0).setCell ⟨g, 1, none⟩ y1).setCell ⟨g, 2, none⟩ y2).heap[g]? = some (.cells #[y0, y1, y2] t (0, 0)) := by
  simpa using (blk_set (blk_set (blk_set h 0 y0) 1 y1) 2 y2)
theorem below_set3P {B : Nat} {w w' : World} {g : Nat} (h : Below B w w') (hg : B ≤ g) (y0 y1 y2 : Value) : Below B w (((w'.setCell ⟨g, 0, none⟩ y0).setCell ⟨g, 1, none⟩ y1).setCell ⟨g, 2, none⟩ y2) := (((h.setCell hg y0).setCell hg y1).setCell hg y2)
theorem set4P {w : World} {g : Nat} {x0 x1 x2 x3 : Value} {t : TypeId} (h : w.heap[g]? = some (.cells #[x0, x1, x2, x3] t (0, 0))) (y0 y1 y2 y3 : Value) : ((((w.setCell ⟨g, 0, none⟩ y0).setCell ⟨g, 1, none⟩ y1).setCell ⟨g, 2, none⟩ y2).setCell ⟨g, 3, none⟩ y3).heap[g]? = some (.cells #[y0, y1, y2, y3] t (0, 0)) := by
  simpa using (blk_set (blk_set (blk_set (blk_set h 0 y0) 1 y1) 2 y2) 3 y3)
theorem below_set4P {B : Nat} {w w' : World} {g : Nat} (h : Below B w w') (hg : B ≤ g) (y0 y1 y2 y3 : Value) : Below B w ((((w'.setCell ⟨g, 0, none⟩ y0).setCell ⟨g, 1, none⟩ y1).setCell ⟨g, 2, none⟩ y2).setCell ⟨g, 3, none⟩ y3) := ((((h.setCell hg y0).setCell hg y1).setCell hg y2).setCell hg y3)
theorem set6P {w : World} {g : Nat} {x0 x1 x2 x3 x4 x5 : Value} {t : TypeId} (h : w.heap[g]? = some (.cells #[x0, x1, x2, x3, x4, x5] t (0, 0))) (y0 y1 y2 y3 y4 y5 : Value) : ((((((w.setCell ⟨g, 0, none⟩ y0).setCell ⟨g, 1, none⟩ y1).setCell ⟨g, 2, none⟩ y2).setCell ⟨g, 3, none⟩ y3).setCell ⟨g, 4, none⟩ y4).setCell ⟨g, 5, none⟩ y5).heap[g]? = some (.cells #[y0, y1, y2, y3, y4, y5] t (0, 0)) := by
  simpa using (blk_set (blk_set (blk_set (blk_set (blk_set (blk_set h 0 y0) 1 y1) 2 y2) 3 y3) 4 y4) 5 y5)
theorem below_set6P {B : Nat} {w w' : World} {g : Nat} (h : Below B w w') (hg : B ≤ g) (y0 y1 y2 y3 y4 y5 : Value) : Below B w ((((((w'.setCell ⟨g, 0, none⟩ y0).setCell ⟨g, 1, none⟩ y1).setCell ⟨g, 2, none⟩ y2).setCell ⟨g, 3, none⟩ y3).setCell ⟨g, 4, none⟩ y4).setCell ⟨g, 5, none⟩ y5) := ((((((h.setCell hg y0).setCell hg y1).setCell hg y2).setCell hg y3).setCell hg y4).setCell hg y5)
/-- made at w0: the result's block gr, the struct's block gd, the reader g -/
structure PZ (T : Nat) (w0 : World) (gr gd lo g : Nat) (tr td : TypeId) (cr cd : Array Value) (rest : List UInt8) (fault : Int) (W : World) : Prop where
  below : Below w0.heap.size w0 W
  hr : w0.heap.size ≤ gr
  hd : w0.heap.size ≤ gd
  res : W.heap[gr]? = some (.cells cr tr (0, 0))
  loc : W.heap[gd]? = some (.cells cd td (0, 0))
  rd : RdT T W lo g rest fault
  o1 : gr < lo
  o2 : g < gd
section
variable {T : Nat} {w0 W W' : World} {gr gd lo g : Nat} {tr td : TypeId} {cr cd : Array Value} {rest rest' : List UInt8} {fault fault' : Int}
theorem PZ.lo' (h : PZ T w0 gr gd lo g tr td cr cd rest fault W) : gr < g := Nat.lt_of_lt_of_le h.o1 h.rd.from_
theorem PZ.up (h : PZ T w0 gr gd lo g tr td cr cd rest fault W) (hb : Below W.heap.size W W') : PZ T w0 gr gd lo g tr td cr cd rest fault W' where
  below := below_chain h.below h.below.size hb
  hr := h.hr
  hd := h.hd
  res := (hb.block _ (blk_lt h.res)).trans h.res
  loc := (hb.block _ (blk_lt h.loc)).trans h.loc
  rd := h.rd.below hb
  o1 := h.o1
  o2 := h.o2
theorem PZ.call (h : PZ T w0 gr gd lo g tr td cr cd rest fault W) (hg : W.grownBy W' (some g)) (hr : RdT T W' lo g rest' fault') : PZ T w0 gr gd lo g tr td cr cd rest' fault' W' where
  below := h.below.grown hg h.below.size (fun k hk => by injection hk with hk; have := h.lo'; have := h.hr; omega)
  hr := h.hr
  hd := h.hd
  res := (hg.block _ (blk_lt h.res) (fun e => by injection e with e; have := h.lo'; omega)).trans h.res
  loc := (hg.block _ (blk_lt h.loc) (fun e => by injection e with e; have := h.o2; omega)).trans h.loc
  rd := hr
  o1 := h.o1
  o2 := h.o2
theorem PZ.set (h : PZ T w0 gr gd lo g tr td cr cd rest fault W) (i : Nat) (u : Value) : PZ T w0 gr gd lo g tr td cr (cd.setIfInBounds i u) rest fault (W.setCell ⟨gd, i, none⟩ u) where
  below := h.below.setCell h.hd u
  hr := h.hr
  hd := h.hd
  res := (Below.heap_setCell W ⟨gd, i, none⟩ u gr (by have := h.lo'; have := h.o2; show gr ≠ gd; omega)).trans h.res
  loc := blk_set h.loc i u
  rd := h.rd.grown (grown_setR W gd i u) (Or.inr h.o2)
  o1 := h.o1
  o2 := h.o2
theorem PZ.other (h : PZ T w0 gr gd lo g tr td cr cd rest fault W) {gu : Nat} (hu : gd < gu) (i : Nat) (u : Value) : PZ T w0 gr gd lo g tr td cr cd rest fault (W.setCell ⟨gu, i, none⟩ u) where
  below := h.below.setCell (by have := h.hd; show w0.heap.size ≤ gu; omega) u
  hr := h.hr
  hd := h.hd
  res := (Below.heap_setCell W ⟨gu, i, none⟩ u gr (by have := h.lo'; have := h.o2; show gr ≠ gu; omega)).trans h.res
  loc := (Below.heap_setCell W ⟨gu, i, none⟩ u gd (by show gd ≠ gu; omega)).trans h.loc
  rd := h.rd.grown (grown_setR W gu i u) (Or.inr (by have := h.o2; omega))
  o1 := h.o1
  o2 := h.o2
theorem PZ.drew (h : PZ T w0 gr gd lo g tr td cr cd rest fault W) : PZ T w0 gr gd lo g tr td cr cd rest fault W.drew := h.up (Below.drew (Below.refl _ _))
theorem PZ.alloc (h : PZ T w0 gr gd lo g tr td cr cd rest fault W) (o : Obj) : PZ T w0 gr gd lo g tr td cr cd rest fault (W.alloc o) := h.up ((Below.refl _ _).alloc (Nat.le_refl _) o)
/-- the result's block, all cells stored -/
theorem PZ.out (h : PZ T w0 gr gd lo g tr td cr cd rest fault W) : Below w0.heap.size w0 W := h.below
end
end Go.Proofs.YtpcoonnfaoakhaaGreatDoor
namespace Go.Proofs.YtpcoonnfaoakhaaGreatDoor
set_option maxRecDepth 100000
open Go Go.RowKit
set_option linter.unusedVariables false

/-- a field, read out of a struct, is equal to itself -/
def SelfF (xs : Array Value) (f : Field) : Prop := ∃ a, (∀ w, (part f.type xs f.offset).run Tryz.prog w = .ok a w) ∧ ∀ w, (Op.equalIn 9999 f.type a a).run Tryz.prog w = .ok true w
end Go.Proofs.YtpcoonnfaoakhaaGreatDoor
namespace Go.Proofs.YtpcoonnfaoakhaaGreatDoor
set_option maxRecDepth 100000
open Go Go.RowKit
set_option linter.unusedVariables false

/-- a number in a key: sixteen digits -/
def hexN (n : Nat) : ByteArray := ⟨(hexOf (be n 8)).toArray⟩
theorem hexOf_len (l : List UInt8) : (hexOf l).length = 2 * l.length := by
  induction l with
  | nil => rfl
  | cons x l ih =>
    unfold hexOf at *
    simp [hex2, ih]
    omega
theorem hexN_size (n : Nat) : (hexN n).size = 16 := by
  show (hexOf (be n 8)).length = 16
  rw [hexOf_len, be_length]
theorem chex_any (n : Nat) (w : World) (hn : n < 18446744073709551616) : Calls Tryz.prog 21 #[.int .u64 (n : Int)] w fun e w' => e = .returned (.string (hexN n)) ∧ Below w.heap.size w w' := by
  have HN := Lib.hid (N_any (.slice none 0 0) [] n w (Rd.nil _ _) hn (by simp))
  have HH : Hid (∀ (v : Value) (W : World) (B : Nat), Own W B v (be n 8) → Calls Tryz.prog 71 #[v] W fun e w' => e = .returned (.string (hexN n)) ∧ Below W.heap.size W w') := Lib.hid fun v W B h => hex_any v _ W h.rd (by simp [be_length])
  rw [List.nil_append] at HN
  generalize be n 8 = L at *
  generalize hexN n = S at *
  go_enter Tryz.func21, Tryz.ntmps21
  go_wp2_with fail
  refine HN.out.mono ?_
  rintro e w1 ⟨v, rfl, ho, hb1⟩
  have H2 := Lib.hid (HH.out _ _ _ ho)
  obtain ⟨A, c, rfl⟩ := ho.form
  go_wp2_with fail
  refine H2.out.mono ?_
  rintro e w2 ⟨rfl, hb2⟩
  go_wp2_with fail
  go_ret
  exact ⟨rfl, below_chain hb1 hb1.size hb2⟩
theorem rchex_any (n : Nat) (w : World) (hn : n < 18446744073709551616) : Calls Tryz.prog 22 #[.int .u64 (n : Int)] w fun e w' => e = .returned (.string (hexN n)) ∧ Below w.heap.size w w' := by
  have HN := Lib.hid (refN_any (.slice none 0 0) [] n w (Rd.nil _ _) hn (by simp))
  have HH : Hid (∀ (v : Value) (W : World) (B : Nat), Own W B v (be n 8) → Calls Tryz.prog 73 #[v] W fun e w' => e = .returned (.string (hexN n)) ∧ Below W.heap.size W w') := Lib.hid fun v W B h => refHex_any v _ W h.rd (by simp [be_length])
  rw [List.nil_append] at HN
  generalize be n 8 = L at *
  generalize hexN n = S at *
  go_enter Tryz.func22, Tryz.ntmps22
  go_wp2_with fail
  refine HN.out.mono ?_
  rintro e w1 ⟨v, rfl, ho, hb1⟩
  have H2 := Lib.hid (HH.out _ _ _ ho)
  obtain ⟨A, c, rfl⟩ := ho.form
  go_wp2_with fail
  refine H2.out.mono ?_
  rintro e w2 ⟨rfl, hb2⟩
  go_wp2_with fail
  go_ret
  exact ⟨rfl, below_chain hb1 hb1.size hb2⟩
def ibcS : ByteArray := ⟨#[105, 98, 99, 47]⟩
/-- where something of a packet is kept -/
def kPl (what a : ByteArray) (n : Nat) : ByteArray := ((((ibcS ++ what) ++ slB) ++ a) ++ slB) ++ hexN n
def wCommit : ByteArray := ⟨#[99, 111, 109, 109, 105, 116]⟩
def rCommitP : ByteArray := ⟨#[105, 98, 99, 47, 99, 111, 109, 109, 105, 116, 47]⟩
def wReceipt : ByteArray := ⟨#[114, 101, 99, 101, 105, 112, 116]⟩
def rReceiptP : ByteArray := ⟨#[105, 98, 99, 47, 114, 101, 99, 101, 105, 112, 116, 47]⟩
def wAckKey : ByteArray := ⟨#[97, 99, 107]⟩
def rAckKeyP : ByteArray := ⟨#[105, 98, 99, 47, 97, 99, 107, 47]⟩
def wSent : ByteArray := ⟨#[115, 101, 110, 116]⟩
def rSentP : ByteArray := ⟨#[105, 98, 99, 47, 115, 101, 110, 116, 47]⟩
def wTold : ByteArray := ⟨#[116, 111, 108, 100]⟩
def rToldP : ByteArray := ⟨#[105, 98, 99, 47, 116, 111, 108, 100, 47]⟩
end Go.Proofs.YtpcoonnfaoakhaaGreatDoor
namespace Go.Proofs.YtpcoonnfaoakhaaGreatDoor
set_option maxRecDepth 100000
open Go Go.RowKit
set_option linter.unusedVariables false

structure PktV where
  src : ByteArray
  dst : ByteArray
  seq : Nat
  data : List UInt8
  ht : Nat
  tm : Nat
def PktV.none : PktV := ⟨⟨#[]⟩, ⟨#[]⟩, 0, [], 0, 0⟩
def PktV.val (p : PktV) (vd : Value) : Value := .agg #[.string p.src, .string p.dst, .int .u64 (p.seq : Int), vd, .int .u64 (p.ht : Int), .int .u64 (p.tm : Int)]
def readP (l : List UInt8) : Option PktV :=
  match rB l 0 with
  | (sa, l1, f1) => match rB l1 f1 with
    | (sb, l2, f2) => match rN l2 f2 with
      | (sq, l3, f3) => match rB l3 f3 with
        | (dt, l4, f4) => match rN l4 f4 with
          | (ht, l5, f5) => match rN l5 f5 with
            | (tm, l6, f6) => if rEnd l6 f6 = 0 then some ⟨⟨sa.toArray⟩, ⟨sb.toArray⟩, sq, dt, ht, tm⟩ else Option.none
theorem rN_ltP (l : List UInt8) (f : Int) : (rN l f).1 < 18446744073709551616 := by
  unfold rN
  split
  · show 0 < _; omega
  · split
    · show 0 < _; omega
    · have := beVal_lt8 (l.take 8) 8 (by simp; omega)
      show beVal (l.take 8) < _
      omega
end Go.Proofs.YtpcoonnfaoakhaaGreatDoor
namespace Go.Proofs.YtpcoonnfaoakhaaGreatDoor
set_option maxRecDepth 100000
open Go Go.RowKit
set_option linter.unusedVariables false

def encS (s : ByteArray) : List UInt8 := encB (strBytes s)
theorem encB_lenP (m : List UInt8) : (encB m).length ≤ 65539 := by
  unfold encB
  simp [be_length]
  omega
theorem TS0 (v : Value) (s : ByteArray) (l : List UInt8) (Z : World) (hr : Rd Z Z.heap.size v l) (hs : s.size ≤ maxLen) (hl : l.length ≤ 140737488355328 - 65539) :
    Calls Tryz.prog 84 #[v, .string s] Z fun e w' => ∃ v', e = .returned v' ∧ Own w' Z.heap.size v' (l ++ encS s) ∧ Below Z.heap.size Z w' :=
  (T_any v s l Z hr hs hl).mono fun e w' ⟨v', h1, h2, h3⟩ => ⟨v', h1, by rw [List.append_assoc] at h2; exact h2, h3⟩
theorem BS0 (v x : Value) (l m : List UInt8) (Z : World) (hr : Rd Z Z.heap.size v l) (hx : Rd Z Z.heap.size x m) (hl : l.length ≤ 140737488355328 - 65539) :
    Calls Tryz.prog 110 #[v, x] Z fun e w' => ∃ v', e = .returned v' ∧ Own w' Z.heap.size v' (l ++ encB m) ∧ Below Z.heap.size Z w' :=
  (B_any v x l m Z hr hx hl).mono fun e w' ⟨v', h1, h2, h3⟩ => ⟨v', h1, by rw [List.append_assoc] at h2; exact h2, h3⟩
/-- a packet's bytes -/
def pktB (p : PktV) : List UInt8 := ((((encS p.src ++ encS p.dst) ++ be p.seq 8) ++ encB p.data) ++ be p.ht 8) ++ be p.tm 8
def chanP : ByteArray := ⟨#[105, 98, 99, 47, 99, 104, 97, 110, 47]⟩
end Go.Proofs.YtpcoonnfaoakhaaGreatDoor
