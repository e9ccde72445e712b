/- Texts joined: WireR0, BeLt, EncB1, TxW, TxX. -/
import Derived.Test.YtniclaapiabmdaaGreatDoorM02
import Derived.Test.YtniclaapiabmdaaGreatDoorM01
import Derived.Test.YtniclaapiabmdaaGreatDoorM06
import Derived.Deep.RegionHeldLaw
import Derived.Laws.StructEq
import Derived.Test.YtniclaapiabmdaaGreatDoorM09
import Derived.Deep.RegionLaw
namespace Go.Proofs.YtniclaapiabmdaaGreatDoor
set_option maxRecDepth 100000
open Go.RowKit

/-- the byte of a flag -/
def fb (yes : Bool) : UInt8 := if yes then 1 else 0

set_option maxHeartbeats 400000 in
theorem F_any (v : Value) (yes : Bool) (l : List UInt8) (w : World) (hr : Rd w w.heap.size v l) (hl : l.length ≤ 140737488355320) :
    Calls Tryz.prog 196 #[v, .bool yes] w fun e w' => ∃ v', e = .returned v' ∧ Own w' w.heap.size v' (l ++ [fb yes]) ∧ Below w.heap.size w w' := by
  obtain ⟨i0, hi, hz, hsz, hby⟩ := info_parts Tryz.infoByte
  cases yes
  · go_enter Tryz.func196, Tryz.ntmps196
    go_wp2_with fail
    refine (grown_any v l _ w hr (by omega) (by omega)).mono ?_
    rintro e w1 ⟨v1, rfl, ho1, hb1⟩
    go_wp2_with (at_builtin; refine wpList_append_rd rfl (.tmp 12) (.tmp 13) _ rfl i0 Tryz.underlying27 hi hz hsz hby rfl (ho1.alloc _) rfl (rd_lit w1 _ [0] 1 rfl (by simp [bcells, bval]) (by simp [maxLen])) (by simp; omega) (by have := hb1.size; simp; omega) ?_; intro v3 w3 ho3 hg3 _)
    go_ret
    exact ⟨_, rfl, ho3, Own.below_grown (hb1.alloc hb1.size _) (ho1.alloc _) (Nat.le_refl _) (by have := hb1.size; simp; omega) hg3⟩
  · go_enter Tryz.func196, Tryz.ntmps196
    go_wp2_with fail
    refine (grown_any v l _ w hr (by omega) (by omega)).mono ?_
    rintro e w1 ⟨v1, rfl, ho1, hb1⟩
    go_wp2_with (at_builtin; refine wpList_append_rd rfl (.tmp 9) (.tmp 10) _ rfl i0 Tryz.underlying27 hi hz hsz hby rfl (ho1.alloc _) rfl (rd_lit w1 _ [1] 1 rfl (by simp [bcells, bval]) (by simp [maxLen])) (by simp; omega) (by have := hb1.size; simp; omega) ?_; intro v3 w3 ho3 hg3 _)
    go_ret
    exact ⟨_, rfl, ho3, Own.below_grown (hb1.alloc hb1.size _) (ho1.alloc _) (Nat.le_refl _) (by have := hb1.size; simp; omega) hg3⟩
end Go.Proofs.YtniclaapiabmdaaGreatDoor
namespace Go.Proofs.YtniclaapiabmdaaGreatDoor
set_option maxRecDepth 100000
open Go.RowKit

/-- a reader at block g: what is left, and the fault; its bytes and itself lie in blocks from lo on -/
def RdT (T : Nat) (w : World) (lo g : Nat) (rest : List UInt8) (fault : Int) : Prop :=
  ∃ sv, w.heap[g]? = some (.cells #[sv, .int .i64 fault] T (0, 0)) ∧ lo ≤ g ∧ Rd w g sv rest ∧ (∀ k, sv.ownBlock = some k → lo ≤ k)
abbrev Rdr := RdT 133
/-- the document's reader -/
abbrev Ddr := RdT 149

section
variable {T : Nat} {w w' : World} {lo g : Nat} {rest : List UInt8} {fault : Int}
theorem RdT.from_ (h : RdT T w lo g rest fault) : lo ≤ g := by obtain ⟨_, _, h, _⟩ := h; exact h
theorem RdT.lt (h : RdT T w lo g rest fault) : g < w.heap.size := by obtain ⟨sv, h, _⟩ := h; exact blk_lt h
/-- kept where nothing from lo to g has turned -/
theorem RdT.keep (h : RdT T w lo g rest fault) (hk : ∀ k, lo ≤ k → k ≤ g → w'.heap[k]? = w.heap[k]?) : RdT T w' lo g rest fault := by
  obtain ⟨sv, hb, hlo, ⟨A, c, hv, hc, hm, hp⟩, hs⟩ := h
  refine ⟨sv, (hk g hlo (Nat.le_refl _)).trans hb, hlo, ⟨A, c, hv, hc, hm, fun h0 => ?_⟩, hs⟩
  obtain ⟨b, o, hA, hbg, hcell⟩ := hp h0
  refine ⟨b, o, hA, hbg, fun j hj => ?_⟩
  rw [← hcell j hj]
  exact World.cell?_of_block (hk b (hs b (by subst hv; subst hA; rfl)) (by omega))
theorem RdT.below (h : RdT T w lo g rest fault) (hb : Below w.heap.size w w') : RdT T w' lo g rest fault := h.keep fun k _ hk => hb.block k (by have := h.lt; omega)
/-- kept where another block alone has turned -/
theorem RdT.grown {g' : Nat} (h : RdT T w lo g rest fault) (hg : w.grownBy w' (some g')) (hne : g' < lo ∨ g < g') : RdT T w' lo g rest fault :=
  h.keep fun k h1 h2 => hg.block k (by have := h.lt; omega) (by intro e; injection e with e; omega)
theorem grown_setR (w : World) (g i : Nat) (u : Value) : w.grownBy (w.setCell ⟨g, i, none⟩ u) (some g) :=
  ⟨rfl, rfl, rfl, by simp [World.setCell], fun k hk hne => Below.heap_setCell w _ u k (by rintro rfl; exact hne rfl)⟩
theorem Rd.set {v : Value} (h : Rd w g v rest) (i : Nat) (u : Value) : Rd (w.setCell ⟨g, i, none⟩ u) g v rest := h.keep fun p hp => World.cell?_setCell_other w _ _ _ (by rintro rfl; simp at hp)
end

variable {w : World} {lo g : Nat} {rest : List UInt8} {fault : Int}

theorem ready_any (h : Rdr w lo g rest fault) (b : Bool) (hb : (fault == 0) = b) :
    Calls Tryz.prog 93 #[.pointer (some ⟨g, 0, none⟩)] w fun e w' => e = .returned (.bool b) ∧ w = w' := by
  obtain ⟨sv, hg, hlo, hr, hs⟩ := h
  have c1 : w.cell? ⟨g, 1, none⟩ = some (.int .i64 fault) := blk_cell hg 1
  go_enter Tryz.func93, Tryz.ntmps93
  go_wp2
  go_ret
  exact ⟨rfl, rfl⟩

/-- the number that bytes are, the highest first -/
def beVal (l : List UInt8) : Nat := l.foldl (fun n x => n * 256 + x.toNat) 0
theorem beVal_snoc (l : List UInt8) (x : UInt8) : beVal (l ++ [x]) = beVal l * 256 + x.toNat := by simp [beVal]
theorem beVal_foldl (l : List UInt8) : ∀ a : Nat, l.foldl (fun n x => n * 256 + x.toNat) a < (a + 1) * 256 ^ l.length := by
  induction l with
  | nil => intro a; simp
  | cons x l ih =>
    intro a
    have h1 := ih (a * 256 + x.toNat)
    have h2 := x.toNat_lt
    have h3 : (a * 256 + x.toNat + 1) * 256 ^ l.length ≤ ((a + 1) * 256) * 256 ^ l.length := Nat.mul_le_mul_right _ (by omega)
    simp only [List.foldl_cons, List.length_cons, Nat.pow_succ]
    have h4 : (a + 1) * (256 ^ l.length * 256) = ((a + 1) * 256) * 256 ^ l.length := by
      rw [Nat.mul_assoc, Nat.mul_comm 256]
    omega
theorem beVal_lt (l : List UInt8) : beVal l < 256 ^ l.length := by simpa [beVal] using beVal_foldl l 0
theorem beVal_lt8 (l : List UInt8) (k : Nat) (h : l.length ≤ k) : beVal l < 256 ^ k := Nat.lt_of_lt_of_le (beVal_lt l) (Nat.pow_le_pow_right (by omega) h)
theorem or_byte (x : Nat) (y : UInt8) (h : x < 72057594037927936) :
    bits BinOp.or IntKind.u64 ((x : Int) * 256) (IntKind.u64.wrap (y.toNat : Int)) = ((x * 256 + y.toNat : Nat) : Int) := by
  have hy := y.toNat_lt
  have e1 : ((x : Int) * 256) = ((x * 256 : Nat) : Int) := by omega
  have e2 : IntKind.u64.wrap (y.toNat : Int) = (y.toNat : Int) := by rw [IntKind.wrap_u64]; omega
  rw [e1, e2, bits_or_u64_nat _ _ (by omega) (by omega)]
  have := Nat.shiftLeft_add_eq_or_of_lt (b := y.toNat) (i := 8) (by omega) x
  rw [Nat.shiftLeft_eq] at this
  rw [show x * 256 = x * 2 ^ 8 from rfl, ← this]

set_option maxHeartbeats 400000 in
theorem high_any (h : Rdr w lo g rest fault) (size : Nat) (hs : size ≤ 8) (hl : size ≤ rest.length) :
    Calls Tryz.prog 94 #[.pointer (some ⟨g, 0, none⟩), .int .i64 (size : Int)] w fun e w' => e = .returned (.int .u64 (beVal (rest.take size) : Nat)) ∧ w = w' := by
  obtain ⟨sv, hg, hlo, ⟨A, c, rfl, hc, hcm, hp⟩, hss⟩ := h
  have c0 : w.cell? ⟨g, 0, none⟩ = some (.slice A rest.length c) := blk_cell hg 0
  have hb0 : (0 : Int) ≤ (size : Int) := by omega
  have hb1 : (size : Int) ≤ (c : Int) := by omega
  go_enter Tryz.func94, Tryz.ntmps94
  go_wp2
  go_loop [5, 15] (fun n i => ∃ k : Nat, k ≤ size ∧ i = .int .i64 (k : Int) ∧ n = .int .u64 (beVal (rest.take k) : Nat)) (fun _ i => size - (intOf i).toNat)
  case atStart => exact ⟨0, Nat.zero_le _, rfl, by simp [beVal]⟩
  case round =>
    obtain ⟨k, hk, rfl, rfl⟩ := hrel
    by_cases hlt : k < size
    · obtain ⟨b, o, rfl, hb, hcell⟩ := hp (by omega)
      have c1 : w.cell? ⟨b, o + k, none⟩ = some (.int .u8 ((rest[k]'(by omega)).toNat : Int)) := hcell k (by omega)
      have hlt2 : beVal (rest.take k) < 256 ^ 7 := beVal_lt8 _ 7 (by simp; omega)
      have ho := or_byte (beVal (rest.take k)) (rest[k]'(by omega)) hlt2
      have hsn : beVal (rest.take (k + 1)) = beVal (rest.take k) * 256 + (rest[k]'(by omega)).toNat := by rw [List.take_succ_eq_append_getElem (by omega), beVal_snoc]
      have HO := Lib.hid ho
      have HS := Lib.hid hsn
      clear ho hsn
      go_wp2
      exact ⟨⟨k + 1, by omega, by go_num, by rw [HO.out, HS.out]⟩, by simp [intOf]; omega⟩
    · have hk' : ¬ (k : Int) < (size : Int) := by omega
      obtain rfl : k = size := by omega
      go_wp2
      go_ret
      exact ⟨rfl, rfl⟩
end Go.Proofs.YtniclaapiabmdaaGreatDoor
namespace Go.Proofs.YtniclaapiabmdaaGreatDoor
set_option maxRecDepth 100000
open Go.RowKit

/-- what a reader answers for a number, what is left, the fault -/
def rN (l : List UInt8) (f : Int) : Nat × List UInt8 × Int :=
  if f ≠ 0 then (0, l, f) else if l.length < 8 then (0, l, 20) else (beVal (l.take 8), l.drop 8, 0)

variable {w : World} {lo g : Nat} {rest : List UInt8} {fault : Int}

theorem RdT.put0 {T : Nat} {sv sv' : Value} {rest' : List UInt8} (hg : w.heap[g]? = some (.cells #[sv, .int .i64 fault] T (0, 0))) (hlo : lo ≤ g) (hr : Rd w g sv' rest')
    (hs : ∀ k, sv'.ownBlock = some k → lo ≤ k) : RdT T (w.setCell ⟨g, 0, none⟩ sv') lo g rest' fault :=
  ⟨sv', by simpa using blk_set hg 0 sv', hlo, hr.set 0 _, hs⟩
theorem RdT.put1 {T : Nat} (h : RdT T w lo g rest fault) (f : Int) : RdT T (w.setCell ⟨g, 1, none⟩ (.int .i64 f)) lo g rest f := by
  obtain ⟨sv, hg, hlo, hr, hs⟩ := h
  exact ⟨sv, by simpa using blk_set hg 1 (.int .i64 f), hlo, hr.set 1 _, hs⟩
theorem rd_cut {B b o o' n' c' k : Nat} (hb : b < B) (hcell : ∀ j (h : j < rest.length), w.cell? ⟨b, o + j, none⟩ = some (bval rest[j])) (hn : n' = rest.length - k) (hk : k ≤ rest.length)
    (ho : 0 < n' → o' = o + k) (hc : n' ≤ c') (hm : c' ≤ maxLen) : Rd w B (.slice (some ⟨b, o', none⟩) n' c') (rest.drop k) := by
  refine ⟨_, c', by rw [List.length_drop, hn], by rw [List.length_drop]; omega, hm, fun h0 => ⟨b, o', rfl, hb, fun j hj => ?_⟩⟩
  rw [List.length_drop] at h0 hj
  rw [ho (by omega), Nat.add_assoc, hcell (k + j) (by omega)]
  simp
theorem rd_piece {B b o o' n n' c' k : Nat} (hb : b < B) (hcell : ∀ j (h : j < rest.length), w.cell? ⟨b, o + j, none⟩ = some (bval rest[j])) (hn : n' = n) (hk : k + n ≤ rest.length)
    (ho : 0 < n' → o' = o + k) (hc : n' ≤ c') (hm : c' ≤ maxLen) : Rd w B (.slice (some ⟨b, o', none⟩) n' c') ((rest.drop k).take n) := by
  subst hn
  have hl : ((rest.drop k).take n').length = n' := by simp; omega
  refine ⟨_, c', by rw [hl], by rw [hl]; exact hc, hm, fun h0 => ⟨b, o', rfl, hb, fun j hj => ?_⟩⟩
  rw [hl] at h0 hj
  rw [ho (by omega), Nat.add_assoc, hcell (k + j) (by omega)]
  simp

set_option maxHeartbeats 400000 in
theorem rN_any (h : Rdr w lo g rest fault) :
    Calls Tryz.prog 41 #[.pointer (some ⟨g, 0, none⟩)] w fun e w' => e = .returned (.int .u64 ((rN rest fault).1 : Nat)) ∧ Rdr w' lo g (rN rest fault).2.1 (rN rest fault).2.2 ∧ w.grownBy w' (some g) := by
  by_cases hf : fault = 0
  · have h0 := h
    obtain ⟨sv, hg, hlo, hr, hs⟩ := h
    obtain ⟨A, c, rfl, hc, hcm, hp⟩ := hr
    have c0 : w.cell? ⟨g, 0, none⟩ = some (.slice A rest.length c) := blk_cell hg 0
    have c1 : w.cell? ⟨g, 1, none⟩ = some (.int .i64 fault) := blk_cell hg 1
    have z0 : w.frozen? ⟨g, 0, none⟩ = false := blk_free hg 0
    have z1 : w.frozen? ⟨g, 1, none⟩ = false := blk_free hg 1
    by_cases hl : rest.length < 8
    · have e : rN rest fault = (0, rest, 20) := by simp [rN, hf, hl]
      rw [e]
      clear e
      have i1 : (rest.length : Int) < 8 := by omega
      go_enter Tryz.func41, Tryz.ntmps41
      go_wp2_with fail
      refine (ready_any h0 true (by simp [hf])).mono ?_
      rintro e w' ⟨rfl, rfl⟩
      go_wp2_with fail
      go_ret
      exact ⟨rfl, h0.put1 20, grown_setR _ _ _ _⟩
    · have e : rN rest fault = (beVal (rest.take 8), rest.drop 8, 0) := by simp [rN, hf, hl]
      rw [e]
      clear e
      obtain ⟨b, o, rfl, hb, hcell⟩ := hp (by omega)
      have i1 : (8 : Int) ≤ (rest.length : Int) := by omega
      have i2 : (rest.length : Int) ≤ (c : Int) := by omega
      go_enter Tryz.func41, Tryz.ntmps41
      go_wp2_with fail
      refine (ready_any h0 true (by simp [hf])).mono ?_
      rintro e w' ⟨rfl, rfl⟩
      go_wp2_with fail
      refine (high_any h0 8 (by omega) (by omega)).mono ?_
      rintro e w' ⟨rfl, rfl⟩
      go_wp2_with fail
      all_goals
        subst hf
        go_ret
        exact ⟨rfl, RdT.put0 hg hlo (rd_cut hb hcell rfl (by omega) (by omega) (by omega) (by omega)) hs, grown_setR _ _ _ _⟩
  · have e : rN rest fault = (0, rest, fault) := by simp [rN, hf]
    rw [e]
    clear e
    go_enter Tryz.func41, Tryz.ntmps41
    go_wp2_with fail
    refine (ready_any h false (by simp [hf])).mono ?_
    rintro e w' ⟨rfl, rfl⟩
    go_wp2_with fail
    go_ret
    exact ⟨rfl, h, World.grownBy.refl _ _⟩
end Go.Proofs.YtniclaapiabmdaaGreatDoor
namespace Go.Proofs.YtniclaapiabmdaaGreatDoor
set_option maxRecDepth 100000
open Go.RowKit

variable {w : World} {lo g : Nat} {rest : List UInt8} {fault : Int}

/-- what a reader answers for bytes, what is left, the fault -/
def rB (l : List UInt8) (f : Int) : List UInt8 × List UInt8 × Int :=
  if f ≠ 0 then ([], l, f) else if l.length < 4 then ([], l, 20) else if 65535 < beVal (l.take 4) then ([], l, 22)
  else if l.length < 4 + beVal (l.take 4) then ([], l, 20) else ((l.drop 4).take (beVal (l.take 4)), l.drop (4 + beVal (l.take 4)), 0)

set_option maxHeartbeats 1000000 in
theorem field_any (h : Rdr w lo g rest fault) :
    Calls Tryz.prog 92 #[.pointer (some ⟨g, 0, none⟩)] w fun e w' => ∃ v, e = .returned v ∧ Rd w' g v (rB rest fault).1 ∧ Rdr w' lo g (rB rest fault).2.1 (rB rest fault).2.2 ∧ w.grownBy w' (some g) := by
  by_cases hf : fault = 0
  · have h0 := h
    obtain ⟨sv, hg, hlo, hr, hs⟩ := h
    obtain ⟨A, c, rfl, hc, hcm, hp⟩ := hr
    have c0 : w.cell? ⟨g, 0, none⟩ = some (.slice A rest.length c) := blk_cell hg 0
    have c1 : w.cell? ⟨g, 1, none⟩ = some (.int .i64 fault) := blk_cell hg 1
    have z0 : w.frozen? ⟨g, 0, none⟩ = false := blk_free hg 0
    have z1 : w.frozen? ⟨g, 1, none⟩ = false := blk_free hg 1
    by_cases hl : rest.length < 4
    · have e : rB rest fault = ([], rest, 20) := by simp [rB, hf, hl]
      rw [e]
      clear e
      have i1 : (rest.length : Int) < 4 := by omega
      go_enter Tryz.func92, Tryz.ntmps92
      go_wp2_with fail
      refine (ready_any h0 true (by simp [hf])).mono ?_
      rintro e w' ⟨rfl, rfl⟩
      go_wp2_with fail
      go_ret
      exact ⟨_, rfl, Rd.nil _ _, h0.put1 20, grown_setR _ _ _ _⟩
    · obtain ⟨b, o, rfl, hb, hcell⟩ := hp (by omega)
      have i1 : (4 : Int) ≤ (rest.length : Int) := by omega
      have i2 : (rest.length : Int) ≤ (c : Int) := by omega
      have hbv : beVal (rest.take 4) < 256 ^ 4 := beVal_lt8 _ 4 (by simp; omega)
      have hbound : (beVal (rest.take 4) : Int) ≤ 4294967295 := by omega
      by_cases hn : 65535 < beVal (rest.take 4)
      · have e : rB rest fault = ([], rest, 22) := by simp [rB, hf, hl, hn]
        rw [e]
        clear e
        have i3 : (65535 : Int) < (beVal (rest.take 4) : Int) := by omega
        go_enter Tryz.func92, Tryz.ntmps92
        go_wp2_with fail
        refine (ready_any h0 true (by simp [hf])).mono ?_
        rintro e w' ⟨rfl, rfl⟩
        go_wp2_with fail
        refine (high_any h0 4 (by omega) (by omega)).mono ?_
        rintro e w' ⟨rfl, rfl⟩
        go_wp2_with fail
        go_ret
        exact ⟨_, rfl, Rd.nil _ _, h0.put1 22, grown_setR _ _ _ _⟩
      · by_cases hm : rest.length < 4 + beVal (rest.take 4)
        · have e : rB rest fault = ([], rest, 20) := by simp [rB, hf, hl, hn, hm]
          rw [e]
          clear e
          have i3 : (beVal (rest.take 4) : Int) ≤ 65535 := by omega
          have i4 : (rest.length : Int) < 4 + (beVal (rest.take 4) : Int) := by omega
          go_enter Tryz.func92, Tryz.ntmps92
          go_wp2_with fail
          refine (ready_any h0 true (by simp [hf])).mono ?_
          rintro e w' ⟨rfl, rfl⟩
          go_wp2_with fail
          refine (high_any h0 4 (by omega) (by omega)).mono ?_
          rintro e w' ⟨rfl, rfl⟩
          go_wp2_with fail
          go_ret
          exact ⟨_, rfl, Rd.nil _ _, h0.put1 20, grown_setR _ _ _ _⟩
        · have e : rB rest fault = ((rest.drop 4).take (beVal (rest.take 4)), rest.drop (4 + beVal (rest.take 4)), 0) := by simp [rB, hf, hl, hn, hm]
          rw [e]
          clear e
          have i3 : (beVal (rest.take 4) : Int) ≤ 65535 := by omega
          have i4 : 4 + (beVal (rest.take 4) : Int) ≤ (rest.length : Int) := by omega
          have i5 : 4 + (beVal (rest.take 4) : Int) ≤ (c : Int) := by omega
          obtain ⟨n, hn'⟩ : ∃ n, n = beVal (rest.take 4) := ⟨_, rfl⟩
          rw [← hn'] at i3 i4 i5 hbv hbound ⊢
          have HN := Lib.hid hn'
          obtain ⟨p, hp1⟩ : ∃ p, p = (rest.drop 4).take n := ⟨_, rfl⟩
          obtain ⟨q, hq1⟩ : ∃ q, q = rest.drop (4 + n) := ⟨_, rfl⟩
          rw [← hp1, ← hq1]
          have HP := Lib.hid hp1
          have HQ := Lib.hid hq1
          clear hp1 hq1
          have hm' : 4 + n ≤ rest.length := by omega
          clear hn' hm hn
          go_enter Tryz.func92, Tryz.ntmps92
          go_wp2_with fail
          refine (ready_any h0 true (by simp [hf])).mono ?_
          rintro e w' ⟨rfl, rfl⟩
          go_wp2_with fail
          refine (high_any h0 4 (by omega) (by omega)).mono ?_
          rintro e w' ⟨rfl, rfl⟩
          rw [← HN.out]
          go_wp2_with fail
          all_goals
            subst hf
            go_ret
            refine ⟨_, rfl, ?_, ?_, grown_setR _ _ _ _⟩
            · rw [HP.out]
              exact Rd.set (rd_piece hb hcell (by omega) (by omega) (by omega) (by omega) (by omega)) _ _
            · rw [HQ.out]
              exact RdT.put0 hg hlo (rd_cut hb hcell (by omega) (by omega) (by omega) (by omega) (by omega)) hs
  · have e : rB rest fault = ([], rest, fault) := by simp [rB, hf]
    rw [e]
    clear e
    go_enter Tryz.func92, Tryz.ntmps92
    go_wp2_with fail
    refine (ready_any h false (by simp [hf])).mono ?_
    rintro e w' ⟨rfl, rfl⟩
    go_wp2_with fail
    go_ret
    exact ⟨_, rfl, Rd.nil _ _, h, World.grownBy.refl _ _⟩
end Go.Proofs.YtniclaapiabmdaaGreatDoor
namespace Go.Proofs.YtniclaapiabmdaaGreatDoor
set_option maxRecDepth 100000
open Go.RowKit

theorem rB_le (l : List UInt8) (f : Int) : (rB l f).1.length ≤ 65535 := by
  unfold rB
  split
  · simp
  · split
    · simp
    · split
      · simp
      · split
        · simp
        · simp; omega

theorem grownBy_trans {w w1 w2 : World} {row : Option Nat} (h : w.grownBy w1 row) (k : w1.grownBy w2 row) : w.grownBy w2 row :=
  ⟨k.os.trans h.os, k.tape.trans h.tape, k.output.trans h.output, Nat.le_trans h.size k.size, fun i hi hne => (k.block i (Nat.lt_of_lt_of_le hi h.size) hne).trans (h.block i hi hne)⟩
theorem grownBy_of_below {w w' : World} (h : Below w.heap.size w w') (row : Option Nat) : w.grownBy w' row := ⟨h.os, h.tape, h.output, h.size, fun i hi _ => h.block i hi⟩
theorem grownBy_below {w w1 w2 : World} {row : Option Nat} (h : w.grownBy w1 row) (k : Below w1.heap.size w1 w2) : w.grownBy w2 row := grownBy_trans h (grownBy_of_below k row)

variable {w : World} {lo g : Nat} {rest : List UInt8} {fault : Int}

set_option maxHeartbeats 400000 in
theorem rdB_any (h : Rdr w lo g rest fault) :
    Calls Tryz.prog 40 #[.pointer (some ⟨g, 0, none⟩)] w fun e w' => ∃ v, e = .returned v ∧ Own w' w.heap.size v (rB rest fault).1 ∧ Rdr w' lo g (rB rest fault).2.1 (rB rest fault).2.2 ∧ w.grownBy w' (some g) := by
  obtain ⟨i0, hi, hz, hsz, hby⟩ := info_parts Tryz.infoByte
  have hle := rB_le rest fault
  go_enter Tryz.func40, Tryz.ntmps40
  go_wp2_with fail
  refine (field_any h).mono ?_
  rintro e w1 ⟨v1, rfl, hr1, hrd1, hg1⟩
  have hs1 := hg1.size
  go_wp2_with (at_builtin; refine wpList_append_rd (B := w.heap.size) rfl (.const (.slice none 0 0)) (.tmp 4) _ rfl i0 Tryz.underlying27 hi hz hsz hby rfl (Own.nil _ _) rfl hr1 (by simp; omega) hs1 ?_; intro v3 w3 ho3 hg3 _)
  go_ret
  have hb3 : Below w1.heap.size w1 w3 := (Below.refl _ _).grown hg3 (Nat.le_refl _) (by simp [Act.eval, Value.ownBlock])
  exact ⟨_, rfl, by simpa using ho3, hrd1.below hb3, grownBy_below hg1 hb3⟩

/-- what a reader answers for a flag -/
def rF (l : List UInt8) (f : Int) : Bool × List UInt8 × Int :=
  if f ≠ 0 then (false, l, f) else match l with
  | [] => (false, l, 20)
  | x :: r => if 1 < x.toNat then (false, l, 21) else (x.toNat == 1, r, 0)

end Go.Proofs.YtniclaapiabmdaaGreatDoor
namespace Go.Proofs.YtniclaapiabmdaaGreatDoor
set_option maxRecDepth 100000
open Go.RowKit

variable {w : World} {lo g : Nat} {rest : List UInt8} {fault : Int}

theorem rdErr_any (h : Rdr w lo g rest fault) :
    Calls Tryz.prog 95 #[.pointer (some ⟨g, 0, none⟩)] w fun e w' => e = .returned (.int .i64 fault) ∧ w = w' := by
  obtain ⟨sv, hg, hlo, hr, hs⟩ := h
  have c1 : w.cell? ⟨g, 1, none⟩ = some (.int .i64 fault) := blk_cell hg 1
  go_enter Tryz.func95, Tryz.ntmps95
  go_wp2
  go_ret
  exact ⟨rfl, rfl⟩

/-- a reader's last word -/
def rEnd (l : List UInt8) (f : Int) : Int := if f ≠ 0 then f else if 0 < l.length then 23 else 0

set_option maxHeartbeats 400000 in
theorem rdEnd_any (h : Rdr w lo g rest fault) :
    Calls Tryz.prog 42 #[.pointer (some ⟨g, 0, none⟩)] w fun e w' => e = .returned (.int .i64 (rEnd rest fault)) ∧ w = w' := by
  have h0 := h
  obtain ⟨sv, hg, hlo, ⟨A, c, rfl, hc, hcm, hp⟩, hs⟩ := h
  have c0 : w.cell? ⟨g, 0, none⟩ = some (.slice A rest.length c) := blk_cell hg 0
  unfold rEnd
  by_cases hf : fault = 0
  · subst hf
    by_cases hl : 0 < rest.length
    · have j : (0 : Int) < (rest.length : Int) := by omega
      rw [if_neg (by simp), if_pos hl]
      go_enter Tryz.func42, Tryz.ntmps42
      go_wp2_with fail
      refine (rdErr_any h0).mono ?_
      rintro e w' ⟨rfl, rfl⟩
      go_wp2_with fail
      go_ret
      exact ⟨rfl, rfl⟩
    · have j : ¬ (0 : Int) < (rest.length : Int) := by omega
      rw [if_neg (by simp), if_neg hl]
      go_enter Tryz.func42, Tryz.ntmps42
      go_wp2_with fail
      refine (rdErr_any h0).mono ?_
      rintro e w' ⟨rfl, rfl⟩
      go_wp2_with fail
      go_ret
      exact ⟨rfl, rfl⟩
  · have j : (fault != 0) = true := by simp [hf]
    rw [if_pos hf]
    go_enter Tryz.func42, Tryz.ntmps42
    go_wp2_with fail
    refine (rdErr_any h0).mono ?_
    rintro e w' ⟨rfl, rfl⟩
    go_wp2_with fail
    go_ret
    exact ⟨rfl, rfl⟩

/-- what a reader answers for a count -/
def rC (most : Int) (l : List UInt8) (f : Int) : Int × List UInt8 × Int :=
  if f ≠ 0 then (0, l, f) else if l.length < 8 then (0, l, 20) else if most < 0 ∨ most < (beVal (l.take 8) : Int) then (0, l, 22) else ((beVal (l.take 8) : Int), l.drop 8, 0)

set_option maxHeartbeats 400000 in
theorem open_rd (v : Value) (l : List UInt8) (w : World) (hr : Rd w w.heap.size v l) (hl : l.length ≤ 140737488355320) :
    Calls Tryz.prog 39 #[v] w fun e w' => ∃ g, e = .returned (.pointer (some ⟨g, 0, none⟩)) ∧ Rdr w' w.heap.size g l 0 ∧ Below w.heap.size w w' := by
  go_enter Tryz.func39, Tryz.ntmps39
  go_wp2_with fail
  refine (clone_any v l w hr hl).mono ?_
  rintro e w1 ⟨v1, rfl, ho1, hb1⟩
  obtain ⟨A, c, rfl⟩ := ho1.form
  go_wp2_with fail
  go_ret
  refine ⟨_, rfl, ⟨_, heap_alloc_new _ _, hb1.size, (ho1.rd).alloc (Nat.le_refl _) _, fun k hk => (ho1.lt k hk).1⟩, hb1.alloc hb1.size _⟩
end Go.Proofs.YtniclaapiabmdaaGreatDoor
namespace Go.Proofs.YtniclaapiabmdaaGreatDoor
set_option maxRecDepth 100000

theorem be_lt (n k : Nat) : beVal (be n k) = n % 256 ^ k := by
  induction k with
  | zero => simp [be, beVal, Nat.mod_one]
  | succ k ih =>
    have h1 : ∀ (l : List UInt8) (a : Nat), l.foldl (fun n x => n * 256 + x.toNat) a = a * 256 ^ l.length + beVal l := by
      intro l
      induction l with
      | nil => intro a; simp [beVal]
      | cons x l ih2 =>
        intro a
        simp only [List.foldl_cons, List.length_cons, beVal]
        rw [ih2, ih2 (0 * 256 + x.toNat), Nat.pow_succ]
        simp only [Nat.zero_mul, Nat.zero_add, Nat.add_mul, Nat.mul_assoc, Nat.add_assoc, Nat.mul_comm 256]
    have h2 : beVal (be n (k + 1)) = (UInt8.ofNat (n / 2 ^ (8 * k))).toNat * 256 ^ k + beVal (be n k) := by
      simp only [be]
      rw [show beVal (UInt8.ofNat (n / 2 ^ (8 * k)) :: be n k) = (be n k).foldl (fun n x => n * 256 + x.toNat) (UInt8.ofNat (n / 2 ^ (8 * k))).toNat by simp [beVal], h1, be_length]
    rw [h2, ih]
    have h3 : (2 : Nat) ^ (8 * k) = 256 ^ k := by rw [Nat.pow_mul]
    rw [h3, UInt8.toNat_ofNat']
    have h4 : n % 256 ^ (k + 1) = 256 ^ k * (n / 256 ^ k % 256) + n % 256 ^ k := by
      rw [Nat.pow_succ, Nat.mod_mul]
      omega
    rw [h4, Nat.mul_comm]
end Go.Proofs.YtniclaapiabmdaaGreatDoor
namespace Go.Proofs.YtniclaapiabmdaaGreatDoor
set_option maxRecDepth 100000

/-- the form of what is put -/
def encB (m : List UInt8) : List UInt8 := be (m.take 65535).length 4 ++ m.take 65535
theorem rN_enc (n : Nat) (rest : List UInt8) (h : n < 18446744073709551616) : rN (be n 8 ++ rest) 0 = (n, rest, 0) := by
  have h1 : (be n 8 ++ rest).take 8 = be n 8 := by rw [List.take_append_of_le_length (by simp [be_length]), List.take_of_length_le (by simp [be_length])]
  have h2 : (be n 8 ++ rest).drop 8 = rest := by rw [List.drop_append_of_le_length (by simp [be_length]), List.drop_of_length_le (by simp [be_length]), List.nil_append]
  unfold rN
  rw [if_neg (by simp), if_neg (by simp [be_length]), h1, h2, be_lt, Nat.mod_eq_of_lt (by omega)]
theorem rB_enc (m : List UInt8) (rest : List UInt8) : rB (encB m ++ rest) 0 = (m.take 65535, rest, 0) := by
  have hl : (m.take 65535).length ≤ 65535 := by simp; omega
  unfold encB
  generalize m.take 65535 = t at *
  have h1 : (be t.length 4 ++ t ++ rest).take 4 = be t.length 4 := by
    rw [List.append_assoc, List.take_append_of_le_length (by simp [be_length]), List.take_of_length_le (by simp [be_length])]
  have h2 : (be t.length 4 ++ t ++ rest).drop 4 = t ++ rest := by
    rw [List.append_assoc, List.drop_append_of_le_length (by simp [be_length]), List.drop_of_length_le (by simp [be_length]), List.nil_append]
  have h3 : beVal (be t.length 4) = t.length := by rw [be_lt, Nat.mod_eq_of_lt (by omega)]
  unfold rB
  rw [if_neg (by simp), if_neg (by simp [be_length]), h1, h3, if_neg (by omega), if_neg (by simp [be_length]), h2]
  rw [← List.drop_drop, h2]
  simp
end Go.Proofs.YtniclaapiabmdaaGreatDoor
namespace Go.Proofs.YtniclaapiabmdaaGreatDoor
set_option maxRecDepth 100000
open Go Go.RowKit
set_option linter.unusedVariables false

end Go.Proofs.YtniclaapiabmdaaGreatDoor
namespace Go.Proofs.YtniclaapiabmdaaGreatDoor
set_option maxRecDepth 100000
open Go Go.RowKit
set_option linter.unusedVariables false

/-- made at w0: the result's block gr, the struct's block gd, the reader g -/
structure PZ (T : Nat) (w0 : World) (gr gd lo g : Nat) (tr td : TypeId) (cr cd : Array Value) (rest : List UInt8) (fault : Int) (W : World) : Prop where
  below : Below w0.heap.size w0 W
  hr : w0.heap.size ≤ gr
  hd : w0.heap.size ≤ gd
  res : W.heap[gr]? = some (.cells cr tr (0, 0))
  loc : W.heap[gd]? = some (.cells cd td (0, 0))
  rd : RdT T W lo g rest fault
  o1 : gr < lo
  o2 : g < gd
section
variable {T : Nat} {w0 W W' : World} {gr gd lo g : Nat} {tr td : TypeId} {cr cd : Array Value} {rest rest' : List UInt8} {fault fault' : Int}
theorem PZ.lo' (h : PZ T w0 gr gd lo g tr td cr cd rest fault W) : gr < g := Nat.lt_of_lt_of_le h.o1 h.rd.from_
theorem PZ.up (h : PZ T w0 gr gd lo g tr td cr cd rest fault W) (hb : Below W.heap.size W W') : PZ T w0 gr gd lo g tr td cr cd rest fault W' where
  below := below_chain h.below h.below.size hb
  hr := h.hr
  hd := h.hd
  res := (hb.block _ (blk_lt h.res)).trans h.res
  loc := (hb.block _ (blk_lt h.loc)).trans h.loc
  rd := h.rd.below hb
  o1 := h.o1
  o2 := h.o2
theorem PZ.call (h : PZ T w0 gr gd lo g tr td cr cd rest fault W) (hg : W.grownBy W' (some g)) (hr : RdT T W' lo g rest' fault') : PZ T w0 gr gd lo g tr td cr cd rest' fault' W' where
  below := h.below.grown hg h.below.size (fun k hk => by injection hk with hk; have := h.lo'; have := h.hr; omega)
  hr := h.hr
  hd := h.hd
  res := (hg.block _ (blk_lt h.res) (fun e => by injection e with e; have := h.lo'; omega)).trans h.res
  loc := (hg.block _ (blk_lt h.loc) (fun e => by injection e with e; have := h.o2; omega)).trans h.loc
  rd := hr
  o1 := h.o1
  o2 := h.o2
theorem PZ.set (h : PZ T w0 gr gd lo g tr td cr cd rest fault W) (i : Nat) (u : Value) : PZ T w0 gr gd lo g tr td cr (cd.setIfInBounds i u) rest fault (W.setCell ⟨gd, i, none⟩ u) where
  below := h.below.setCell h.hd u
  hr := h.hr
  hd := h.hd
  res := (Below.heap_setCell W ⟨gd, i, none⟩ u gr (by have := h.lo'; have := h.o2; show gr ≠ gd; omega)).trans h.res
  loc := blk_set h.loc i u
  rd := h.rd.grown (grown_setR W gd i u) (Or.inr h.o2)
  o1 := h.o1
  o2 := h.o2
theorem PZ.other (h : PZ T w0 gr gd lo g tr td cr cd rest fault W) {gu : Nat} (hu : gd < gu) (i : Nat) (u : Value) : PZ T w0 gr gd lo g tr td cr cd rest fault (W.setCell ⟨gu, i, none⟩ u) where
  below := h.below.setCell (by have := h.hd; show w0.heap.size ≤ gu; omega) u
  hr := h.hr
  hd := h.hd
  res := (Below.heap_setCell W ⟨gu, i, none⟩ u gr (by have := h.lo'; have := h.o2; show gr ≠ gu; omega)).trans h.res
  loc := (Below.heap_setCell W ⟨gu, i, none⟩ u gd (by show gd ≠ gu; omega)).trans h.loc
  rd := h.rd.grown (grown_setR W gu i u) (Or.inr (by have := h.o2; omega))
  o1 := h.o1
  o2 := h.o2
theorem PZ.drew (h : PZ T w0 gr gd lo g tr td cr cd rest fault W) : PZ T w0 gr gd lo g tr td cr cd rest fault W.drew := h.up (Below.drew (Below.refl _ _))
theorem PZ.alloc (h : PZ T w0 gr gd lo g tr td cr cd rest fault W) (o : Obj) : PZ T w0 gr gd lo g tr td cr cd rest fault (W.alloc o) := h.up ((Below.refl _ _).alloc (Nat.le_refl _) o)
/-- the result's block, all cells stored -/
theorem PZ.out (h : PZ T w0 gr gd lo g tr td cr cd rest fault W) : Below w0.heap.size w0 W := h.below
end
end Go.Proofs.YtniclaapiabmdaaGreatDoor
namespace Go.Proofs.YtniclaapiabmdaaGreatDoor
set_option maxRecDepth 100000
open Go Go.RowKit
set_option linter.unusedVariables false

/-- a field, read out of a struct, is equal to itself -/
def SelfF (xs : Array Value) (f : Field) : Prop := ∃ a, (∀ w, (part f.type xs f.offset).run Tryz.prog w = .ok a w) ∧ ∀ w, (Op.equalIn 9999 f.type a a).run Tryz.prog w = .ok true w
end Go.Proofs.YtniclaapiabmdaaGreatDoor
namespace Go.Proofs.YtniclaapiabmdaaGreatDoor
set_option maxRecDepth 100000
open Go Go.RowKit
set_option linter.unusedVariables false

/-- a writer at block g whose row L lies in blocks from B on -/
def WrA (W : World) (B g : Nat) (L : List UInt8) : Prop := ∃ v, W.heap[g]? = some (.cells #[v] 158 (0, 0)) ∧ Own W B v L ∧ g < B ∧ B ≤ W.heap.size
def encW (s : ByteArray) : List UInt8 := encB (strBytes s)
theorem encB_lenW (m : List UInt8) : (encB m).length ≤ 65539 := by
  unfold encB
  simp [be_length]
  omega
theorem WrA.up {w w' : World} {B g : Nat} {L : List UInt8} (h : WrA w B g L) (hb : Below w.heap.size w w') : WrA w' B g L := by
  obtain ⟨v, h1, h2, h3, h4⟩ := h
  exact ⟨v, (hb.block _ (blk_lt h1)).trans h1, h2.below hb, h3, Nat.le_trans h4 hb.size⟩
end Go.Proofs.YtniclaapiabmdaaGreatDoor
namespace Go.Proofs.YtniclaapiabmdaaGreatDoor
set_option maxRecDepth 100000
open Go Go.RowKit
set_option linter.unusedVariables false

/-- a writer at block g, whose row is L; since W0 nothing has turned but what F names -/
structure WrX (F : Nat → Prop) (W0 W : World) (B g : Nat) (L : List UInt8) : Prop where
  v : ∃ v, W.heap[g]? = some (.cells #[v] 158 (0, 0)) ∧ Own W B v L ∧ ∀ k, v.ownBlock = some k → F k ∨ W0.heap.size ≤ k
  c : Chg W0 W F
  f : F g
  l : ∀ k, F k → g ≤ k
  gB : g < B
  bW : B ≤ W.heap.size
  gW : g < W0.heap.size
section
variable {F : Nat → Prop} {W0 w w' : World} {B g : Nat} {L : List UInt8}
theorem WrX.up (h : WrX F W0 w B g L) (hb : Below w.heap.size w w') : WrX F W0 w' B g L := by
  obtain ⟨⟨v, h1, h2, h3⟩, hc, hF, hFl, hgB, hBw, hgW⟩ := h
  exact ⟨⟨v, (hb.block _ (blk_lt h1)).trans h1, h2.below hb, h3⟩, hc.trans' (Chg.of_below hb F), hF, hFl, hgB, Nat.le_trans hBw hb.size, hgW⟩
theorem WrX.below (h : WrX F W0 w B g L) : Below g W0 w := h.c.below h.l (Nat.le_of_lt h.gW)
theorem WrX.wra (h : WrX F W0 w B g L) : WrA w B g L := by
  obtain ⟨⟨v, h1, h2, h3⟩, hc, hF, hFl, hgB, hBw, hgW⟩ := h
  exact ⟨v, h1, h2, hgB, hBw⟩
/-- a world of its own for what follows: blocks that came since are left alone, too -/
theorem WrX.open_ (h : WrX F W0 w B g L) : ∃ G : Nat → Prop, WrX G w w B g L ∧ (∀ k, G k → k < w.heap.size) ∧ (∀ w' L', WrX G w w' B g L' → WrX F W0 w' B g L') := by
  obtain ⟨⟨v, h1, h2, h3⟩, hc, hF, hFl, hgB, hBw, hgW⟩ := h
  refine ⟨fun k => k = g ∨ v.ownBlock = some k, ⟨⟨v, h1, h2, fun k e => .inl (.inr e)⟩, Chg.refl _ _, .inl rfl, fun k e => ?_, hgB, hBw, blk_lt h1⟩, fun k e => ?_, fun w' L' h' => ?_⟩
  · rcases e with rfl | e
    · exact Nat.le_refl _
    · have := (h2.lt k e).1; omega
  · rcases e with rfl | e
    · exact blk_lt h1
    · exact (h2.lt k e).2
  · obtain ⟨⟨v', k1, k2, k3⟩, kc, -, -, -, kb, -⟩ := h'
    refine ⟨⟨v', k1, k2, fun k e => ?_⟩, hc.trans (kc.mono fun k hk e => ?_), hF, hFl, hgB, kb, hgW⟩
    · rcases k3 k e with (rfl | e) | e
      · exact .inl hF
      · exact h3 k e
      · exact .inr (Nat.le_trans hc.size e)
    · rcases e with rfl | e
      · exact .inl hF
      · rcases h3 k e with e | e
        · exact .inl e
        · exact .inr ⟨e, hk⟩
/-- the same behind a box that is made -/
theorem WrX.box (h : WrX F W0 w B g L) (o : Obj) : ∃ G : Nat → Prop, WrX G (w.alloc o) (w.alloc o) B g L ∧ ¬ G w.heap.size ∧ (∀ w' L', WrX G (w.alloc o) w' B g L' → WrX F W0 w' B g L') := by
  obtain ⟨G, h1, h2, h3⟩ := h.open_
  have hb : Below w.heap.size w (w.alloc o) := (Below.refl _ _).alloc (Nat.le_refl _) _
  have h4 := h1.up hb
  obtain ⟨⟨v, k1, k2, k3⟩, kc, kF, kl, kgB, kb, kgW⟩ := h4
  refine ⟨G, ⟨⟨v, k1, k2, fun k e => ?_⟩, Chg.refl _ _, kF, kl, kgB, kb, blk_lt k1⟩, fun e => absurd (h2 _ e) (by omega), fun w' L' h' => h3 _ _ ?_⟩
  · obtain ⟨v0, j1, j2, j3⟩ := h1.v
    have : v0 = v := by
      have e0 := (hb.block _ (blk_lt j1)).trans j1
      have e1 := k1.symm.trans e0
      injection e1 with e1
      injection e1 with e1
      injection e1 with e1
      injection e1 with e1
      exact e1.symm
    subst this
    rcases j3 k e with e' | e'
    · exact .inl e'
    · exact absurd (j2.lt k e).2 (by omega)
  · obtain ⟨⟨v', m1, m2, m3⟩, mc, mF, ml, mgB, mb, mgW⟩ := h'
    have hs : w.heap.size ≤ (w.alloc o).heap.size := hb.size
    refine ⟨⟨v', m1, m2, fun k e => ?_⟩, (Chg.of_below hb G).trans' mc, mF, ml, mgB, mb, kgW⟩
    rcases m3 k e with e' | e'
    · exact .inl e'
    · exact .inr (Nat.le_trans hs e')
/-- a writer that is new -/
theorem WrX.new (w : World) : WrX (fun k => k = w.heap.size) (w.alloc (.cells #[.slice none 0 0] 158)) (w.alloc (.cells #[.slice none 0 0] 158)) (w.heap.size + 1) w.heap.size [] :=
  ⟨⟨_, heap_alloc_new w _, Own.nil _ _, fun k e => by cases e⟩, Chg.refl _ _, rfl, fun k e => Nat.le_of_eq e.symm, Nat.lt_succ_self _, by simp, by simp⟩
end
set_option maxHeartbeats 4000000 in
theorem wxn_any {F : Nat → Prop} {W0 w : World} {B g : Nat} {L : List UInt8} (h : WrX F W0 w B g L) (n : Nat) (hn : n < 18446744073709551616) (hl : L.length ≤ 100000000) :
    Calls Tryz.prog 129 #[.pointer (some ⟨g, 0, none⟩), .int .u64 (n : Int)] w fun e w' => e = .returned (.tuple #[]) ∧ WrX F W0 w' B g (L ++ be n 8) := by
  obtain ⟨i0, hi, hz, hsz, hby⟩ := info_parts Tryz.infoByte
  obtain ⟨⟨v, hb, ho, hvF⟩, hc, hF, hFl, hgB, hBw, hgW⟩ := h
  have HO := Lib.hid ho
  obtain ⟨A, c, rfl⟩ := ho.form
  have hob : ∀ k, (Value.slice A L.length c).ownBlock = some k → g < k ∧ k < w.heap.size := fun k e => by have := ho.lt _ e; omega
  have HOB := Lib.hid hob
  have HX := Lib.hid (And.intro hvF (And.intro hc (And.intro hF (And.intro hFl hgW))))
  have HB := Lib.hid hb
  have hfl := blk_lt hb
  have hm : (be n 8).length ≤ 65600 := by simp [be_length]
  have HC : Hid (∀ Z : World, Below w.heap.size w Z → Calls Tryz.prog 91 #[.slice none 0 0, .int .u64 (n : Int)] Z fun e w' => ∃ v', e = .returned v' ∧ Own w' Z.heap.size v' (be n 8) ∧ Below Z.heap.size Z w') := Lib.hid fun Z hz => by
    have := N_any (.slice none 0 0) [] n Z (Rd.nil _ _) hn (by simp)
    rwa [List.nil_append] at this
  generalize be n 8 = M at *
  obtain ⟨n0, hn0⟩ : ∃ n0, n0 = L.length := ⟨_, rfl⟩
  rw [← hn0] at HO HB HOB HX
  have HL := Lib.hid hn0
  have x0 : w.cell? ⟨g, 0, none⟩ = some (.slice A n0 c) := blk_cell HB.out 0
  clear ho hob hb hn0 hvF hc hF hFl hgW
  go_enter Tryz.func129, Tryz.ntmps129
  go_wp2_with fail
  have hd0 : Below w.heap.size w w.drew := Below.drew (Below.refl _ _)
  have xd : w.drew.cell? ⟨g, 0, none⟩ = some (.slice A n0 c) := x0
  go_region_law (first
    | (go_simp; (with_reducible refine (HC.out _ hd0).mono ?_); rintro e w1 ⟨v1, rfl, ho1, hb1⟩; dsimp only; have hb01 : Below w.heap.size w w1 := below_chain hd0 (Nat.le_refl _) hb1; have hg1 := (hb01.block _ hfl).trans HB.out; have x1 : w1.cell? ⟨g, 0, none⟩ = some (.slice A n0 c) := blk_cell hg1 0; have hO1 : Own w1 B (.slice A n0 c) L := HO.out.below hb01; have hs1 := hb01.size)
    | (refine wp_append_rd (v := .slice A n0 c) (.tmp 8) (.tmp 10) _ rfl i0 Tryz.underlying27 hi hz hsz hby rfl hO1 rfl ho1.rd (by omega) (Nat.le_trans hBw hs1) ?_; intro v2 w2 ho2 hg2 hat2; have hgB2 : w2.heap[g]? = some (.cells #[.slice A n0 c] 158 (0, 0)) := (hg2.block _ (Nat.lt_of_lt_of_le hfl hs1) (fun e => by have := HOB.out _ e.symm; omega)).trans hg1; have x2 := blk_cell hgB2 0; have f2 := blk_free hgB2 0; obtain ⟨A2, c2, hv2⟩ := ho2.form; subst hv2)
    | fail)
  all_goals
    have hset := blk_set hgB2 0 (.slice A2 (L.length + M.length) c2)
    have hown : Own (w2.setCell ⟨g, 0, none⟩ (.slice A2 (L.length + M.length) c2)) B (.slice A2 (L.length + M.length) c2) (L ++ M) := by
      have h9 := ho2.grown (grown_setR w2 g 0 (.slice A2 (L.length + M.length) c2)) (Or.inr (fun e => by have := (ho2.lt _ e).1; omega))
      rw [List.length_append] at h9
      exact h9
    have hcc : Chg W0 (w2.setCell ⟨g, 0, none⟩ (.slice A2 (L.length + M.length) c2)) F :=
      ((HX.out.2.1.trans' (Chg.of_below hb01 F)).trans (Chg.of_grown hg2 (fun k e => by
        rcases HX.out.1 k e with h | h
        · exact .inl h
        · exact .inr ⟨h, by have := (HOB.out k e).2; omega⟩))).trans' (Chg.set _ HX.out.2.2.1 _)
    have hvv : ∀ k, (Value.slice A2 (L.length + M.length) c2).ownBlock = some k → F k ∨ W0.heap.size ≤ k := fun k e => by
      rcases hat2 with h | h
      · rw [List.length_append] at h
        exact HX.out.1 k (h.symm.trans e)
      · rw [List.length_append] at h
        have := h.symm.trans e
        injection this with this
        right
        have h1 := HX.out.2.1.size
        omega
    have HF := Lib.hid (And.intro hset (And.intro hown (And.intro hcc (And.intro hvv (Nat.le_trans (Nat.le_trans hBw hs1) hg2.size)))))
    clear hset hown ho2 hO1 ho1 hgB2 hg1 hcc hvv hat2
    go_wp2_with fail
    go_end0
    exact ⟨rfl, ⟨⟨_, by simpa using HF.out.1, HF.out.2.1, HF.out.2.2.2.1⟩, HF.out.2.2.1, HX.out.2.2.1, HX.out.2.2.2.1, hgB, by simpa using HF.out.2.2.2.2, HX.out.2.2.2.2⟩⟩
set_option maxHeartbeats 4000000 in
theorem wxt_any {F : Nat → Prop} {W0 w : World} {B g : Nat} {L : List UInt8} (h : WrX F W0 w B g L) (s : ByteArray) (hs : s.size ≤ maxLen) (hl : L.length ≤ 100000000) :
    Calls Tryz.prog 128 #[.pointer (some ⟨g, 0, none⟩), .string s] w fun e w' => e = .returned (.tuple #[]) ∧ WrX F W0 w' B g (L ++ encW s) := by
  obtain ⟨i0, hi, hz, hsz, hby⟩ := info_parts Tryz.infoByte
  obtain ⟨⟨v, hb, ho, hvF⟩, hc, hF, hFl, hgB, hBw, hgW⟩ := h
  have HO := Lib.hid ho
  obtain ⟨A, c, rfl⟩ := ho.form
  have hob : ∀ k, (Value.slice A L.length c).ownBlock = some k → g < k ∧ k < w.heap.size := fun k e => by have := ho.lt _ e; omega
  have HOB := Lib.hid hob
  have HX := Lib.hid (And.intro hvF (And.intro hc (And.intro hF (And.intro hFl hgW))))
  have HB := Lib.hid hb
  have hfl := blk_lt hb
  have hm : (encW s).length ≤ 65600 := Nat.le_trans (encB_lenW _) (by decide)
  have HC : Hid (∀ Z : World, Below w.heap.size w Z → Calls Tryz.prog 78 #[.slice none 0 0, .string s] Z fun e w' => ∃ v', e = .returned v' ∧ Own w' Z.heap.size v' (encW s) ∧ Below Z.heap.size Z w') := Lib.hid fun Z hz => by
    exact (T_any (.slice none 0 0) s [] Z (Rd.nil _ _) hs (by simp)).mono fun e w' ⟨v', h1, h2, h3⟩ => ⟨v', h1, by rw [List.nil_append] at h2; exact h2, h3⟩
  generalize encW s = M at *
  obtain ⟨n0, hn0⟩ : ∃ n0, n0 = L.length := ⟨_, rfl⟩
  rw [← hn0] at HO HB HOB HX
  have HL := Lib.hid hn0
  have x0 : w.cell? ⟨g, 0, none⟩ = some (.slice A n0 c) := blk_cell HB.out 0
  clear ho hob hb hn0 hvF hc hF hFl hgW
  go_enter Tryz.func128, Tryz.ntmps128
  go_wp2_with fail
  have hd0 : Below w.heap.size w w.drew := Below.drew (Below.refl _ _)
  have xd : w.drew.cell? ⟨g, 0, none⟩ = some (.slice A n0 c) := x0
  go_region_law (first
    | (go_simp; (with_reducible refine (HC.out _ hd0).mono ?_); rintro e w1 ⟨v1, rfl, ho1, hb1⟩; dsimp only; have hb01 : Below w.heap.size w w1 := below_chain hd0 (Nat.le_refl _) hb1; have hg1 := (hb01.block _ hfl).trans HB.out; have x1 : w1.cell? ⟨g, 0, none⟩ = some (.slice A n0 c) := blk_cell hg1 0; have hO1 : Own w1 B (.slice A n0 c) L := HO.out.below hb01; have hs1 := hb01.size)
    | (refine wp_append_rd (v := .slice A n0 c) (.tmp 8) (.tmp 10) _ rfl i0 Tryz.underlying27 hi hz hsz hby rfl hO1 rfl ho1.rd (by omega) (Nat.le_trans hBw hs1) ?_; intro v2 w2 ho2 hg2 hat2; have hgB2 : w2.heap[g]? = some (.cells #[.slice A n0 c] 158 (0, 0)) := (hg2.block _ (Nat.lt_of_lt_of_le hfl hs1) (fun e => by have := HOB.out _ e.symm; omega)).trans hg1; have x2 := blk_cell hgB2 0; have f2 := blk_free hgB2 0; obtain ⟨A2, c2, hv2⟩ := ho2.form; subst hv2)
    | fail)
  all_goals
    have hset := blk_set hgB2 0 (.slice A2 (L.length + M.length) c2)
    have hown : Own (w2.setCell ⟨g, 0, none⟩ (.slice A2 (L.length + M.length) c2)) B (.slice A2 (L.length + M.length) c2) (L ++ M) := by
      have h9 := ho2.grown (grown_setR w2 g 0 (.slice A2 (L.length + M.length) c2)) (Or.inr (fun e => by have := (ho2.lt _ e).1; omega))
      rw [List.length_append] at h9
      exact h9
    have hcc : Chg W0 (w2.setCell ⟨g, 0, none⟩ (.slice A2 (L.length + M.length) c2)) F :=
      ((HX.out.2.1.trans' (Chg.of_below hb01 F)).trans (Chg.of_grown hg2 (fun k e => by
        rcases HX.out.1 k e with h | h
        · exact .inl h
        · exact .inr ⟨h, by have := (HOB.out k e).2; omega⟩))).trans' (Chg.set _ HX.out.2.2.1 _)
    have hvv : ∀ k, (Value.slice A2 (L.length + M.length) c2).ownBlock = some k → F k ∨ W0.heap.size ≤ k := fun k e => by
      rcases hat2 with h | h
      · rw [List.length_append] at h
        exact HX.out.1 k (h.symm.trans e)
      · rw [List.length_append] at h
        have := h.symm.trans e
        injection this with this
        right
        have h1 := HX.out.2.1.size
        omega
    have HF := Lib.hid (And.intro hset (And.intro hown (And.intro hcc (And.intro hvv (Nat.le_trans (Nat.le_trans hBw hs1) hg2.size)))))
    clear hset hown ho2 hO1 ho1 hgB2 hg1 hcc hvv hat2
    go_wp2_with fail
    go_end0
    exact ⟨rfl, ⟨⟨_, by simpa using HF.out.1, HF.out.2.1, HF.out.2.2.2.1⟩, HF.out.2.2.1, HX.out.2.2.1, HX.out.2.2.2.1, hgB, by simpa using HF.out.2.2.2.2, HX.out.2.2.2.2⟩⟩
set_option maxHeartbeats 4000000 in
theorem wxb_any {F : Nat → Prop} {W0 w : World} {B g : Nat} {L : List UInt8} (h : WrX F W0 w B g L) (Ax : Option Addr) (nx cx : Nat) (m : List UInt8) (hr : Rd w w.heap.size (.slice Ax nx cx) m) (hl : L.length ≤ 100000000) :
    Calls Tryz.prog 132 #[.pointer (some ⟨g, 0, none⟩), .slice Ax nx cx] w fun e w' => e = .returned (.tuple #[]) ∧ WrX F W0 w' B g (L ++ encB m) := by
  obtain ⟨i0, hi, hz, hsz, hby⟩ := info_parts Tryz.infoByte
  obtain ⟨⟨v, hb, ho, hvF⟩, hc, hF, hFl, hgB, hBw, hgW⟩ := h
  have HO := Lib.hid ho
  obtain ⟨A, c, rfl⟩ := ho.form
  have hob : ∀ k, (Value.slice A L.length c).ownBlock = some k → g < k ∧ k < w.heap.size := fun k e => by have := ho.lt _ e; omega
  have HOB := Lib.hid hob
  have HX := Lib.hid (And.intro hvF (And.intro hc (And.intro hF (And.intro hFl hgW))))
  have HB := Lib.hid hb
  have hfl := blk_lt hb
  have hm : (encB m).length ≤ 65600 := Nat.le_trans (encB_lenW _) (by decide)
  have HC : Hid (∀ Z : World, Below w.heap.size w Z → Calls Tryz.prog 77 #[.slice none 0 0, .slice Ax nx cx] Z fun e w' => ∃ v', e = .returned v' ∧ Own w' Z.heap.size v' (encB m) ∧ Below Z.heap.size Z w') := Lib.hid fun Z hz => by
    exact (B_any (.slice none 0 0) (.slice Ax nx cx) [] m Z (Rd.nil _ _) (hr.up (Nat.le_refl _) hz) (by simp)).mono fun e w' ⟨v', h1, h2, h3⟩ => ⟨v', h1, by rw [List.nil_append] at h2; exact h2, h3⟩
  generalize encB m = M at *
  obtain ⟨n0, hn0⟩ : ∃ n0, n0 = L.length := ⟨_, rfl⟩
  rw [← hn0] at HO HB HOB HX
  have HL := Lib.hid hn0
  have x0 : w.cell? ⟨g, 0, none⟩ = some (.slice A n0 c) := blk_cell HB.out 0
  clear ho hob hb hn0 hvF hc hF hFl hgW
  go_enter Tryz.func132, Tryz.ntmps132
  go_wp2_with fail
  have hd0 : Below w.heap.size w w.drew := Below.drew (Below.refl _ _)
  have xd : w.drew.cell? ⟨g, 0, none⟩ = some (.slice A n0 c) := x0
  go_region_law (first
    | (go_simp; (with_reducible refine (HC.out _ hd0).mono ?_); rintro e w1 ⟨v1, rfl, ho1, hb1⟩; dsimp only; have hb01 : Below w.heap.size w w1 := below_chain hd0 (Nat.le_refl _) hb1; have hg1 := (hb01.block _ hfl).trans HB.out; have x1 : w1.cell? ⟨g, 0, none⟩ = some (.slice A n0 c) := blk_cell hg1 0; have hO1 : Own w1 B (.slice A n0 c) L := HO.out.below hb01; have hs1 := hb01.size)
    | (refine wp_append_rd (v := .slice A n0 c) (.tmp 8) (.tmp 10) _ rfl i0 Tryz.underlying27 hi hz hsz hby rfl hO1 rfl ho1.rd (by omega) (Nat.le_trans hBw hs1) ?_; intro v2 w2 ho2 hg2 hat2; have hgB2 : w2.heap[g]? = some (.cells #[.slice A n0 c] 158 (0, 0)) := (hg2.block _ (Nat.lt_of_lt_of_le hfl hs1) (fun e => by have := HOB.out _ e.symm; omega)).trans hg1; have x2 := blk_cell hgB2 0; have f2 := blk_free hgB2 0; obtain ⟨A2, c2, hv2⟩ := ho2.form; subst hv2)
    | fail)
  all_goals
    have hset := blk_set hgB2 0 (.slice A2 (L.length + M.length) c2)
    have hown : Own (w2.setCell ⟨g, 0, none⟩ (.slice A2 (L.length + M.length) c2)) B (.slice A2 (L.length + M.length) c2) (L ++ M) := by
      have h9 := ho2.grown (grown_setR w2 g 0 (.slice A2 (L.length + M.length) c2)) (Or.inr (fun e => by have := (ho2.lt _ e).1; omega))
      rw [List.length_append] at h9
      exact h9
    have hcc : Chg W0 (w2.setCell ⟨g, 0, none⟩ (.slice A2 (L.length + M.length) c2)) F :=
      ((HX.out.2.1.trans' (Chg.of_below hb01 F)).trans (Chg.of_grown hg2 (fun k e => by
        rcases HX.out.1 k e with h | h
        · exact .inl h
        · exact .inr ⟨h, by have := (HOB.out k e).2; omega⟩))).trans' (Chg.set _ HX.out.2.2.1 _)
    have hvv : ∀ k, (Value.slice A2 (L.length + M.length) c2).ownBlock = some k → F k ∨ W0.heap.size ≤ k := fun k e => by
      rcases hat2 with h | h
      · rw [List.length_append] at h
        exact HX.out.1 k (h.symm.trans e)
      · rw [List.length_append] at h
        have := h.symm.trans e
        injection this with this
        right
        have h1 := HX.out.2.1.size
        omega
    have HF := Lib.hid (And.intro hset (And.intro hown (And.intro hcc (And.intro hvv (Nat.le_trans (Nat.le_trans hBw hs1) hg2.size)))))
    clear hset hown ho2 hO1 ho1 hgB2 hg1 hcc hvv hat2
    go_wp2_with fail
    go_end0
    exact ⟨rfl, ⟨⟨_, by simpa using HF.out.1, HF.out.2.1, HF.out.2.2.2.1⟩, HF.out.2.2.1, HX.out.2.2.1, HX.out.2.2.2.1, hgB, by simpa using HF.out.2.2.2.2, HX.out.2.2.2.2⟩⟩
set_option maxHeartbeats 4000000 in
theorem wxf_any {F : Nat → Prop} {W0 w : World} {B g : Nat} {L : List UInt8} (h : WrX F W0 w B g L) (yes : Bool) (hl : L.length ≤ 100000000) :
    Calls Tryz.prog 169 #[.pointer (some ⟨g, 0, none⟩), .bool yes] w fun e w' => e = .returned (.tuple #[]) ∧ WrX F W0 w' B g (L ++ [fb yes]) := by
  obtain ⟨i0, hi, hz, hsz, hby⟩ := info_parts Tryz.infoByte
  obtain ⟨⟨v, hb, ho, hvF⟩, hc, hF, hFl, hgB, hBw, hgW⟩ := h
  have HO := Lib.hid ho
  obtain ⟨A, c, rfl⟩ := ho.form
  have hob : ∀ k, (Value.slice A L.length c).ownBlock = some k → g < k ∧ k < w.heap.size := fun k e => by have := ho.lt _ e; omega
  have HOB := Lib.hid hob
  have HX := Lib.hid (And.intro hvF (And.intro hc (And.intro hF (And.intro hFl hgW))))
  have HB := Lib.hid hb
  have hfl := blk_lt hb
  have hm : ([fb yes]).length ≤ 65600 := by simp
  have HC : Hid (∀ Z : World, Below w.heap.size w Z → Calls Tryz.prog 196 #[.slice none 0 0, .bool yes] Z fun e w' => ∃ v', e = .returned v' ∧ Own w' Z.heap.size v' ([fb yes]) ∧ Below Z.heap.size Z w') := Lib.hid fun Z hz => by
    have := F_any (.slice none 0 0) yes [] Z (Rd.nil _ _) (by simp)
    rwa [List.nil_append] at this
  generalize [fb yes] = M at *
  obtain ⟨n0, hn0⟩ : ∃ n0, n0 = L.length := ⟨_, rfl⟩
  rw [← hn0] at HO HB HOB HX
  have HL := Lib.hid hn0
  have x0 : w.cell? ⟨g, 0, none⟩ = some (.slice A n0 c) := blk_cell HB.out 0
  clear ho hob hb hn0 hvF hc hF hFl hgW
  go_enter Tryz.func169, Tryz.ntmps169
  go_wp2_with fail
  have hd0 : Below w.heap.size w w.drew := Below.drew (Below.refl _ _)
  have xd : w.drew.cell? ⟨g, 0, none⟩ = some (.slice A n0 c) := x0
  go_region_law (first
    | (go_simp; (with_reducible refine (HC.out _ hd0).mono ?_); rintro e w1 ⟨v1, rfl, ho1, hb1⟩; dsimp only; have hb01 : Below w.heap.size w w1 := below_chain hd0 (Nat.le_refl _) hb1; have hg1 := (hb01.block _ hfl).trans HB.out; have x1 : w1.cell? ⟨g, 0, none⟩ = some (.slice A n0 c) := blk_cell hg1 0; have hO1 : Own w1 B (.slice A n0 c) L := HO.out.below hb01; have hs1 := hb01.size)
    | (refine wp_append_rd (v := .slice A n0 c) (.tmp 8) (.tmp 10) _ rfl i0 Tryz.underlying27 hi hz hsz hby rfl hO1 rfl ho1.rd (by omega) (Nat.le_trans hBw hs1) ?_; intro v2 w2 ho2 hg2 hat2; have hgB2 : w2.heap[g]? = some (.cells #[.slice A n0 c] 158 (0, 0)) := (hg2.block _ (Nat.lt_of_lt_of_le hfl hs1) (fun e => by have := HOB.out _ e.symm; omega)).trans hg1; have x2 := blk_cell hgB2 0; have f2 := blk_free hgB2 0; obtain ⟨A2, c2, hv2⟩ := ho2.form; subst hv2)
    | fail)
  all_goals
    have hset := blk_set hgB2 0 (.slice A2 (L.length + M.length) c2)
    have hown : Own (w2.setCell ⟨g, 0, none⟩ (.slice A2 (L.length + M.length) c2)) B (.slice A2 (L.length + M.length) c2) (L ++ M) := by
      have h9 := ho2.grown (grown_setR w2 g 0 (.slice A2 (L.length + M.length) c2)) (Or.inr (fun e => by have := (ho2.lt _ e).1; omega))
      rw [List.length_append] at h9
      exact h9
    have hcc : Chg W0 (w2.setCell ⟨g, 0, none⟩ (.slice A2 (L.length + M.length) c2)) F :=
      ((HX.out.2.1.trans' (Chg.of_below hb01 F)).trans (Chg.of_grown hg2 (fun k e => by
        rcases HX.out.1 k e with h | h
        · exact .inl h
        · exact .inr ⟨h, by have := (HOB.out k e).2; omega⟩))).trans' (Chg.set _ HX.out.2.2.1 _)
    have hvv : ∀ k, (Value.slice A2 (L.length + M.length) c2).ownBlock = some k → F k ∨ W0.heap.size ≤ k := fun k e => by
      rcases hat2 with h | h
      · rw [List.length_append] at h
        exact HX.out.1 k (h.symm.trans e)
      · rw [List.length_append] at h
        have := h.symm.trans e
        injection this with this
        right
        have h1 := HX.out.2.1.size
        omega
    have HF := Lib.hid (And.intro hset (And.intro hown (And.intro hcc (And.intro hvv (Nat.le_trans (Nat.le_trans hBw hs1) hg2.size)))))
    clear hset hown ho2 hO1 ho1 hgB2 hg1 hcc hvv hat2
    go_wp2_with fail
    go_end0
    exact ⟨rfl, ⟨⟨_, by simpa using HF.out.1, HF.out.2.1, HF.out.2.2.2.1⟩, HF.out.2.2.1, HX.out.2.2.1, HX.out.2.2.2.1, hgB, by simpa using HF.out.2.2.2.2, HX.out.2.2.2.2⟩⟩
set_option maxHeartbeats 4000000 in
theorem wxu_any {F : Nat → Prop} {W0 w : World} {B g : Nat} {L : List UInt8} (h : WrX F W0 w B g L) (x : U4) (hx : x.ok) (hl : L.length ≤ 100000000) :
    Calls Tryz.prog 130 #[.pointer (some ⟨g, 0, none⟩), x.val] w fun e w' => e = .returned (.tuple #[]) ∧ WrX F W0 w' B g (L ++ encB (be x.nat 32)) := by
  have hbox := heap_alloc_new w (.cells #[.int .u64 (x.a : Int), .int .u64 (x.b : Int), .int .u64 (x.c : Int), .int .u64 (x.d : Int)] 25)
  have ha0 : Below w.heap.size w (w.alloc (.cells #[.int .u64 (x.a : Int), .int .u64 (x.b : Int), .int .u64 (x.c : Int), .int .u64 (x.d : Int)] 25)) := (Below.refl _ _).alloc (Nat.le_refl _) _
  have HB := Lib.hid (fun Z : World => bytes_any x Z hx)
  have h0 := h.up ha0
  generalize hW0 : w.alloc (.cells #[.int .u64 (x.a : Int), .int .u64 (x.b : Int), .int .u64 (x.c : Int), .int .u64 (x.d : Int)] 25) = W1 at *
  have c0 := blk_cell hbox 0
  have c1 := blk_cell hbox 1
  have c2 := blk_cell hbox 2
  have c3 := blk_cell hbox 3
  unfold U4.val U4.cells at *
  generalize be x.nat 32 = M at *
  clear h hx hbox
  go_enter Tryz.func130, Tryz.ntmps130
  go_wp2_with fail
  try rw [hW0]
  clear hW0
  refine (HB.out _).mono ?_
  rintro e w1 ⟨v1, rfl, ho1, hb1⟩
  have h1 := h0.up hb1
  have hr1 := ho1.rd
  obtain ⟨A1, k1, rfl⟩ := ho1.form
  have HW := Lib.hid (wxb_any h1 A1 M.length k1 M hr1 hl)
  clear HB h0 c0 c1 c2 c3 ho1 hr1 h1 ha0 hb1
  generalize M.length = n1 at *
  go_wp2_with fail
  refine HW.out.mono ?_
  rintro e w2 ⟨rfl, h2⟩
  go_wp2_with fail
  go_end0
  exact ⟨rfl, h2⟩
end Go.Proofs.YtniclaapiabmdaaGreatDoor
