/- Texts joined: WireR0, BeLt, LimbS0, LimbA0, EncB1. -/
import Derived.Test.YtpcoonnfaoakhaaM01
import Derived.Deep.RegionHeldLaw
import Derived.Shelf.Spec.BitsCarry
import Derived.Stop.BytesEq
import Derived.Laws.StructEq
namespace Go.Proofs.Ytpcoonnfaoakhaa
set_option maxRecDepth 100000
open Go.RowKit

/-- the byte of a flag -/
def fb (yes : Bool) : UInt8 := if yes then 1 else 0

set_option maxHeartbeats 400000 in
theorem F_any (v : Value) (yes : Bool) (l : List UInt8) (w : World) (hr : Rd w w.heap.size v l) (hl : l.length ≤ 140737488355320) :
    Calls Try.prog 12 #[v, .bool yes] w fun e w' => ∃ v', e = .returned v' ∧ Own w' w.heap.size v' (l ++ [fb yes]) ∧ Below w.heap.size w w' := by
  obtain ⟨i0, hi, hz, hsz, hby⟩ := info_parts Try.infoByte
  cases yes
  · go_enter Try.func12, Try.ntmps12
    go_wp2_with fail
    refine (grown_any v l _ w hr (by omega) (by omega)).mono ?_
    rintro e w1 ⟨v1, rfl, ho1, hb1⟩
    go_wp2_with (at_builtin; refine wpList_append_rd rfl (.tmp 12) (.tmp 13) _ rfl i0 Try.underlying24 hi hz hsz hby rfl (ho1.alloc _) rfl (rd_lit w1 _ [0] 1 rfl (by simp [bcells, bval]) (by simp [maxLen])) (by simp; omega) (by have := hb1.size; simp; omega) ?_; intro v3 w3 ho3 hg3 _)
    go_ret
    exact ⟨_, rfl, ho3, Own.below_grown (hb1.alloc hb1.size _) (ho1.alloc _) (Nat.le_refl _) (by have := hb1.size; simp; omega) hg3⟩
  · go_enter Try.func12, Try.ntmps12
    go_wp2_with fail
    refine (grown_any v l _ w hr (by omega) (by omega)).mono ?_
    rintro e w1 ⟨v1, rfl, ho1, hb1⟩
    go_wp2_with (at_builtin; refine wpList_append_rd rfl (.tmp 9) (.tmp 10) _ rfl i0 Try.underlying24 hi hz hsz hby rfl (ho1.alloc _) rfl (rd_lit w1 _ [1] 1 rfl (by simp [bcells, bval]) (by simp [maxLen])) (by simp; omega) (by have := hb1.size; simp; omega) ?_; intro v3 w3 ho3 hg3 _)
    go_ret
    exact ⟨_, rfl, ho3, Own.below_grown (hb1.alloc hb1.size _) (ho1.alloc _) (Nat.le_refl _) (by have := hb1.size; simp; omega) hg3⟩
end Go.Proofs.Ytpcoonnfaoakhaa
namespace Go.Proofs.Ytpcoonnfaoakhaa
set_option maxRecDepth 100000
open Go.RowKit

/-- a reader at block g: what is left, and the fault; its bytes and itself lie in blocks from lo on -/
def RdT (T : Nat) (w : World) (lo g : Nat) (rest : List UInt8) (fault : Int) : Prop :=
  ∃ sv, w.heap[g]? = some (.cells #[sv, .int .i64 fault] T (0, 0)) ∧ lo ≤ g ∧ Rd w g sv rest ∧ (∀ k, sv.ownBlock = some k → lo ≤ k)
abbrev Rdr := RdT 63
section
variable {T : Nat} {w w' : World} {lo g : Nat} {rest : List UInt8} {fault : Int}
theorem RdT.from_ (h : RdT T w lo g rest fault) : lo ≤ g := by obtain ⟨_, _, h, _⟩ := h; exact h
theorem RdT.lt (h : RdT T w lo g rest fault) : g < w.heap.size := by obtain ⟨sv, h, _⟩ := h; exact blk_lt h
/-- kept where nothing from lo to g has turned -/
theorem RdT.keep (h : RdT T w lo g rest fault) (hk : ∀ k, lo ≤ k → k ≤ g → w'.heap[k]? = w.heap[k]?) : RdT T w' lo g rest fault := by
  obtain ⟨sv, hb, hlo, ⟨A, c, hv, hc, hm, hp⟩, hs⟩ := h
  refine ⟨sv, (hk g hlo (Nat.le_refl _)).trans hb, hlo, ⟨A, c, hv, hc, hm, fun h0 => ?_⟩, hs⟩
  obtain ⟨b, o, hA, hbg, hcell⟩ := hp h0
  refine ⟨b, o, hA, hbg, fun j hj => ?_⟩
  rw [← hcell j hj]
  exact World.cell?_of_block (hk b (hs b (by subst hv; subst hA; rfl)) (by omega))
theorem RdT.below (h : RdT T w lo g rest fault) (hb : Below w.heap.size w w') : RdT T w' lo g rest fault := h.keep fun k _ hk => hb.block k (by have := h.lt; omega)
/-- kept where another block alone has turned -/
theorem RdT.grown {g' : Nat} (h : RdT T w lo g rest fault) (hg : w.grownBy w' (some g')) (hne : g' < lo ∨ g < g') : RdT T w' lo g rest fault :=
  h.keep fun k h1 h2 => hg.block k (by have := h.lt; omega) (by intro e; injection e with e; omega)
theorem grown_setR (w : World) (g i : Nat) (u : Value) : w.grownBy (w.setCell ⟨g, i, none⟩ u) (some g) :=
  ⟨rfl, rfl, rfl, by simp [World.setCell], fun k hk hne => Below.heap_setCell w _ u k (by rintro rfl; exact hne rfl)⟩
theorem Rd.set {v : Value} (h : Rd w g v rest) (i : Nat) (u : Value) : Rd (w.setCell ⟨g, i, none⟩ u) g v rest := h.keep fun p hp => World.cell?_setCell_other w _ _ _ (by rintro rfl; simp at hp)
end

variable {w : World} {lo g : Nat} {rest : List UInt8} {fault : Int}

theorem ready_any (h : Rdr w lo g rest fault) (b : Bool) (hb : (fault == 0) = b) :
    Calls Try.prog 32 #[.pointer (some ⟨g, 0, none⟩)] w fun e w' => e = .returned (.bool b) ∧ w = w' := by
  obtain ⟨sv, hg, hlo, hr, hs⟩ := h
  have c1 : w.cell? ⟨g, 1, none⟩ = some (.int .i64 fault) := blk_cell hg 1
  go_enter Try.func32, Try.ntmps32
  go_wp2
  go_ret
  exact ⟨rfl, rfl⟩

/-- the number that bytes are, the highest first -/
def beVal (l : List UInt8) : Nat := l.foldl (fun n x => n * 256 + x.toNat) 0
theorem beVal_snoc (l : List UInt8) (x : UInt8) : beVal (l ++ [x]) = beVal l * 256 + x.toNat := by simp [beVal]
theorem beVal_foldl (l : List UInt8) : ∀ a : Nat, l.foldl (fun n x => n * 256 + x.toNat) a < (a + 1) * 256 ^ l.length := by
  induction l with
  | nil => intro a; simp
  | cons x l ih =>
    intro a
    have h1 := ih (a * 256 + x.toNat)
    have h2 := x.toNat_lt
    have h3 : (a * 256 + x.toNat + 1) * 256 ^ l.length ≤ ((a + 1) * 256) * 256 ^ l.length := Nat.mul_le_mul_right _ (by omega)
    simp only [List.foldl_cons, List.length_cons, Nat.pow_succ]
    have h4 : (a + 1) * (256 ^ l.length * 256) = ((a + 1) * 256) * 256 ^ l.length := by
      rw [Nat.mul_assoc, Nat.mul_comm 256]
    omega
theorem beVal_lt (l : List UInt8) : beVal l < 256 ^ l.length := by simpa [beVal] using beVal_foldl l 0
theorem beVal_lt8 (l : List UInt8) (k : Nat) (h : l.length ≤ k) : beVal l < 256 ^ k := Nat.lt_of_lt_of_le (beVal_lt l) (Nat.pow_le_pow_right (by omega) h)
theorem or_byte (x : Nat) (y : UInt8) (h : x < 72057594037927936) :
    bits BinOp.or IntKind.u64 ((x : Int) * 256) (IntKind.u64.wrap (y.toNat : Int)) = ((x * 256 + y.toNat : Nat) : Int) := by
  have hy := y.toNat_lt
  have e1 : ((x : Int) * 256) = ((x * 256 : Nat) : Int) := by omega
  have e2 : IntKind.u64.wrap (y.toNat : Int) = (y.toNat : Int) := by rw [IntKind.wrap_u64]; omega
  rw [e1, e2, bits_or_u64_nat _ _ (by omega) (by omega)]
  have := Nat.shiftLeft_add_eq_or_of_lt (b := y.toNat) (i := 8) (by omega) x
  rw [Nat.shiftLeft_eq] at this
  rw [show x * 256 = x * 2 ^ 8 from rfl, ← this]

set_option maxHeartbeats 400000 in
theorem high_any (h : Rdr w lo g rest fault) (size : Nat) (hs : size ≤ 8) (hl : size ≤ rest.length) :
    Calls Try.prog 33 #[.pointer (some ⟨g, 0, none⟩), .int .i64 (size : Int)] w fun e w' => e = .returned (.int .u64 (beVal (rest.take size) : Nat)) ∧ w = w' := by
  obtain ⟨sv, hg, hlo, ⟨A, c, rfl, hc, hcm, hp⟩, hss⟩ := h
  have c0 : w.cell? ⟨g, 0, none⟩ = some (.slice A rest.length c) := blk_cell hg 0
  have hb0 : (0 : Int) ≤ (size : Int) := by omega
  have hb1 : (size : Int) ≤ (c : Int) := by omega
  go_enter Try.func33, Try.ntmps33
  go_wp2
  go_loop [5, 15] (fun n i => ∃ k : Nat, k ≤ size ∧ i = .int .i64 (k : Int) ∧ n = .int .u64 (beVal (rest.take k) : Nat)) (fun _ i => size - (intOf i).toNat)
  case atStart => exact ⟨0, Nat.zero_le _, rfl, by simp [beVal]⟩
  case round =>
    obtain ⟨k, hk, rfl, rfl⟩ := hrel
    by_cases hlt : k < size
    · obtain ⟨b, o, rfl, hb, hcell⟩ := hp (by omega)
      have c1 : w.cell? ⟨b, o + k, none⟩ = some (.int .u8 ((rest[k]'(by omega)).toNat : Int)) := hcell k (by omega)
      have hlt2 : beVal (rest.take k) < 256 ^ 7 := beVal_lt8 _ 7 (by simp; omega)
      have ho := or_byte (beVal (rest.take k)) (rest[k]'(by omega)) hlt2
      have hsn : beVal (rest.take (k + 1)) = beVal (rest.take k) * 256 + (rest[k]'(by omega)).toNat := by rw [List.take_succ_eq_append_getElem (by omega), beVal_snoc]
      have HO := Lib.hid ho
      have HS := Lib.hid hsn
      clear ho hsn
      go_wp2
      exact ⟨⟨k + 1, by omega, by go_num, by rw [HO.out, HS.out]⟩, by simp [intOf]; omega⟩
    · have hk' : ¬ (k : Int) < (size : Int) := by omega
      obtain rfl : k = size := by omega
      go_wp2
      go_ret
      exact ⟨rfl, rfl⟩
end Go.Proofs.Ytpcoonnfaoakhaa
namespace Go.Proofs.Ytpcoonnfaoakhaa
set_option maxRecDepth 100000
open Go.RowKit

/-- what a reader answers for a number, what is left, the fault -/
def rN (l : List UInt8) (f : Int) : Nat × List UInt8 × Int :=
  if f ≠ 0 then (0, l, f) else if l.length < 8 then (0, l, 20) else (beVal (l.take 8), l.drop 8, 0)

variable {w : World} {lo g : Nat} {rest : List UInt8} {fault : Int}

theorem RdT.put0 {T : Nat} {sv sv' : Value} {rest' : List UInt8} (hg : w.heap[g]? = some (.cells #[sv, .int .i64 fault] T (0, 0))) (hlo : lo ≤ g) (hr : Rd w g sv' rest')
    (hs : ∀ k, sv'.ownBlock = some k → lo ≤ k) : RdT T (w.setCell ⟨g, 0, none⟩ sv') lo g rest' fault :=
  ⟨sv', by simpa using blk_set hg 0 sv', hlo, hr.set 0 _, hs⟩
theorem RdT.put1 {T : Nat} (h : RdT T w lo g rest fault) (f : Int) : RdT T (w.setCell ⟨g, 1, none⟩ (.int .i64 f)) lo g rest f := by
  obtain ⟨sv, hg, hlo, hr, hs⟩ := h
  exact ⟨sv, by simpa using blk_set hg 1 (.int .i64 f), hlo, hr.set 1 _, hs⟩
theorem rd_cut {B b o o' n' c' k : Nat} (hb : b < B) (hcell : ∀ j (h : j < rest.length), w.cell? ⟨b, o + j, none⟩ = some (bval rest[j])) (hn : n' = rest.length - k) (hk : k ≤ rest.length)
    (ho : 0 < n' → o' = o + k) (hc : n' ≤ c') (hm : c' ≤ maxLen) : Rd w B (.slice (some ⟨b, o', none⟩) n' c') (rest.drop k) := by
  refine ⟨_, c', by rw [List.length_drop, hn], by rw [List.length_drop]; omega, hm, fun h0 => ⟨b, o', rfl, hb, fun j hj => ?_⟩⟩
  rw [List.length_drop] at h0 hj
  rw [ho (by omega), Nat.add_assoc, hcell (k + j) (by omega)]
  simp
theorem rd_piece {B b o o' n n' c' k : Nat} (hb : b < B) (hcell : ∀ j (h : j < rest.length), w.cell? ⟨b, o + j, none⟩ = some (bval rest[j])) (hn : n' = n) (hk : k + n ≤ rest.length)
    (ho : 0 < n' → o' = o + k) (hc : n' ≤ c') (hm : c' ≤ maxLen) : Rd w B (.slice (some ⟨b, o', none⟩) n' c') ((rest.drop k).take n) := by
  subst hn
  have hl : ((rest.drop k).take n').length = n' := by simp; omega
  refine ⟨_, c', by rw [hl], by rw [hl]; exact hc, hm, fun h0 => ⟨b, o', rfl, hb, fun j hj => ?_⟩⟩
  rw [hl] at h0 hj
  rw [ho (by omega), Nat.add_assoc, hcell (k + j) (by omega)]
  simp

set_option maxHeartbeats 400000 in
theorem rN_any (h : Rdr w lo g rest fault) :
    Calls Try.prog 14 #[.pointer (some ⟨g, 0, none⟩)] w fun e w' => e = .returned (.int .u64 ((rN rest fault).1 : Nat)) ∧ Rdr w' lo g (rN rest fault).2.1 (rN rest fault).2.2 ∧ w.grownBy w' (some g) := by
  by_cases hf : fault = 0
  · have h0 := h
    obtain ⟨sv, hg, hlo, hr, hs⟩ := h
    obtain ⟨A, c, rfl, hc, hcm, hp⟩ := hr
    have c0 : w.cell? ⟨g, 0, none⟩ = some (.slice A rest.length c) := blk_cell hg 0
    have c1 : w.cell? ⟨g, 1, none⟩ = some (.int .i64 fault) := blk_cell hg 1
    have z0 : w.frozen? ⟨g, 0, none⟩ = false := blk_free hg 0
    have z1 : w.frozen? ⟨g, 1, none⟩ = false := blk_free hg 1
    by_cases hl : rest.length < 8
    · have e : rN rest fault = (0, rest, 20) := by simp [rN, hf, hl]
      rw [e]
      clear e
      have i1 : (rest.length : Int) < 8 := by omega
      go_enter Try.func14, Try.ntmps14
      go_wp2_with fail
      refine (ready_any h0 true (by simp [hf])).mono ?_
      rintro e w' ⟨rfl, rfl⟩
      go_wp2_with fail
      go_ret
      exact ⟨rfl, h0.put1 20, grown_setR _ _ _ _⟩
    · have e : rN rest fault = (beVal (rest.take 8), rest.drop 8, 0) := by simp [rN, hf, hl]
      rw [e]
      clear e
      obtain ⟨b, o, rfl, hb, hcell⟩ := hp (by omega)
      have i1 : (8 : Int) ≤ (rest.length : Int) := by omega
      have i2 : (rest.length : Int) ≤ (c : Int) := by omega
      go_enter Try.func14, Try.ntmps14
      go_wp2_with fail
      refine (ready_any h0 true (by simp [hf])).mono ?_
      rintro e w' ⟨rfl, rfl⟩
      go_wp2_with fail
      refine (high_any h0 8 (by omega) (by omega)).mono ?_
      rintro e w' ⟨rfl, rfl⟩
      go_wp2_with fail
      all_goals
        subst hf
        go_ret
        exact ⟨rfl, RdT.put0 hg hlo (rd_cut hb hcell rfl (by omega) (by omega) (by omega) (by omega)) hs, grown_setR _ _ _ _⟩
  · have e : rN rest fault = (0, rest, fault) := by simp [rN, hf]
    rw [e]
    clear e
    go_enter Try.func14, Try.ntmps14
    go_wp2_with fail
    refine (ready_any h false (by simp [hf])).mono ?_
    rintro e w' ⟨rfl, rfl⟩
    go_wp2_with fail
    go_ret
    exact ⟨rfl, h, World.grownBy.refl _ _⟩
end Go.Proofs.Ytpcoonnfaoakhaa
namespace Go.Proofs.Ytpcoonnfaoakhaa
set_option maxRecDepth 100000
open Go.RowKit

variable {w : World} {lo g : Nat} {rest : List UInt8} {fault : Int}

/-- what a reader answers for bytes, what is left, the fault -/
def rB (l : List UInt8) (f : Int) : List UInt8 × List UInt8 × Int :=
  if f ≠ 0 then ([], l, f) else if l.length < 4 then ([], l, 20) else if 65535 < beVal (l.take 4) then ([], l, 22)
  else if l.length < 4 + beVal (l.take 4) then ([], l, 20) else ((l.drop 4).take (beVal (l.take 4)), l.drop (4 + beVal (l.take 4)), 0)

set_option maxHeartbeats 1000000 in
theorem field_any (h : Rdr w lo g rest fault) :
    Calls Try.prog 34 #[.pointer (some ⟨g, 0, none⟩)] w fun e w' => ∃ v, e = .returned v ∧ Rd w' g v (rB rest fault).1 ∧ Rdr w' lo g (rB rest fault).2.1 (rB rest fault).2.2 ∧ w.grownBy w' (some g) := by
  by_cases hf : fault = 0
  · have h0 := h
    obtain ⟨sv, hg, hlo, hr, hs⟩ := h
    obtain ⟨A, c, rfl, hc, hcm, hp⟩ := hr
    have c0 : w.cell? ⟨g, 0, none⟩ = some (.slice A rest.length c) := blk_cell hg 0
    have c1 : w.cell? ⟨g, 1, none⟩ = some (.int .i64 fault) := blk_cell hg 1
    have z0 : w.frozen? ⟨g, 0, none⟩ = false := blk_free hg 0
    have z1 : w.frozen? ⟨g, 1, none⟩ = false := blk_free hg 1
    by_cases hl : rest.length < 4
    · have e : rB rest fault = ([], rest, 20) := by simp [rB, hf, hl]
      rw [e]
      clear e
      have i1 : (rest.length : Int) < 4 := by omega
      go_enter Try.func34, Try.ntmps34
      go_wp2_with fail
      refine (ready_any h0 true (by simp [hf])).mono ?_
      rintro e w' ⟨rfl, rfl⟩
      go_wp2_with fail
      go_ret
      exact ⟨_, rfl, Rd.nil _ _, h0.put1 20, grown_setR _ _ _ _⟩
    · obtain ⟨b, o, rfl, hb, hcell⟩ := hp (by omega)
      have i1 : (4 : Int) ≤ (rest.length : Int) := by omega
      have i2 : (rest.length : Int) ≤ (c : Int) := by omega
      have hbv : beVal (rest.take 4) < 256 ^ 4 := beVal_lt8 _ 4 (by simp; omega)
      have hbound : (beVal (rest.take 4) : Int) ≤ 4294967295 := by omega
      by_cases hn : 65535 < beVal (rest.take 4)
      · have e : rB rest fault = ([], rest, 22) := by simp [rB, hf, hl, hn]
        rw [e]
        clear e
        have i3 : (65535 : Int) < (beVal (rest.take 4) : Int) := by omega
        go_enter Try.func34, Try.ntmps34
        go_wp2_with fail
        refine (ready_any h0 true (by simp [hf])).mono ?_
        rintro e w' ⟨rfl, rfl⟩
        go_wp2_with fail
        refine (high_any h0 4 (by omega) (by omega)).mono ?_
        rintro e w' ⟨rfl, rfl⟩
        go_wp2_with fail
        go_ret
        exact ⟨_, rfl, Rd.nil _ _, h0.put1 22, grown_setR _ _ _ _⟩
      · by_cases hm : rest.length < 4 + beVal (rest.take 4)
        · have e : rB rest fault = ([], rest, 20) := by simp [rB, hf, hl, hn, hm]
          rw [e]
          clear e
          have i3 : (beVal (rest.take 4) : Int) ≤ 65535 := by omega
          have i4 : (rest.length : Int) < 4 + (beVal (rest.take 4) : Int) := by omega
          go_enter Try.func34, Try.ntmps34
          go_wp2_with fail
          refine (ready_any h0 true (by simp [hf])).mono ?_
          rintro e w' ⟨rfl, rfl⟩
          go_wp2_with fail
          refine (high_any h0 4 (by omega) (by omega)).mono ?_
          rintro e w' ⟨rfl, rfl⟩
          go_wp2_with fail
          go_ret
          exact ⟨_, rfl, Rd.nil _ _, h0.put1 20, grown_setR _ _ _ _⟩
        · have e : rB rest fault = ((rest.drop 4).take (beVal (rest.take 4)), rest.drop (4 + beVal (rest.take 4)), 0) := by simp [rB, hf, hl, hn, hm]
          rw [e]
          clear e
          have i3 : (beVal (rest.take 4) : Int) ≤ 65535 := by omega
          have i4 : 4 + (beVal (rest.take 4) : Int) ≤ (rest.length : Int) := by omega
          have i5 : 4 + (beVal (rest.take 4) : Int) ≤ (c : Int) := by omega
          obtain ⟨n, hn'⟩ : ∃ n, n = beVal (rest.take 4) := ⟨_, rfl⟩
          rw [← hn'] at i3 i4 i5 hbv hbound ⊢
          have HN := Lib.hid hn'
          obtain ⟨p, hp1⟩ : ∃ p, p = (rest.drop 4).take n := ⟨_, rfl⟩
          obtain ⟨q, hq1⟩ : ∃ q, q = rest.drop (4 + n) := ⟨_, rfl⟩
          rw [← hp1, ← hq1]
          have HP := Lib.hid hp1
          have HQ := Lib.hid hq1
          clear hp1 hq1
          have hm' : 4 + n ≤ rest.length := by omega
          clear hn' hm hn
          go_enter Try.func34, Try.ntmps34
          go_wp2_with fail
          refine (ready_any h0 true (by simp [hf])).mono ?_
          rintro e w' ⟨rfl, rfl⟩
          go_wp2_with fail
          refine (high_any h0 4 (by omega) (by omega)).mono ?_
          rintro e w' ⟨rfl, rfl⟩
          rw [← HN.out]
          go_wp2_with fail
          all_goals
            subst hf
            go_ret
            refine ⟨_, rfl, ?_, ?_, grown_setR _ _ _ _⟩
            · rw [HP.out]
              exact Rd.set (rd_piece hb hcell (by omega) (by omega) (by omega) (by omega) (by omega)) _ _
            · rw [HQ.out]
              exact RdT.put0 hg hlo (rd_cut hb hcell (by omega) (by omega) (by omega) (by omega) (by omega)) hs
  · have e : rB rest fault = ([], rest, fault) := by simp [rB, hf]
    rw [e]
    clear e
    go_enter Try.func34, Try.ntmps34
    go_wp2_with fail
    refine (ready_any h false (by simp [hf])).mono ?_
    rintro e w' ⟨rfl, rfl⟩
    go_wp2_with fail
    go_ret
    exact ⟨_, rfl, Rd.nil _ _, h, World.grownBy.refl _ _⟩
end Go.Proofs.Ytpcoonnfaoakhaa
namespace Go.Proofs.Ytpcoonnfaoakhaa
set_option maxRecDepth 100000
open Go.RowKit

theorem rB_le (l : List UInt8) (f : Int) : (rB l f).1.length ≤ 65535 := by
  unfold rB
  split
  · simp
  · split
    · simp
    · split
      · simp
      · split
        · simp
        · simp; omega

theorem below_of_grownBy {w w' : World} {lo g : Nat} (h : w.grownBy w' (some g)) (hlo : lo ≤ g) (hg : g < w.heap.size) : Below lo w w' :=
  ⟨h.os, h.tape, h.output, h.size, fun k hk => h.block k (by omega) (by intro e; injection e with e; omega)⟩
theorem grownBy_trans {w w1 w2 : World} {row : Option Nat} (h : w.grownBy w1 row) (k : w1.grownBy w2 row) : w.grownBy w2 row :=
  ⟨k.os.trans h.os, k.tape.trans h.tape, k.output.trans h.output, Nat.le_trans h.size k.size, fun i hi hne => (k.block i (Nat.lt_of_lt_of_le hi h.size) hne).trans (h.block i hi hne)⟩
theorem grownBy_of_below {w w' : World} (h : Below w.heap.size w w') (row : Option Nat) : w.grownBy w' row := ⟨h.os, h.tape, h.output, h.size, fun i hi _ => h.block i hi⟩
theorem grownBy_below {w w1 w2 : World} {row : Option Nat} (h : w.grownBy w1 row) (k : Below w1.heap.size w1 w2) : w.grownBy w2 row := grownBy_trans h (grownBy_of_below k row)

variable {w : World} {lo g : Nat} {rest : List UInt8} {fault : Int}

set_option maxHeartbeats 400000 in
theorem rdB_any (h : Rdr w lo g rest fault) :
    Calls Try.prog 16 #[.pointer (some ⟨g, 0, none⟩)] w fun e w' => ∃ v, e = .returned v ∧ Own w' w.heap.size v (rB rest fault).1 ∧ Rdr w' lo g (rB rest fault).2.1 (rB rest fault).2.2 ∧ w.grownBy w' (some g) := by
  obtain ⟨i0, hi, hz, hsz, hby⟩ := info_parts Try.infoByte
  have hle := rB_le rest fault
  go_enter Try.func16, Try.ntmps16
  go_wp2_with fail
  refine (field_any h).mono ?_
  rintro e w1 ⟨v1, rfl, hr1, hrd1, hg1⟩
  have hs1 := hg1.size
  go_wp2_with (at_builtin; refine wpList_append_rd (B := w.heap.size) rfl (.const (.slice none 0 0)) (.tmp 4) _ rfl i0 Try.underlying24 hi hz hsz hby rfl (Own.nil _ _) rfl hr1 (by simp; omega) hs1 ?_; intro v3 w3 ho3 hg3 _)
  go_ret
  have hb3 : Below w1.heap.size w1 w3 := (Below.refl _ _).grown hg3 (Nat.le_refl _) (by simp [Act.eval, Value.ownBlock])
  exact ⟨_, rfl, by simpa using ho3, hrd1.below hb3, grownBy_below hg1 hb3⟩

set_option maxHeartbeats 400000 in
theorem rdT_any (h : Rdr w lo g rest fault) :
    Calls Try.prog 17 #[.pointer (some ⟨g, 0, none⟩)] w fun e w' => e = .returned (.string ⟨(rB rest fault).1.toArray⟩) ∧ Rdr w' lo g (rB rest fault).2.1 (rB rest fault).2.2 ∧ w.grownBy w' (some g) := by
  go_enter Try.func17, Try.ntmps17
  go_wp2_with fail
  refine (field_any h).mono ?_
  rintro e w1 ⟨v1, rfl, hr1, hrd1, hg1⟩
  have hcv := run_str (P := Try.prog) Try.underlying24 Try.underlying5 Try.isString hr1
  go_wp2_with fail
  go_ret
  exact ⟨rfl, hrd1, hg1⟩

/-- what a reader answers for a flag -/
def rF (l : List UInt8) (f : Int) : Bool × List UInt8 × Int :=
  if f ≠ 0 then (false, l, f) else match l with
  | [] => (false, l, 20)
  | x :: r => if 1 < x.toNat then (false, l, 21) else (x.toNat == 1, r, 0)

end Go.Proofs.Ytpcoonnfaoakhaa
namespace Go.Proofs.Ytpcoonnfaoakhaa
set_option maxRecDepth 100000
open Go.RowKit

variable {w : World} {lo g : Nat} {rest : List UInt8} {fault : Int}

theorem rdErr_any (h : Rdr w lo g rest fault) :
    Calls Try.prog 21 #[.pointer (some ⟨g, 0, none⟩)] w fun e w' => e = .returned (.int .i64 fault) ∧ w = w' := by
  obtain ⟨sv, hg, hlo, hr, hs⟩ := h
  have c1 : w.cell? ⟨g, 1, none⟩ = some (.int .i64 fault) := blk_cell hg 1
  go_enter Try.func21, Try.ntmps21
  go_wp2
  go_ret
  exact ⟨rfl, rfl⟩

/-- a reader's last word -/
def rEnd (l : List UInt8) (f : Int) : Int := if f ≠ 0 then f else if 0 < l.length then 23 else 0

set_option maxHeartbeats 400000 in
theorem rdEnd_any (h : Rdr w lo g rest fault) :
    Calls Try.prog 19 #[.pointer (some ⟨g, 0, none⟩)] w fun e w' => e = .returned (.int .i64 (rEnd rest fault)) ∧ w = w' := by
  have h0 := h
  obtain ⟨sv, hg, hlo, ⟨A, c, rfl, hc, hcm, hp⟩, hs⟩ := h
  have c0 : w.cell? ⟨g, 0, none⟩ = some (.slice A rest.length c) := blk_cell hg 0
  unfold rEnd
  by_cases hf : fault = 0
  · subst hf
    by_cases hl : 0 < rest.length
    · have j : (0 : Int) < (rest.length : Int) := by omega
      rw [if_neg (by simp), if_pos hl]
      go_enter Try.func19, Try.ntmps19
      go_wp2_with fail
      refine (rdErr_any h0).mono ?_
      rintro e w' ⟨rfl, rfl⟩
      go_wp2_with fail
      go_ret
      exact ⟨rfl, rfl⟩
    · have j : ¬ (0 : Int) < (rest.length : Int) := by omega
      rw [if_neg (by simp), if_neg hl]
      go_enter Try.func19, Try.ntmps19
      go_wp2_with fail
      refine (rdErr_any h0).mono ?_
      rintro e w' ⟨rfl, rfl⟩
      go_wp2_with fail
      go_ret
      exact ⟨rfl, rfl⟩
  · have j : (fault != 0) = true := by simp [hf]
    rw [if_pos hf]
    go_enter Try.func19, Try.ntmps19
    go_wp2_with fail
    refine (rdErr_any h0).mono ?_
    rintro e w' ⟨rfl, rfl⟩
    go_wp2_with fail
    go_ret
    exact ⟨rfl, rfl⟩

/-- what a reader answers for a count -/
def rC (most : Int) (l : List UInt8) (f : Int) : Int × List UInt8 × Int :=
  if f ≠ 0 then (0, l, f) else if l.length < 8 then (0, l, 20) else if most < 0 ∨ most < (beVal (l.take 8) : Int) then (0, l, 22) else ((beVal (l.take 8) : Int), l.drop 8, 0)

set_option maxHeartbeats 1000000 in
theorem rdC_any (h : Rdr w lo g rest fault) (most : Int) (hm : most ≤ 9223372036854775807) (hm' : -9223372036854775808 ≤ most) :
    Calls Try.prog 22 #[.pointer (some ⟨g, 0, none⟩), .int .i64 most] w fun e w' => e = .returned (.int .i64 (rC most rest fault).1) ∧ Rdr w' lo g (rC most rest fault).2.1 (rC most rest fault).2.2 ∧ w.grownBy w' (some g) := by
  by_cases hf : fault = 0
  · have h0 := h
    obtain ⟨sv, hg, hlo, hr, hs⟩ := h
    obtain ⟨A, c, rfl, hc, hcm, hp⟩ := hr
    have c0 : w.cell? ⟨g, 0, none⟩ = some (.slice A rest.length c) := blk_cell hg 0
    have c1 : w.cell? ⟨g, 1, none⟩ = some (.int .i64 fault) := blk_cell hg 1
    have z0 : w.frozen? ⟨g, 0, none⟩ = false := blk_free hg 0
    have z1 : w.frozen? ⟨g, 1, none⟩ = false := blk_free hg 1
    by_cases hl : rest.length < 8
    · have e : rC most rest fault = (0, rest, 20) := by simp [rC, hf, hl]
      rw [e]
      clear e
      have i1 : (rest.length : Int) < 8 := by omega
      go_enter Try.func22, Try.ntmps22
      go_wp2_with fail
      refine (ready_any h0 true (by simp [hf])).mono ?_
      rintro e w' ⟨rfl, rfl⟩
      go_wp2_with fail
      go_ret
      exact ⟨rfl, h0.put1 20, grown_setR _ _ _ _⟩
    · obtain ⟨b, o, rfl, hb, hcell⟩ := hp (by omega)
      have i1 : (8 : Int) ≤ (rest.length : Int) := by omega
      have i2 : (rest.length : Int) ≤ (c : Int) := by omega
      have hbv : beVal (rest.take 8) < 256 ^ 8 := beVal_lt8 _ 8 (by simp; omega)
      obtain ⟨n, hn'⟩ : ∃ n, n = beVal (rest.take 8) := ⟨_, rfl⟩
      have HN := Lib.hid hn'
      have hhigh := high_any h0 8 (by omega) (by omega)
      rw [← hn'] at hhigh hbv
      have e0 : rC most rest fault = if most < 0 ∨ most < (n : Int) then (0, rest, 22) else ((n : Int), rest.drop 8, 0) := by simp [rC, hf, hl, hn']
      rw [e0]
      clear e0 hn'
      by_cases hneg : most < 0
      · rw [if_pos (Or.inl hneg)]
        go_enter Try.func22, Try.ntmps22
        go_wp2_with fail
        refine (ready_any h0 true (by simp [hf])).mono ?_
        rintro e w' ⟨rfl, rfl⟩
        go_wp2_with fail
        refine hhigh.mono ?_
        rintro e w' ⟨rfl, rfl⟩
        go_wp2_with fail
        go_ret
        exact ⟨rfl, h0.put1 22, grown_setR _ _ _ _⟩
      · by_cases hbig : most < (n : Int)
        · rw [if_pos (Or.inr hbig)]
          have k0 : 0 ≤ most := by omega
          go_enter Try.func22, Try.ntmps22
          go_wp2_with fail
          refine (ready_any h0 true (by simp [hf])).mono ?_
          rintro e w' ⟨rfl, rfl⟩
          go_wp2_with fail
          refine hhigh.mono ?_
          rintro e w' ⟨rfl, rfl⟩
          go_wp2_with fail
          go_ret
          exact ⟨rfl, h0.put1 22, grown_setR _ _ _ _⟩
        · rw [if_neg (by omega)]
          have k0 : 0 ≤ most := by omega
          have k1 : (n : Int) ≤ most := by omega
          go_enter Try.func22, Try.ntmps22
          go_wp2_with fail
          refine (ready_any h0 true (by simp [hf])).mono ?_
          rintro e w' ⟨rfl, rfl⟩
          go_wp2_with fail
          refine hhigh.mono ?_
          rintro e w' ⟨rfl, rfl⟩
          go_wp2_with fail
          all_goals
            subst hf
            go_ret
            exact ⟨rfl, RdT.put0 hg hlo (rd_cut (k := 8) hb hcell (by omega) (by omega) (by intro h; omega) (by omega) (by omega)) hs, grown_setR _ _ _ _⟩
  · have e : rC most rest fault = (0, rest, fault) := by simp [rC, hf]
    rw [e]
    clear e
    go_enter Try.func22, Try.ntmps22
    go_wp2_with fail
    refine (ready_any h false (by simp [hf])).mono ?_
    rintro e w' ⟨rfl, rfl⟩
    go_wp2_with fail
    go_ret
    exact ⟨rfl, h, World.grownBy.refl _ _⟩

set_option maxHeartbeats 400000 in
theorem open_rd (v : Value) (l : List UInt8) (w : World) (hr : Rd w w.heap.size v l) (hl : l.length ≤ 140737488355320) :
    Calls Try.prog 13 #[v] w fun e w' => ∃ g, e = .returned (.pointer (some ⟨g, 0, none⟩)) ∧ Rdr w' w.heap.size g l 0 ∧ Below w.heap.size w w' := by
  go_enter Try.func13, Try.ntmps13
  go_wp2_with fail
  refine (clone_any v l w hr hl).mono ?_
  rintro e w1 ⟨v1, rfl, ho1, hb1⟩
  obtain ⟨A, c, rfl⟩ := ho1.form
  go_wp2_with fail
  go_ret
  refine ⟨_, rfl, ⟨_, heap_alloc_new _ _, hb1.size, (ho1.rd).alloc (Nat.le_refl _) _, fun k hk => (ho1.lt k hk).1⟩, hb1.alloc hb1.size _⟩
end Go.Proofs.Ytpcoonnfaoakhaa
namespace Go.Proofs.Ytpcoonnfaoakhaa
set_option maxRecDepth 100000

theorem be_lt (n k : Nat) : beVal (be n k) = n % 256 ^ k := by
  induction k with
  | zero => simp [be, beVal, Nat.mod_one]
  | succ k ih =>
    have h1 : ∀ (l : List UInt8) (a : Nat), l.foldl (fun n x => n * 256 + x.toNat) a = a * 256 ^ l.length + beVal l := by
      intro l
      induction l with
      | nil => intro a; simp [beVal]
      | cons x l ih2 =>
        intro a
        simp only [List.foldl_cons, List.length_cons, beVal]
        rw [ih2, ih2 (0 * 256 + x.toNat), Nat.pow_succ]
        simp only [Nat.zero_mul, Nat.zero_add, Nat.add_mul, Nat.mul_assoc, Nat.add_assoc, Nat.mul_comm 256]
    have h2 : beVal (be n (k + 1)) = (UInt8.ofNat (n / 2 ^ (8 * k))).toNat * 256 ^ k + beVal (be n k) := by
      simp only [be]
      rw [show beVal (UInt8.ofNat (n / 2 ^ (8 * k)) :: be n k) = (be n k).foldl (fun n x => n * 256 + x.toNat) (UInt8.ofNat (n / 2 ^ (8 * k))).toNat by simp [beVal], h1, be_length]
    rw [h2, ih]
    have h3 : (2 : Nat) ^ (8 * k) = 256 ^ k := by rw [Nat.pow_mul]
    rw [h3, UInt8.toNat_ofNat']
    have h4 : n % 256 ^ (k + 1) = 256 ^ k * (n / 256 ^ k % 256) + n % 256 ^ k := by
      rw [Nat.pow_succ, Nat.mod_mul]
      omega
    rw [h4, Nat.mul_comm]
end Go.Proofs.Ytpcoonnfaoakhaa
namespace Go.Proofs.Ytpcoonnfaoakhaa
set_option maxRecDepth 100000

/-- four numbers of 64 bits, the lowest first -/
structure U4 where
  a : Nat
  b : Nat
  c : Nat
  d : Nat

namespace U4
def ok (x : U4) : Prop := x.a < 18446744073709551616 ∧ x.b < 18446744073709551616 ∧ x.c < 18446744073709551616 ∧ x.d < 18446744073709551616
/-- the number that they are -/
def nat (x : U4) : Nat := x.a + 18446744073709551616 * x.b + 340282366920938463463374607431768211456 * x.c + 6277101735386680763835789423207666416102355444464034512896 * x.d
def zero : U4 := ⟨0, 0, 0, 0⟩
end U4
/-- the first number that doesn't fit -/
def top : Nat := 115792089237316195423570985008687907853269984665640564039457584007913129639936
def ofN (n : Nat) : U4 := ⟨n % 18446744073709551616, n / 18446744073709551616 % 18446744073709551616, n / 340282366920938463463374607431768211456 % 18446744073709551616, n / 6277101735386680763835789423207666416102355444464034512896 % 18446744073709551616⟩

theorem zero_ok : U4.zero.ok := by unfold U4.ok U4.zero; decide
/-- adding: what is there and what is carried behind k steps -/
def addSt (x y : U4) : Nat → U4 × Nat
  | 0 => (⟨0, 0, 0, 0⟩, 0)
  | 1 => (⟨(x.a + y.a + 0) % 18446744073709551616, 0, 0, 0⟩, (x.a + y.a + 0) / 18446744073709551616)
  | 2 => (⟨(addSt x y 1).1.a, (x.b + y.b + (addSt x y 1).2) % 18446744073709551616, 0, 0⟩, (x.b + y.b + (addSt x y 1).2) / 18446744073709551616)
  | 3 => (⟨(addSt x y 2).1.a, (addSt x y 2).1.b, (x.c + y.c + (addSt x y 2).2) % 18446744073709551616, 0⟩, (x.c + y.c + (addSt x y 2).2) / 18446744073709551616)
  | 4 => (⟨(addSt x y 3).1.a, (addSt x y 3).1.b, (addSt x y 3).1.c, (x.d + y.d + (addSt x y 3).2) % 18446744073709551616⟩, (x.d + y.d + (addSt x y 3).2) / 18446744073709551616)
  | _ => (⟨0, 0, 0, 0⟩, 0)
/-- the sum, and whether it fits -/
def addU (x y : U4) : U4 × Bool := if x.nat + y.nat < top then (ofN (x.nat + y.nat), true) else (U4.zero, false)
/-- taking away -/
def subSt (x y : U4) : Nat → U4 × Nat
  | 0 => (⟨0, 0, 0, 0⟩, 0)
  | 1 => (⟨(x.a + 18446744073709551616 - y.a - 0) % 18446744073709551616, 0, 0, 0⟩, if x.a < y.a + 0 then 1 else 0)
  | 2 => (⟨(subSt x y 1).1.a, (x.b + 18446744073709551616 - y.b - (subSt x y 1).2) % 18446744073709551616, 0, 0⟩, if x.b < y.b + (subSt x y 1).2 then 1 else 0)
  | 3 => (⟨(subSt x y 2).1.a, (subSt x y 2).1.b, (x.c + 18446744073709551616 - y.c - (subSt x y 2).2) % 18446744073709551616, 0⟩, if x.c < y.c + (subSt x y 2).2 then 1 else 0)
  | 4 => (⟨(subSt x y 3).1.a, (subSt x y 3).1.b, (subSt x y 3).1.c, (x.d + 18446744073709551616 - y.d - (subSt x y 3).2) % 18446744073709551616⟩, if x.d < y.d + (subSt x y 3).2 then 1 else 0)
  | _ => (⟨0, 0, 0, 0⟩, 0)
def subU (x y : U4) : U4 × Bool := if y.nat ≤ x.nat then (ofN (x.nat - y.nat), true) else (U4.zero, false)
/-- times a number of 64 bits -/
def mulSt (x : U4) (k : Nat) : Nat → U4 × Nat
  | 0 => (⟨0, 0, 0, 0⟩, 0)
  | 1 => (⟨(x.a * k + 0) % 18446744073709551616, 0, 0, 0⟩, (x.a * k + 0) / 18446744073709551616)
  | 2 => (⟨(mulSt x k 1).1.a, (x.b * k + (mulSt x k 1).2) % 18446744073709551616, 0, 0⟩, (x.b * k + (mulSt x k 1).2) / 18446744073709551616)
  | 3 => (⟨(mulSt x k 2).1.a, (mulSt x k 2).1.b, (x.c * k + (mulSt x k 2).2) % 18446744073709551616, 0⟩, (x.c * k + (mulSt x k 2).2) / 18446744073709551616)
  | 4 => (⟨(mulSt x k 3).1.a, (mulSt x k 3).1.b, (mulSt x k 3).1.c, (x.d * k + (mulSt x k 3).2) % 18446744073709551616⟩, (x.d * k + (mulSt x k 3).2) / 18446744073709551616)
  | _ => (⟨0, 0, 0, 0⟩, 0)
def mulU (x : U4) (k : Nat) : U4 × Bool := if x.nat * k < top then (ofN (x.nat * k), true) else (U4.zero, false)
end Go.Proofs.Ytpcoonnfaoakhaa
namespace Go.Proofs.Ytpcoonnfaoakhaa
set_option maxRecDepth 100000

def byL (n : Nat) : Nat → List Nat
  | 0 => []
  | k + 1 => byL n k ++ [n / 256 ^ k % 256]
def valL : List Nat → Nat
  | [] => 0
  | d :: r => d + 256 * valL r
/-- a byte of a number of 64 bits is one of the whole -/
theorem part8 (N i k : Nat) (hk : k < 8) : N / 256 ^ (8 * i) % 18446744073709551616 / 256 ^ k % 256 = N / 256 ^ (8 * i + k) % 256 := by
  rw [Nat.pow_add, ← Nat.div_div_eq_div_mul]
  generalize N / 256 ^ (8 * i) = M
  have hk' : k = 0 ∨ k = 1 ∨ k = 2 ∨ k = 3 ∨ k = 4 ∨ k = 5 ∨ k = 6 ∨ k = 7 := by omega
  rcases hk' with rfl | rfl | rfl | rfl | rfl | rfl | rfl | rfl <;> simp only [Nat.reducePow] <;> omega
theorem pow8 : 256 ^ (8 * 0) = 1 ∧ 256 ^ (8 * 1) = 18446744073709551616 ∧ 256 ^ (8 * 2) = 340282366920938463463374607431768211456 ∧ 256 ^ (8 * 3) = 6277101735386680763835789423207666416102355444464034512896 := by decide +kernel
def U4.at' (x : U4) : Nat → Nat
  | 0 => x.a
  | 1 => x.b
  | 2 => x.c
  | _ => x.d
theorem at_part {x : U4} (h : x.ok) (i : Nat) (hi : i < 4) : x.at' i = x.nat / 256 ^ (8 * i) % 18446744073709551616 := by
  obtain ⟨h1, h2, h3, h4⟩ := h
  obtain ⟨p0, p1, p2, p3⟩ := pow8
  have hi' : i = 0 ∨ i = 1 ∨ i = 2 ∨ i = 3 := by omega
  obtain ⟨a, b, c, d⟩ := x
  simp only at h1 h2 h3 h4
  rcases hi' with rfl | rfl | rfl | rfl
  · rw [p0]; simp only [U4.at', U4.nat]; omega
  · rw [p1]; simp only [U4.at', U4.nat]; omega
  · rw [p2]; simp only [U4.at', U4.nat]; omega
  · rw [p3]; simp only [U4.at', U4.nat]; omega
theorem at_byte {x : U4} (h : x.ok) (i k : Nat) (hi : i < 4) (hk : k < 8) : x.at' i / 256 ^ k % 256 = x.nat / 256 ^ (8 * i + k) % 256 := by
  rw [at_part h i hi, part8 _ _ _ hk]
end Go.Proofs.Ytpcoonnfaoakhaa
namespace Go.Proofs.Ytpcoonnfaoakhaa
set_option maxRecDepth 100000

/-- the number that bytes are, the highest first -/
def valB (b : List UInt8) : Nat := valL (b.reverse.map UInt8.toNat)
end Go.Proofs.Ytpcoonnfaoakhaa
namespace Go.Proofs.Ytpcoonnfaoakhaa
set_option maxRecDepth 100000
open Go Go.RowKit

/-- what 32 bytes are as a number; anything else is refused -/
def fromU (l : List UInt8) : U4 × Int := if l.length = 32 then (ofN (valB l), 0) else (U4.zero, 21)
end Go.Proofs.Ytpcoonnfaoakhaa
namespace Go.Proofs.Ytpcoonnfaoakhaa
set_option maxRecDepth 100000
open Go.RowKit

def U4.cells (x : U4) : Array Value := #[.int .u64 (x.a : Int), .int .u64 (x.b : Int), .int .u64 (x.c : Int), .int .u64 (x.d : Int)]
def U4.val (x : U4) : Value := .agg x.cells

def LBlk (w : World) (g : Nat) (cs : Array Value) : Prop := w.heap[g]? = some (.cells cs 45 (0, 0))

/-- the number at a place -/
def U4.at (x : U4) : Nat → Nat
  | 0 => x.a
  | 1 => x.b
  | 2 => x.c
  | _ => x.d
theorem LBlk.cell {w : World} {g : Nat} {cs : Array Value} (h : LBlk w g cs) (i : Nat) : w.cell? ⟨g, i, none⟩ = cs[i]? := blk_cell h i
theorem LBlk.free {w : World} {g : Nat} {cs : Array Value} (h : LBlk w g cs) (i : Nat) : w.frozen? ⟨g, i, none⟩ = false := blk_free h i
theorem LBlk.new (w : World) (cs : Array Value) : LBlk (w.alloc (.cells cs 45)) w.heap.size cs := heap_alloc_new w _
theorem LBlk.lt {w : World} {g : Nat} {cs : Array Value} (h : LBlk w g cs) : g < w.heap.size := blk_lt h
theorem LBlk.alloc {w : World} {g : Nat} {cs : Array Value} (h : LBlk w g cs) (o : Obj) : LBlk (w.alloc o) g cs := (Below.heap_alloc w o g h.lt).trans h
theorem LBlk.drew {w : World} {g : Nat} {cs : Array Value} (h : LBlk w g cs) : LBlk w.drew g cs := h
theorem LBlk.set_ {w : World} {g : Nat} {cs : Array Value} (h : LBlk w g cs) (i : Nat) (u : Value) : LBlk (w.setCell ⟨g, i, none⟩ u) g (cs.setIfInBounds i u) := blk_set h i u
theorem LBlk.far {w : World} {g g' : Nat} {cs : Array Value} (h : LBlk w g cs) (hne : g ≠ g') (i : Nat) (u : Value) : LBlk (w.setCell ⟨g', i, none⟩ u) g cs := (Below.heap_setCell w ⟨g', i, none⟩ u g hne).trans h
theorem LBlk.below {w w' : World} {g B : Nat} {cs : Array Value} (h : LBlk w g cs) (hb : Below B w w') (hg : g < B) : LBlk w' g cs := (hb.block g hg).trans h
theorem U4.cell_at (x : U4) {k : Nat} (h : k < 4) : x.cells[k]? = some (.int .u64 (x.at k : Int)) := by
  have : k = 0 ∨ k = 1 ∨ k = 2 ∨ k = 3 := by omega
  rcases this with rfl | rfl | rfl | rfl <;> rfl
theorem four (w : World) (X Y Z S : Array Value) : LBlk ((((w.alloc (.cells X 45)).alloc (.cells Y 45)).alloc (.cells Z 45)).alloc (.cells S 45)) w.heap.size X ∧
    LBlk ((((w.alloc (.cells X 45)).alloc (.cells Y 45)).alloc (.cells Z 45)).alloc (.cells S 45)) (w.heap.size + 1) Y ∧
    LBlk ((((w.alloc (.cells X 45)).alloc (.cells Y 45)).alloc (.cells Z 45)).alloc (.cells S 45)) (w.heap.size + 1 + 1) Z ∧
    LBlk ((((w.alloc (.cells X 45)).alloc (.cells Y 45)).alloc (.cells Z 45)).alloc (.cells S 45)) (w.heap.size + 1 + 1 + 1) S ∧
    Below w.heap.size w ((((w.alloc (.cells X 45)).alloc (.cells Y 45)).alloc (.cells Z 45)).alloc (.cells S 45)) := by
  refine ⟨(((LBlk.new w X).alloc _).alloc _).alloc _, ?_, ?_, ?_, ((((Below.refl _ _).alloc (Nat.le_refl _) _).alloc (by simp) _).alloc (by simp; omega) _).alloc (by simp; omega) _⟩
  · have := ((LBlk.new (w.alloc (.cells X 45)) Y).alloc (.cells Z 45)).alloc (.cells S 45)
    simpa using this
  · have := (LBlk.new ((w.alloc (.cells X 45)).alloc (.cells Y 45)) Z).alloc (.cells S 45)
    simpa using this
  · have := LBlk.new (((w.alloc (.cells X 45)).alloc (.cells Y 45)).alloc (.cells Z 45)) S
    simpa using this
/-- all four cells of a block -/
theorem LBlk.all {w : World} {g : Nat} {s : U4} (h : LBlk w g s.cells) : w.cell? ⟨g, 0, none⟩ = some (.int .u64 (s.a : Int)) ∧ w.cell? ⟨g, 1, none⟩ = some (.int .u64 (s.b : Int)) ∧ w.cell? ⟨g, 2, none⟩ = some (.int .u64 (s.c : Int)) ∧ w.cell? ⟨g, 3, none⟩ = some (.int .u64 (s.d : Int)) :=
  ⟨h.cell 0, h.cell 1, h.cell 2, h.cell 3⟩

end Go.Proofs.Ytpcoonnfaoakhaa
namespace Go.Proofs.Ytpcoonnfaoakhaa
set_option maxRecDepth 100000
open Go.RowKit

end Go.Proofs.Ytpcoonnfaoakhaa
namespace Go.Proofs.Ytpcoonnfaoakhaa
set_option maxRecDepth 100000
open Go Go.RowKit

/-- are they the same? -/
def eqB (x y : U4) : Bool := decide (x.a = y.a) && (decide (x.b = y.b) && (decide (x.c = y.c) && decide (x.d = y.d)))
end Go.Proofs.Ytpcoonnfaoakhaa
namespace Go.Proofs.Ytpcoonnfaoakhaa
set_option maxRecDepth 100000
open Go Go.RowKit

/-- what Cmp answers -/
def cmpN (m n : Nat) : Int := if m = n then 0 else if n < m then 1 else -1

end Go.Proofs.Ytpcoonnfaoakhaa
namespace Go.Proofs.Ytpcoonnfaoakhaa
set_option maxRecDepth 100000

/-- the form of what is put -/
def encB (m : List UInt8) : List UInt8 := be (m.take 65535).length 4 ++ m.take 65535
theorem rB_enc (m : List UInt8) (rest : List UInt8) : rB (encB m ++ rest) 0 = (m.take 65535, rest, 0) := by
  have hl : (m.take 65535).length ≤ 65535 := by simp; omega
  unfold encB
  generalize m.take 65535 = t at *
  have h1 : (be t.length 4 ++ t ++ rest).take 4 = be t.length 4 := by
    rw [List.append_assoc, List.take_append_of_le_length (by simp [be_length]), List.take_of_length_le (by simp [be_length])]
  have h2 : (be t.length 4 ++ t ++ rest).drop 4 = t ++ rest := by
    rw [List.append_assoc, List.drop_append_of_le_length (by simp [be_length]), List.drop_of_length_le (by simp [be_length]), List.nil_append]
  have h3 : beVal (be t.length 4) = t.length := by rw [be_lt, Nat.mod_eq_of_lt (by omega)]
  unfold rB
  rw [if_neg (by simp), if_neg (by simp [be_length]), h1, h3, if_neg (by omega), if_neg (by simp [be_length]), h2]
  rw [← List.drop_drop, h2]
  simp
end Go.Proofs.Ytpcoonnfaoakhaa
namespace Go.Proofs.Ytpcoonnfaoakhaa
set_option maxRecDepth 100000
open Go Go.RowKit
set_option linter.unusedVariables false

end Go.Proofs.Ytpcoonnfaoakhaa
namespace Go.Proofs.Ytpcoonnfaoakhaa
set_option maxRecDepth 100000
open Go Go.RowKit
set_option linter.unusedVariables false

/-- made at w0: the result's block gr, the struct's block gd, the reader g -/
structure PZ (T : Nat) (w0 : World) (gr gd lo g : Nat) (tr td : TypeId) (cr cd : Array Value) (rest : List UInt8) (fault : Int) (W : World) : Prop where
  below : Below w0.heap.size w0 W
  hr : w0.heap.size ≤ gr
  hd : w0.heap.size ≤ gd
  res : W.heap[gr]? = some (.cells cr tr (0, 0))
  loc : W.heap[gd]? = some (.cells cd td (0, 0))
  rd : RdT T W lo g rest fault
  o1 : gr < lo
  o2 : g < gd
section
variable {T : Nat} {w0 W W' : World} {gr gd lo g : Nat} {tr td : TypeId} {cr cd : Array Value} {rest rest' : List UInt8} {fault fault' : Int}
theorem PZ.lo' (h : PZ T w0 gr gd lo g tr td cr cd rest fault W) : gr < g := Nat.lt_of_lt_of_le h.o1 h.rd.from_
theorem PZ.up (h : PZ T w0 gr gd lo g tr td cr cd rest fault W) (hb : Below W.heap.size W W') : PZ T w0 gr gd lo g tr td cr cd rest fault W' where
  below := below_chain h.below h.below.size hb
  hr := h.hr
  hd := h.hd
  res := (hb.block _ (blk_lt h.res)).trans h.res
  loc := (hb.block _ (blk_lt h.loc)).trans h.loc
  rd := h.rd.below hb
  o1 := h.o1
  o2 := h.o2
theorem PZ.call (h : PZ T w0 gr gd lo g tr td cr cd rest fault W) (hg : W.grownBy W' (some g)) (hr : RdT T W' lo g rest' fault') : PZ T w0 gr gd lo g tr td cr cd rest' fault' W' where
  below := h.below.grown hg h.below.size (fun k hk => by injection hk with hk; have := h.lo'; have := h.hr; omega)
  hr := h.hr
  hd := h.hd
  res := (hg.block _ (blk_lt h.res) (fun e => by injection e with e; have := h.lo'; omega)).trans h.res
  loc := (hg.block _ (blk_lt h.loc) (fun e => by injection e with e; have := h.o2; omega)).trans h.loc
  rd := hr
  o1 := h.o1
  o2 := h.o2
theorem PZ.set (h : PZ T w0 gr gd lo g tr td cr cd rest fault W) (i : Nat) (u : Value) : PZ T w0 gr gd lo g tr td cr (cd.setIfInBounds i u) rest fault (W.setCell ⟨gd, i, none⟩ u) where
  below := h.below.setCell h.hd u
  hr := h.hr
  hd := h.hd
  res := (Below.heap_setCell W ⟨gd, i, none⟩ u gr (by have := h.lo'; have := h.o2; show gr ≠ gd; omega)).trans h.res
  loc := blk_set h.loc i u
  rd := h.rd.grown (grown_setR W gd i u) (Or.inr h.o2)
  o1 := h.o1
  o2 := h.o2
theorem PZ.other (h : PZ T w0 gr gd lo g tr td cr cd rest fault W) {gu : Nat} (hu : gd < gu) (i : Nat) (u : Value) : PZ T w0 gr gd lo g tr td cr cd rest fault (W.setCell ⟨gu, i, none⟩ u) where
  below := h.below.setCell (by have := h.hd; show w0.heap.size ≤ gu; omega) u
  hr := h.hr
  hd := h.hd
  res := (Below.heap_setCell W ⟨gu, i, none⟩ u gr (by have := h.lo'; have := h.o2; show gr ≠ gu; omega)).trans h.res
  loc := (Below.heap_setCell W ⟨gu, i, none⟩ u gd (by show gd ≠ gu; omega)).trans h.loc
  rd := h.rd.grown (grown_setR W gu i u) (Or.inr (by have := h.o2; omega))
  o1 := h.o1
  o2 := h.o2
theorem PZ.drew (h : PZ T w0 gr gd lo g tr td cr cd rest fault W) : PZ T w0 gr gd lo g tr td cr cd rest fault W.drew := h.up (Below.drew (Below.refl _ _))
theorem PZ.alloc (h : PZ T w0 gr gd lo g tr td cr cd rest fault W) (o : Obj) : PZ T w0 gr gd lo g tr td cr cd rest fault (W.alloc o) := h.up ((Below.refl _ _).alloc (Nat.le_refl _) o)
/-- the result's block, all cells stored -/
theorem PZ.out (h : PZ T w0 gr gd lo g tr td cr cd rest fault W) : Below w0.heap.size w0 W := h.below
end
end Go.Proofs.Ytpcoonnfaoakhaa
namespace Go.Proofs.Ytpcoonnfaoakhaa
set_option maxRecDepth 100000
open Go Go.RowKit
set_option linter.unusedVariables false

/-- a field, read out of a struct, is equal to itself -/
def SelfF (xs : Array Value) (f : Field) : Prop := ∃ a, (∀ w, (part f.type xs f.offset).run Try.prog w = .ok a w) ∧ ∀ w, (Op.equalIn 9999 f.type a a).run Try.prog w = .ok true w
end Go.Proofs.Ytpcoonnfaoakhaa
