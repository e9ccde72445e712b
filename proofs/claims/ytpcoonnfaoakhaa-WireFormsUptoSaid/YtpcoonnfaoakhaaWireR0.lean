
/- The walks of package wire: a flag put. The walks: the reader. The walks: the reader's numbers. The walks: the reader's bytes, texts, flags, counts. The walks: the reader's bytes, texts, flags, counts. The walks: the reader's counts, what is left, faults; a new reader; no reader. -/
import Derived.Test.YtpcoonnfaoakhaaWireW0
import Derived.Test.YtpcoonnfaoakhaaInfo1
import Derived.Test.YtpcoonnfaoakhaaBase0
namespace Go.Proofs.Ytpcoonnfaoakhaa
set_option maxRecDepth 100000
open Go.RowKit

/-- the byte of a flag -/
def fb (yes : Bool) : UInt8 := if yes then 1 else 0

set_option maxHeartbeats 400000 in
theorem F_any (v : Value) (yes : Bool) (l : List UInt8) (w : World) (hr : Rd w w.heap.size v l) (hl : l.length ≤ 140737488355320) :
    Calls Try.prog 12 #[v, .bool yes] w fun e w' => ∃ v', e = .returned v' ∧ Own w' w.heap.size v' (l ++ [fb yes]) ∧ Below w.heap.size w w' := by
  obtain ⟨i0, hi, hz, hsz, hby⟩ := info_parts Try.infoByte
  cases yes
  · go_enter Try.func12, Try.ntmps12
    go_wp2_with fail
    refine (grown_any v l _ w hr (by omega) (by omega)).mono ?_
    rintro e w1 ⟨v1, rfl, ho1, hb1⟩
    go_wp2_with (at_builtin; refine wpList_append_rd rfl (.tmp 12) (.tmp 13) _ rfl i0 Try.underlying24 hi hz hsz hby rfl (ho1.alloc _) rfl (rd_lit w1 _ [0] 1 rfl (by simp [bcells, bval]) (by simp [maxLen])) (by simp; omega) (by have := hb1.size; simp; omega) ?_; intro v3 w3 ho3 hg3 _)
    go_ret
    exact ⟨_, rfl, ho3, Own.below_grown (hb1.alloc hb1.size _) (ho1.alloc _) (Nat.le_refl _) (by have := hb1.size; simp; omega) hg3⟩
  · go_enter Try.func12, Try.ntmps12
    go_wp2_with fail
    refine (grown_any v l _ w hr (by omega) (by omega)).mono ?_
    rintro e w1 ⟨v1, rfl, ho1, hb1⟩
    go_wp2_with (at_builtin; refine wpList_append_rd rfl (.tmp 9) (.tmp 10) _ rfl i0 Try.underlying24 hi hz hsz hby rfl (ho1.alloc _) rfl (rd_lit w1 _ [1] 1 rfl (by simp [bcells, bval]) (by simp [maxLen])) (by simp; omega) (by have := hb1.size; simp; omega) ?_; intro v3 w3 ho3 hg3 _)
    go_ret
    exact ⟨_, rfl, ho3, Own.below_grown (hb1.alloc hb1.size _) (ho1.alloc _) (Nat.le_refl _) (by have := hb1.size; simp; omega) hg3⟩
end Go.Proofs.Ytpcoonnfaoakhaa
namespace Go.Proofs.Ytpcoonnfaoakhaa
set_option maxRecDepth 100000
open Go.RowKit

/-- a reader at block g: what is left, and the fault; its bytes and itself lie in blocks from lo on -/
def RdT (T : Nat) (w : World) (lo g : Nat) (rest : List UInt8) (fault : Int) : Prop :=
  ∃ sv, w.heap[g]? = some (.cells #[sv, .int .i64 fault] T (0, 0)) ∧ lo ≤ g ∧ Rd w g sv rest ∧ (∀ k, sv.ownBlock = some k → lo ≤ k)
abbrev Rdr := RdT 63
section
variable {T : Nat} {w w' : World} {lo g : Nat} {rest : List UInt8} {fault : Int}
theorem RdT.from_ (h : RdT T w lo g rest fault) : lo ≤ g := by obtain ⟨_, _, h, _⟩ := h; exact h
theorem RdT.lt (h : RdT T w lo g rest fault) : g < w.heap.size := by obtain ⟨sv, h, _⟩ := h; exact blk_lt h
/-- kept where nothing from lo to g has turned -/
theorem RdT.keep (h : RdT T w lo g rest fault) (hk : ∀ k, lo ≤ k → k ≤ g → w'.heap[k]? = w.heap[k]?) : RdT T w' lo g rest fault := by
  obtain ⟨sv, hb, hlo, ⟨A, c, hv, hc, hm, hp⟩, hs⟩ := h
  refine ⟨sv, (hk g hlo (Nat.le_refl _)).trans hb, hlo, ⟨A, c, hv, hc, hm, fun h0 => ?_⟩, hs⟩
  obtain ⟨b, o, hA, hbg, hcell⟩ := hp h0
  refine ⟨b, o, hA, hbg, fun j hj => ?_⟩
  rw [← hcell j hj]
  exact World.cell?_of_block (hk b (hs b (by subst hv; subst hA; rfl)) (by omega))
theorem RdT.below (h : RdT T w lo g rest fault) (hb : Below w.heap.size w w') : RdT T w' lo g rest fault := h.keep fun k _ hk => hb.block k (by have := h.lt; omega)
/-- kept where another block alone has turned -/
theorem RdT.grown {g' : Nat} (h : RdT T w lo g rest fault) (hg : w.grownBy w' (some g')) (hne : g' < lo ∨ g < g') : RdT T w' lo g rest fault :=
  h.keep fun k h1 h2 => hg.block k (by have := h.lt; omega) (by intro e; injection e with e; omega)
theorem grown_setR (w : World) (g i : Nat) (u : Value) : w.grownBy (w.setCell ⟨g, i, none⟩ u) (some g) :=
  ⟨rfl, rfl, rfl, by simp [World.setCell], fun k hk hne => Below.heap_setCell w _ u k (by rintro rfl; exact hne rfl)⟩
theorem Rd.set {v : Value} (h : Rd w g v rest) (i : Nat) (u : Value) : Rd (w.setCell ⟨g, i, none⟩ u) g v rest := h.keep fun p hp => World.cell?_setCell_other w _ _ _ (by rintro rfl; simp at hp)
end

variable {w : World} {lo g : Nat} {rest : List UInt8} {fault : Int}

theorem ready_any (h : Rdr w lo g rest fault) (b : Bool) (hb : (fault == 0) = b) :
    Calls Try.prog 32 #[.pointer (some ⟨g, 0, none⟩)] w fun e w' => e = .returned (.bool b) ∧ w = w' := by
  obtain ⟨sv, hg, hlo, hr, hs⟩ := h
  have c1 : w.cell? ⟨g, 1, none⟩ = some (.int .i64 fault) := blk_cell hg 1
  go_enter Try.func32, Try.ntmps32
  go_wp2
  go_ret
  exact ⟨rfl, rfl⟩

/-- the number that bytes are, the highest first -/
def beVal (l : List UInt8) : Nat := l.foldl (fun n x => n * 256 + x.toNat) 0
theorem beVal_snoc (l : List UInt8) (x : UInt8) : beVal (l ++ [x]) = beVal l * 256 + x.toNat := by simp [beVal]
theorem beVal_foldl (l : List UInt8) : ∀ a : Nat, l.foldl (fun n x => n * 256 + x.toNat) a < (a + 1) * 256 ^ l.length := by
  induction l with
  | nil => intro a; simp
  | cons x l ih =>
    intro a
    have h1 := ih (a * 256 + x.toNat)
    have h2 := x.toNat_lt
    have h3 : (a * 256 + x.toNat + 1) * 256 ^ l.length ≤ ((a + 1) * 256) * 256 ^ l.length := Nat.mul_le_mul_right _ (by omega)
    simp only [List.foldl_cons, List.length_cons, Nat.pow_succ]
    have h4 : (a + 1) * (256 ^ l.length * 256) = ((a + 1) * 256) * 256 ^ l.length := by
      rw [Nat.mul_assoc, Nat.mul_comm 256]
    omega
theorem beVal_lt (l : List UInt8) : beVal l < 256 ^ l.length := by simpa [beVal] using beVal_foldl l 0
theorem beVal_lt8 (l : List UInt8) (k : Nat) (h : l.length ≤ k) : beVal l < 256 ^ k := Nat.lt_of_lt_of_le (beVal_lt l) (Nat.pow_le_pow_right (by omega) h)
theorem or_byte (x : Nat) (y : UInt8) (h : x < 72057594037927936) :
    bits BinOp.or IntKind.u64 ((x : Int) * 256) (IntKind.u64.wrap (y.toNat : Int)) = ((x * 256 + y.toNat : Nat) : Int) := by
  have hy := y.toNat_lt
  have e1 : ((x : Int) * 256) = ((x * 256 : Nat) : Int) := by omega
  have e2 : IntKind.u64.wrap (y.toNat : Int) = (y.toNat : Int) := by rw [IntKind.wrap_u64]; omega
  rw [e1, e2, bits_or_u64_nat _ _ (by omega) (by omega)]
  have := Nat.shiftLeft_add_eq_or_of_lt (b := y.toNat) (i := 8) (by omega) x
  rw [Nat.shiftLeft_eq] at this
  rw [show x * 256 = x * 2 ^ 8 from rfl, ← this]

set_option maxHeartbeats 400000 in
theorem high_any (h : Rdr w lo g rest fault) (size : Nat) (hs : size ≤ 8) (hl : size ≤ rest.length) :
    Calls Try.prog 33 #[.pointer (some ⟨g, 0, none⟩), .int .i64 (size : Int)] w fun e w' => e = .returned (.int .u64 (beVal (rest.take size) : Nat)) ∧ w = w' := by
  obtain ⟨sv, hg, hlo, ⟨A, c, rfl, hc, hcm, hp⟩, hss⟩ := h
  have c0 : w.cell? ⟨g, 0, none⟩ = some (.slice A rest.length c) := blk_cell hg 0
  have hb0 : (0 : Int) ≤ (size : Int) := by omega
  have hb1 : (size : Int) ≤ (c : Int) := by omega
  go_enter Try.func33, Try.ntmps33
  go_wp2
  go_loop [5, 15] (fun n i => ∃ k : Nat, k ≤ size ∧ i = .int .i64 (k : Int) ∧ n = .int .u64 (beVal (rest.take k) : Nat)) (fun _ i => size - (intOf i).toNat)
  case atStart => exact ⟨0, Nat.zero_le _, rfl, by simp [beVal]⟩
  case round =>
    obtain ⟨k, hk, rfl, rfl⟩ := hrel
    by_cases hlt : k < size
    · obtain ⟨b, o, rfl, hb, hcell⟩ := hp (by omega)
      have c1 : w.cell? ⟨b, o + k, none⟩ = some (.int .u8 ((rest[k]'(by omega)).toNat : Int)) := hcell k (by omega)
      have hlt2 : beVal (rest.take k) < 256 ^ 7 := beVal_lt8 _ 7 (by simp; omega)
      have ho := or_byte (beVal (rest.take k)) (rest[k]'(by omega)) hlt2
      have hsn : beVal (rest.take (k + 1)) = beVal (rest.take k) * 256 + (rest[k]'(by omega)).toNat := by rw [List.take_succ_eq_append_getElem (by omega), beVal_snoc]
      have HO := Lib.hid ho
      have HS := Lib.hid hsn
      clear ho hsn
      go_wp2
      exact ⟨⟨k + 1, by omega, by go_num, by rw [HO.out, HS.out]⟩, by simp [intOf]; omega⟩
    · have hk' : ¬ (k : Int) < (size : Int) := by omega
      obtain rfl : k = size := by omega
      go_wp2
      go_ret
      exact ⟨rfl, rfl⟩
end Go.Proofs.Ytpcoonnfaoakhaa
namespace Go.Proofs.Ytpcoonnfaoakhaa
set_option maxRecDepth 100000
open Go.RowKit

/-- what a reader answers for a number, what is left, the fault -/
def rN (l : List UInt8) (f : Int) : Nat × List UInt8 × Int :=
  if f ≠ 0 then (0, l, f) else if l.length < 8 then (0, l, 20) else (beVal (l.take 8), l.drop 8, 0)

variable {w : World} {lo g : Nat} {rest : List UInt8} {fault : Int}

theorem RdT.put0 {T : Nat} {sv sv' : Value} {rest' : List UInt8} (hg : w.heap[g]? = some (.cells #[sv, .int .i64 fault] T (0, 0))) (hlo : lo ≤ g) (hr : Rd w g sv' rest')
    (hs : ∀ k, sv'.ownBlock = some k → lo ≤ k) : RdT T (w.setCell ⟨g, 0, none⟩ sv') lo g rest' fault :=
  ⟨sv', by simpa using blk_set hg 0 sv', hlo, hr.set 0 _, hs⟩
theorem RdT.put1 {T : Nat} (h : RdT T w lo g rest fault) (f : Int) : RdT T (w.setCell ⟨g, 1, none⟩ (.int .i64 f)) lo g rest f := by
  obtain ⟨sv, hg, hlo, hr, hs⟩ := h
  exact ⟨sv, by simpa using blk_set hg 1 (.int .i64 f), hlo, hr.set 1 _, hs⟩
theorem rd_cut {B b o o' n' c' k : Nat} (hb : b < B) (hcell : ∀ j (h : j < rest.length), w.cell? ⟨b, o + j, none⟩ = some (bval rest[j])) (hn : n' = rest.length - k) (hk : k ≤ rest.length)
    (ho : 0 < n' → o' = o + k) (hc : n' ≤ c') (hm : c' ≤ maxLen) : Rd w B (.slice (some ⟨b, o', none⟩) n' c') (rest.drop k) := by
  refine ⟨_, c', by rw [List.length_drop, hn], by rw [List.length_drop]; omega, hm, fun h0 => ⟨b, o', rfl, hb, fun j hj => ?_⟩⟩
  rw [List.length_drop] at h0 hj
  rw [ho (by omega), Nat.add_assoc, hcell (k + j) (by omega)]
  simp
theorem rd_piece {B b o o' n n' c' k : Nat} (hb : b < B) (hcell : ∀ j (h : j < rest.length), w.cell? ⟨b, o + j, none⟩ = some (bval rest[j])) (hn : n' = n) (hk : k + n ≤ rest.length)
    (ho : 0 < n' → o' = o + k) (hc : n' ≤ c') (hm : c' ≤ maxLen) : Rd w B (.slice (some ⟨b, o', none⟩) n' c') ((rest.drop k).take n) := by
  subst hn
  have hl : ((rest.drop k).take n').length = n' := by simp; omega
  refine ⟨_, c', by rw [hl], by rw [hl]; exact hc, hm, fun h0 => ⟨b, o', rfl, hb, fun j hj => ?_⟩⟩
  rw [hl] at h0 hj
  rw [ho (by omega), Nat.add_assoc, hcell (k + j) (by omega)]
  simp

set_option maxHeartbeats 400000 in
theorem rN_any (h : Rdr w lo g rest fault) :
    Calls Try.prog 14 #[.pointer (some ⟨g, 0, none⟩)] w fun e w' => e = .returned (.int .u64 ((rN rest fault).1 : Nat)) ∧ Rdr w' lo g (rN rest fault).2.1 (rN rest fault).2.2 ∧ w.grownBy w' (some g) := by
  by_cases hf : fault = 0
  · have h0 := h
    obtain ⟨sv, hg, hlo, hr, hs⟩ := h
    obtain ⟨A, c, rfl, hc, hcm, hp⟩ := hr
    have c0 : w.cell? ⟨g, 0, none⟩ = some (.slice A rest.length c) := blk_cell hg 0
    have c1 : w.cell? ⟨g, 1, none⟩ = some (.int .i64 fault) := blk_cell hg 1
    have z0 : w.frozen? ⟨g, 0, none⟩ = false := blk_free hg 0
    have z1 : w.frozen? ⟨g, 1, none⟩ = false := blk_free hg 1
    by_cases hl : rest.length < 8
    · have e : rN rest fault = (0, rest, 20) := by simp [rN, hf, hl]
      rw [e]
      clear e
      have i1 : (rest.length : Int) < 8 := by omega
      go_enter Try.func14, Try.ntmps14
      go_wp2_with fail
      refine (ready_any h0 true (by simp [hf])).mono ?_
      rintro e w' ⟨rfl, rfl⟩
      go_wp2_with fail
      go_ret
      exact ⟨rfl, h0.put1 20, grown_setR _ _ _ _⟩
    · have e : rN rest fault = (beVal (rest.take 8), rest.drop 8, 0) := by simp [rN, hf, hl]
      rw [e]
      clear e
      obtain ⟨b, o, rfl, hb, hcell⟩ := hp (by omega)
      have i1 : (8 : Int) ≤ (rest.length : Int) := by omega
      have i2 : (rest.length : Int) ≤ (c : Int) := by omega
      go_enter Try.func14, Try.ntmps14
      go_wp2_with fail
      refine (ready_any h0 true (by simp [hf])).mono ?_
      rintro e w' ⟨rfl, rfl⟩
      go_wp2_with fail
      refine (high_any h0 8 (by omega) (by omega)).mono ?_
      rintro e w' ⟨rfl, rfl⟩
      go_wp2_with fail
      all_goals
        subst hf
        go_ret
        exact ⟨rfl, RdT.put0 hg hlo (rd_cut hb hcell rfl (by omega) (by omega) (by omega) (by omega)) hs, grown_setR _ _ _ _⟩
  · have e : rN rest fault = (0, rest, fault) := by simp [rN, hf]
    rw [e]
    clear e
    go_enter Try.func14, Try.ntmps14
    go_wp2_with fail
    refine (ready_any h false (by simp [hf])).mono ?_
    rintro e w' ⟨rfl, rfl⟩
    go_wp2_with fail
    go_ret
    exact ⟨rfl, h, World.grownBy.refl _ _⟩
end Go.Proofs.Ytpcoonnfaoakhaa
namespace Go.Proofs.Ytpcoonnfaoakhaa
set_option maxRecDepth 100000
open Go.RowKit

variable {w : World} {lo g : Nat} {rest : List UInt8} {fault : Int}

/-- what a reader answers for bytes, what is left, the fault -/
def rB (l : List UInt8) (f : Int) : List UInt8 × List UInt8 × Int :=
  if f ≠ 0 then ([], l, f) else if l.length < 4 then ([], l, 20) else if 65535 < beVal (l.take 4) then ([], l, 22)
  else if l.length < 4 + beVal (l.take 4) then ([], l, 20) else ((l.drop 4).take (beVal (l.take 4)), l.drop (4 + beVal (l.take 4)), 0)

set_option maxHeartbeats 1000000 in
theorem field_any (h : Rdr w lo g rest fault) :
    Calls Try.prog 34 #[.pointer (some ⟨g, 0, none⟩)] w fun e w' => ∃ v, e = .returned v ∧ Rd w' g v (rB rest fault).1 ∧ Rdr w' lo g (rB rest fault).2.1 (rB rest fault).2.2 ∧ w.grownBy w' (some g) := by
  by_cases hf : fault = 0
  · have h0 := h
    obtain ⟨sv, hg, hlo, hr, hs⟩ := h
    obtain ⟨A, c, rfl, hc, hcm, hp⟩ := hr
    have c0 : w.cell? ⟨g, 0, none⟩ = some (.slice A rest.length c) := blk_cell hg 0
    have c1 : w.cell? ⟨g, 1, none⟩ = some (.int .i64 fault) := blk_cell hg 1
    have z0 : w.frozen? ⟨g, 0, none⟩ = false := blk_free hg 0
    have z1 : w.frozen? ⟨g, 1, none⟩ = false := blk_free hg 1
    by_cases hl : rest.length < 4
    · have e : rB rest fault = ([], rest, 20) := by simp [rB, hf, hl]
      rw [e]
      clear e
      have i1 : (rest.length : Int) < 4 := by omega
      go_enter Try.func34, Try.ntmps34
      go_wp2_with fail
      refine (ready_any h0 true (by simp [hf])).mono ?_
      rintro e w' ⟨rfl, rfl⟩
      go_wp2_with fail
      go_ret
      exact ⟨_, rfl, Rd.nil _ _, h0.put1 20, grown_setR _ _ _ _⟩
    · obtain ⟨b, o, rfl, hb, hcell⟩ := hp (by omega)
      have i1 : (4 : Int) ≤ (rest.length : Int) := by omega
      have i2 : (rest.length : Int) ≤ (c : Int) := by omega
      have hbv : beVal (rest.take 4) < 256 ^ 4 := beVal_lt8 _ 4 (by simp; omega)
      have hbound : (beVal (rest.take 4) : Int) ≤ 4294967295 := by omega
      by_cases hn : 65535 < beVal (rest.take 4)
      · have e : rB rest fault = ([], rest, 22) := by simp [rB, hf, hl, hn]
        rw [e]
        clear e
        have i3 : (65535 : Int) < (beVal (rest.take 4) : Int) := by omega
        go_enter Try.func34, Try.ntmps34
        go_wp2_with fail
        refine (ready_any h0 true (by simp [hf])).mono ?_
        rintro e w' ⟨rfl, rfl⟩
        go_wp2_with fail
        refine (high_any h0 4 (by omega) (by omega)).mono ?_
        rintro e w' ⟨rfl, rfl⟩
        go_wp2_with fail
        go_ret
        exact ⟨_, rfl, Rd.nil _ _, h0.put1 22, grown_setR _ _ _ _⟩
      · by_cases hm : rest.length < 4 + beVal (rest.take 4)
        · have e : rB rest fault = ([], rest, 20) := by simp [rB, hf, hl, hn, hm]
          rw [e]
          clear e
          have i3 : (beVal (rest.take 4) : Int) ≤ 65535 := by omega
          have i4 : (rest.length : Int) < 4 + (beVal (rest.take 4) : Int) := by omega
          go_enter Try.func34, Try.ntmps34
          go_wp2_with fail
          refine (ready_any h0 true (by simp [hf])).mono ?_
          rintro e w' ⟨rfl, rfl⟩
          go_wp2_with fail
          refine (high_any h0 4 (by omega) (by omega)).mono ?_
          rintro e w' ⟨rfl, rfl⟩
          go_wp2_with fail
          go_ret
          exact ⟨_, rfl, Rd.nil _ _, h0.put1 20, grown_setR _ _ _ _⟩
        · have e : rB rest fault = ((rest.drop 4).take (beVal (rest.take 4)), rest.drop (4 + beVal (rest.take 4)), 0) := by simp [rB, hf, hl, hn, hm]
          rw [e]
          clear e
          have i3 : (beVal (rest.take 4) : Int) ≤ 65535 := by omega
          have i4 : 4 + (beVal (rest.take 4) : Int) ≤ (rest.length : Int) := by omega
          have i5 : 4 + (beVal (rest.take 4) : Int) ≤ (c : Int) := by omega
          obtain ⟨n, hn'⟩ : ∃ n, n = beVal (rest.take 4) := ⟨_, rfl⟩
          rw [← hn'] at i3 i4 i5 hbv hbound ⊢
          have HN := Lib.hid hn'
          obtain ⟨p, hp1⟩ : ∃ p, p = (rest.drop 4).take n := ⟨_, rfl⟩
          obtain ⟨q, hq1⟩ : ∃ q, q = rest.drop (4 + n) := ⟨_, rfl⟩
          rw [← hp1, ← hq1]
          have HP := Lib.hid hp1
          have HQ := Lib.hid hq1
          clear hp1 hq1
          have hm' : 4 + n ≤ rest.length := by omega
          clear hn' hm hn
          go_enter Try.func34, Try.ntmps34
          go_wp2_with fail
          refine (ready_any h0 true (by simp [hf])).mono ?_
          rintro e w' ⟨rfl, rfl⟩
          go_wp2_with fail
          refine (high_any h0 4 (by omega) (by omega)).mono ?_
          rintro e w' ⟨rfl, rfl⟩
          rw [← HN.out]
          go_wp2_with fail
          all_goals
            subst hf
            go_ret
            refine ⟨_, rfl, ?_, ?_, grown_setR _ _ _ _⟩
            · rw [HP.out]
              exact Rd.set (rd_piece hb hcell (by omega) (by omega) (by omega) (by omega) (by omega)) _ _
            · rw [HQ.out]
              exact RdT.put0 hg hlo (rd_cut hb hcell (by omega) (by omega) (by omega) (by omega) (by omega)) hs
  · have e : rB rest fault = ([], rest, fault) := by simp [rB, hf]
    rw [e]
    clear e
    go_enter Try.func34, Try.ntmps34
    go_wp2_with fail
    refine (ready_any h false (by simp [hf])).mono ?_
    rintro e w' ⟨rfl, rfl⟩
    go_wp2_with fail
    go_ret
    exact ⟨_, rfl, Rd.nil _ _, h, World.grownBy.refl _ _⟩
end Go.Proofs.Ytpcoonnfaoakhaa
namespace Go.Proofs.Ytpcoonnfaoakhaa
set_option maxRecDepth 100000
open Go.RowKit

theorem rB_le (l : List UInt8) (f : Int) : (rB l f).1.length ≤ 65535 := by
  unfold rB
  split
  · simp
  · split
    · simp
    · split
      · simp
      · split
        · simp
        · simp; omega

theorem below_of_grownBy {w w' : World} {lo g : Nat} (h : w.grownBy w' (some g)) (hlo : lo ≤ g) (hg : g < w.heap.size) : Below lo w w' :=
  ⟨h.os, h.tape, h.output, h.size, fun k hk => h.block k (by omega) (by intro e; injection e with e; omega)⟩
theorem grownBy_trans {w w1 w2 : World} {row : Option Nat} (h : w.grownBy w1 row) (k : w1.grownBy w2 row) : w.grownBy w2 row :=
  ⟨k.os.trans h.os, k.tape.trans h.tape, k.output.trans h.output, Nat.le_trans h.size k.size, fun i hi hne => (k.block i (Nat.lt_of_lt_of_le hi h.size) hne).trans (h.block i hi hne)⟩
theorem grownBy_of_below {w w' : World} (h : Below w.heap.size w w') (row : Option Nat) : w.grownBy w' row := ⟨h.os, h.tape, h.output, h.size, fun i hi _ => h.block i hi⟩
theorem grownBy_below {w w1 w2 : World} {row : Option Nat} (h : w.grownBy w1 row) (k : Below w1.heap.size w1 w2) : w.grownBy w2 row := grownBy_trans h (grownBy_of_below k row)

variable {w : World} {lo g : Nat} {rest : List UInt8} {fault : Int}

set_option maxHeartbeats 400000 in
theorem rdB_any (h : Rdr w lo g rest fault) :
    Calls Try.prog 16 #[.pointer (some ⟨g, 0, none⟩)] w fun e w' => ∃ v, e = .returned v ∧ Own w' w.heap.size v (rB rest fault).1 ∧ Rdr w' lo g (rB rest fault).2.1 (rB rest fault).2.2 ∧ w.grownBy w' (some g) := by
  obtain ⟨i0, hi, hz, hsz, hby⟩ := info_parts Try.infoByte
  have hle := rB_le rest fault
  go_enter Try.func16, Try.ntmps16
  go_wp2_with fail
  refine (field_any h).mono ?_
  rintro e w1 ⟨v1, rfl, hr1, hrd1, hg1⟩
  have hs1 := hg1.size
  go_wp2_with (at_builtin; refine wpList_append_rd (B := w.heap.size) rfl (.const (.slice none 0 0)) (.tmp 4) _ rfl i0 Try.underlying24 hi hz hsz hby rfl (Own.nil _ _) rfl hr1 (by simp; omega) hs1 ?_; intro v3 w3 ho3 hg3 _)
  go_ret
  have hb3 : Below w1.heap.size w1 w3 := (Below.refl _ _).grown hg3 (Nat.le_refl _) (by simp [Act.eval, Value.ownBlock])
  exact ⟨_, rfl, by simpa using ho3, hrd1.below hb3, grownBy_below hg1 hb3⟩

set_option maxHeartbeats 400000 in
theorem rdT_any (h : Rdr w lo g rest fault) :
    Calls Try.prog 17 #[.pointer (some ⟨g, 0, none⟩)] w fun e w' => e = .returned (.string ⟨(rB rest fault).1.toArray⟩) ∧ Rdr w' lo g (rB rest fault).2.1 (rB rest fault).2.2 ∧ w.grownBy w' (some g) := by
  go_enter Try.func17, Try.ntmps17
  go_wp2_with fail
  refine (field_any h).mono ?_
  rintro e w1 ⟨v1, rfl, hr1, hrd1, hg1⟩
  have hcv := run_str (P := Try.prog) Try.underlying24 Try.underlying5 Try.isString hr1
  go_wp2_with fail
  go_ret
  exact ⟨rfl, hrd1, hg1⟩

/-- what a reader answers for a flag -/
def rF (l : List UInt8) (f : Int) : Bool × List UInt8 × Int :=
  if f ≠ 0 then (false, l, f) else match l with
  | [] => (false, l, 20)
  | x :: r => if 1 < x.toNat then (false, l, 21) else (x.toNat == 1, r, 0)

set_option maxHeartbeats 1000000 in
theorem rdF_any (h : Rdr w lo g rest fault) :
    Calls Try.prog 18 #[.pointer (some ⟨g, 0, none⟩)] w fun e w' => e = .returned (.bool (rF rest fault).1) ∧ Rdr w' lo g (rF rest fault).2.1 (rF rest fault).2.2 ∧ w.grownBy w' (some g) := by
  by_cases hf : fault = 0
  · have h0 := h
    obtain ⟨sv, hg, hlo, hr, hs⟩ := h
    obtain ⟨A, c, rfl, hc, hcm, hp⟩ := hr
    have c0 : w.cell? ⟨g, 0, none⟩ = some (.slice A rest.length c) := blk_cell hg 0
    have c1 : w.cell? ⟨g, 1, none⟩ = some (.int .i64 fault) := blk_cell hg 1
    have z0 : w.frozen? ⟨g, 0, none⟩ = false := blk_free hg 0
    have z1 : w.frozen? ⟨g, 1, none⟩ = false := blk_free hg 1
    rcases rest with _ | ⟨x, r⟩
    · have e : rF [] fault = (false, [], 20) := by simp [rF, hf]
      rw [e]
      clear e
      go_enter Try.func18, Try.ntmps18
      go_wp2_with fail
      refine (ready_any h0 true (by simp [hf])).mono ?_
      rintro e w' ⟨rfl, rfl⟩
      go_wp2_with fail
      go_ret
      exact ⟨rfl, h0.put1 20, grown_setR _ _ _ _⟩
    · obtain ⟨b, o, rfl, hb, hcell⟩ := hp (by simp)
      have cx : w.cell? ⟨b, o, none⟩ = some (.int .u8 (x.toNat : Int)) := hcell 0 (by simp)
      simp only [List.length_cons] at c0 hc hg
      have i2 : ((r.length + 1 : Nat) : Int) ≤ (c : Int) := by omega
      have i3 : (1 : Int) ≤ ((r.length + 1 : Nat) : Int) := by omega
      have i4 : (((r.length + 1 : Nat) : Int) == 0) = false := by simp; omega
      have i5 : (0 : Int) < ((r.length + 1 : Nat) : Int) := by omega
      by_cases hx : 1 < x.toNat
      · have e : rF (x :: r) fault = (false, x :: r, 21) := by simp [rF, hf, hx]
        rw [e]
        clear e
        have j1 : (1 : Int) < (x.toNat : Int) := by omega
        go_enter Try.func18, Try.ntmps18
        go_wp2_with fail
        refine (ready_any h0 true (by simp [hf])).mono ?_
        rintro e w' ⟨rfl, rfl⟩
        go_wp2_with fail
        go_ret
        exact ⟨rfl, h0.put1 21, grown_setR _ _ _ _⟩
      · have e : rF (x :: r) fault = (x.toNat == 1, r, 0) := by simp [rF, hf, hx]
        rw [e]
        clear e
        have j1 : (x.toNat : Int) ≤ 1 := by omega
        have j2 : ((x.toNat : Int) == 1) = (x.toNat == 1) := by rw [Bool.eq_iff_iff]; simp; omega
        go_enter Try.func18, Try.ntmps18
        go_wp2_with fail
        refine (ready_any h0 true (by simp [hf])).mono ?_
        rintro e w' ⟨rfl, rfl⟩
        go_wp2_with fail
        all_goals
          subst hf
          go_ret
          exact ⟨rfl, RdT.put0 hg hlo (rd_cut (rest := x :: r) (k := 1) hb hcell (by simp) (by simp) (by intro h; omega) (by omega) (by omega)) hs, grown_setR _ _ _ _⟩
  · have e : rF rest fault = (false, rest, fault) := by simp [rF, hf]
    rw [e]
    clear e
    go_enter Try.func18, Try.ntmps18
    go_wp2_with fail
    refine (ready_any h false (by simp [hf])).mono ?_
    rintro e w' ⟨rfl, rfl⟩
    go_wp2_with fail
    go_ret
    exact ⟨rfl, h, World.grownBy.refl _ _⟩
end Go.Proofs.Ytpcoonnfaoakhaa
namespace Go.Proofs.Ytpcoonnfaoakhaa
set_option maxRecDepth 100000
open Go.RowKit

variable {w : World} {lo g : Nat} {rest : List UInt8} {fault : Int}

theorem rdLeft_any (h : Rdr w lo g rest fault) :
    Calls Try.prog 20 #[.pointer (some ⟨g, 0, none⟩)] w fun e w' => e = .returned (.int .i64 (rest.length : Int)) ∧ w = w' := by
  obtain ⟨sv, hg, hlo, ⟨A, c, rfl, hc, hcm, hp⟩, hs⟩ := h
  have c0 : w.cell? ⟨g, 0, none⟩ = some (.slice A rest.length c) := blk_cell hg 0
  go_enter Try.func20, Try.ntmps20
  go_wp2
  go_ret
  exact ⟨rfl, rfl⟩

theorem rdErr_any (h : Rdr w lo g rest fault) :
    Calls Try.prog 21 #[.pointer (some ⟨g, 0, none⟩)] w fun e w' => e = .returned (.int .i64 fault) ∧ w = w' := by
  obtain ⟨sv, hg, hlo, hr, hs⟩ := h
  have c1 : w.cell? ⟨g, 1, none⟩ = some (.int .i64 fault) := blk_cell hg 1
  go_enter Try.func21, Try.ntmps21
  go_wp2
  go_ret
  exact ⟨rfl, rfl⟩

/-- a reader's last word -/
def rEnd (l : List UInt8) (f : Int) : Int := if f ≠ 0 then f else if 0 < l.length then 23 else 0

set_option maxHeartbeats 400000 in
theorem rdEnd_any (h : Rdr w lo g rest fault) :
    Calls Try.prog 19 #[.pointer (some ⟨g, 0, none⟩)] w fun e w' => e = .returned (.int .i64 (rEnd rest fault)) ∧ w = w' := by
  have h0 := h
  obtain ⟨sv, hg, hlo, ⟨A, c, rfl, hc, hcm, hp⟩, hs⟩ := h
  have c0 : w.cell? ⟨g, 0, none⟩ = some (.slice A rest.length c) := blk_cell hg 0
  unfold rEnd
  by_cases hf : fault = 0
  · subst hf
    by_cases hl : 0 < rest.length
    · have j : (0 : Int) < (rest.length : Int) := by omega
      rw [if_neg (by simp), if_pos hl]
      go_enter Try.func19, Try.ntmps19
      go_wp2_with fail
      refine (rdErr_any h0).mono ?_
      rintro e w' ⟨rfl, rfl⟩
      go_wp2_with fail
      go_ret
      exact ⟨rfl, rfl⟩
    · have j : ¬ (0 : Int) < (rest.length : Int) := by omega
      rw [if_neg (by simp), if_neg hl]
      go_enter Try.func19, Try.ntmps19
      go_wp2_with fail
      refine (rdErr_any h0).mono ?_
      rintro e w' ⟨rfl, rfl⟩
      go_wp2_with fail
      go_ret
      exact ⟨rfl, rfl⟩
  · have j : (fault != 0) = true := by simp [hf]
    rw [if_pos hf]
    go_enter Try.func19, Try.ntmps19
    go_wp2_with fail
    refine (rdErr_any h0).mono ?_
    rintro e w' ⟨rfl, rfl⟩
    go_wp2_with fail
    go_ret
    exact ⟨rfl, rfl⟩

/-- what a reader answers for a count -/
def rC (most : Int) (l : List UInt8) (f : Int) : Int × List UInt8 × Int :=
  if f ≠ 0 then (0, l, f) else if l.length < 8 then (0, l, 20) else if most < 0 ∨ most < (beVal (l.take 8) : Int) then (0, l, 22) else ((beVal (l.take 8) : Int), l.drop 8, 0)

set_option maxHeartbeats 1000000 in
theorem rdC_any (h : Rdr w lo g rest fault) (most : Int) (hm : most ≤ 9223372036854775807) (hm' : -9223372036854775808 ≤ most) :
    Calls Try.prog 22 #[.pointer (some ⟨g, 0, none⟩), .int .i64 most] w fun e w' => e = .returned (.int .i64 (rC most rest fault).1) ∧ Rdr w' lo g (rC most rest fault).2.1 (rC most rest fault).2.2 ∧ w.grownBy w' (some g) := by
  by_cases hf : fault = 0
  · have h0 := h
    obtain ⟨sv, hg, hlo, hr, hs⟩ := h
    obtain ⟨A, c, rfl, hc, hcm, hp⟩ := hr
    have c0 : w.cell? ⟨g, 0, none⟩ = some (.slice A rest.length c) := blk_cell hg 0
    have c1 : w.cell? ⟨g, 1, none⟩ = some (.int .i64 fault) := blk_cell hg 1
    have z0 : w.frozen? ⟨g, 0, none⟩ = false := blk_free hg 0
    have z1 : w.frozen? ⟨g, 1, none⟩ = false := blk_free hg 1
    by_cases hl : rest.length < 8
    · have e : rC most rest fault = (0, rest, 20) := by simp [rC, hf, hl]
      rw [e]
      clear e
      have i1 : (rest.length : Int) < 8 := by omega
      go_enter Try.func22, Try.ntmps22
      go_wp2_with fail
      refine (ready_any h0 true (by simp [hf])).mono ?_
      rintro e w' ⟨rfl, rfl⟩
      go_wp2_with fail
      go_ret
      exact ⟨rfl, h0.put1 20, grown_setR _ _ _ _⟩
    · obtain ⟨b, o, rfl, hb, hcell⟩ := hp (by omega)
      have i1 : (8 : Int) ≤ (rest.length : Int) := by omega
      have i2 : (rest.length : Int) ≤ (c : Int) := by omega
      have hbv : beVal (rest.take 8) < 256 ^ 8 := beVal_lt8 _ 8 (by simp; omega)
      obtain ⟨n, hn'⟩ : ∃ n, n = beVal (rest.take 8) := ⟨_, rfl⟩
      have HN := Lib.hid hn'
      have hhigh := high_any h0 8 (by omega) (by omega)
      rw [← hn'] at hhigh hbv
      have e0 : rC most rest fault = if most < 0 ∨ most < (n : Int) then (0, rest, 22) else ((n : Int), rest.drop 8, 0) := by simp [rC, hf, hl, hn']
      rw [e0]
      clear e0 hn'
      by_cases hneg : most < 0
      · rw [if_pos (Or.inl hneg)]
        go_enter Try.func22, Try.ntmps22
        go_wp2_with fail
        refine (ready_any h0 true (by simp [hf])).mono ?_
        rintro e w' ⟨rfl, rfl⟩
        go_wp2_with fail
        refine hhigh.mono ?_
        rintro e w' ⟨rfl, rfl⟩
        go_wp2_with fail
        go_ret
        exact ⟨rfl, h0.put1 22, grown_setR _ _ _ _⟩
      · by_cases hbig : most < (n : Int)
        · rw [if_pos (Or.inr hbig)]
          have k0 : 0 ≤ most := by omega
          go_enter Try.func22, Try.ntmps22
          go_wp2_with fail
          refine (ready_any h0 true (by simp [hf])).mono ?_
          rintro e w' ⟨rfl, rfl⟩
          go_wp2_with fail
          refine hhigh.mono ?_
          rintro e w' ⟨rfl, rfl⟩
          go_wp2_with fail
          go_ret
          exact ⟨rfl, h0.put1 22, grown_setR _ _ _ _⟩
        · rw [if_neg (by omega)]
          have k0 : 0 ≤ most := by omega
          have k1 : (n : Int) ≤ most := by omega
          go_enter Try.func22, Try.ntmps22
          go_wp2_with fail
          refine (ready_any h0 true (by simp [hf])).mono ?_
          rintro e w' ⟨rfl, rfl⟩
          go_wp2_with fail
          refine hhigh.mono ?_
          rintro e w' ⟨rfl, rfl⟩
          go_wp2_with fail
          all_goals
            subst hf
            go_ret
            exact ⟨rfl, RdT.put0 hg hlo (rd_cut (k := 8) hb hcell (by omega) (by omega) (by intro h; omega) (by omega) (by omega)) hs, grown_setR _ _ _ _⟩
  · have e : rC most rest fault = (0, rest, fault) := by simp [rC, hf]
    rw [e]
    clear e
    go_enter Try.func22, Try.ntmps22
    go_wp2_with fail
    refine (ready_any h false (by simp [hf])).mono ?_
    rintro e w' ⟨rfl, rfl⟩
    go_wp2_with fail
    go_ret
    exact ⟨rfl, h, World.grownBy.refl _ _⟩

set_option maxHeartbeats 400000 in
theorem open_rd (v : Value) (l : List UInt8) (w : World) (hr : Rd w w.heap.size v l) (hl : l.length ≤ 140737488355320) :
    Calls Try.prog 13 #[v] w fun e w' => ∃ g, e = .returned (.pointer (some ⟨g, 0, none⟩)) ∧ Rdr w' w.heap.size g l 0 ∧ Below w.heap.size w w' := by
  go_enter Try.func13, Try.ntmps13
  go_wp2_with fail
  refine (clone_any v l w hr hl).mono ?_
  rintro e w1 ⟨v1, rfl, ho1, hb1⟩
  obtain ⟨A, c, rfl⟩ := ho1.form
  go_wp2_with fail
  go_ret
  refine ⟨_, rfl, ⟨_, heap_alloc_new _ _, hb1.size, (ho1.rd).alloc (Nat.le_refl _) _, fun k hk => (ho1.lt k hk).1⟩, hb1.alloc hb1.size _⟩
end Go.Proofs.Ytpcoonnfaoakhaa
