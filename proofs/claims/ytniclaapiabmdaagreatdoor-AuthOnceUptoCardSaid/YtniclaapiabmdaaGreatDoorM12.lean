/- Texts joined: BankH0, WireR0, BeLt, EncB1, AuthA1, AuthB. -/
import Derived.Test.YtniclaapiabmdaaGreatDoorM10
import Derived.Test.YtniclaapiabmdaaGreatDoorM11
import Derived.Test.YtniclaapiabmdaaGreatDoorM02
import Derived.Test.YtniclaapiabmdaaGreatDoorM01
import Derived.Test.YtniclaapiabmdaaGreatDoorM06
import Derived.Deep.RegionHeldLaw
import Derived.Laws.StructEq
import Derived.Test.YtniclaapiabmdaaGreatDoorM07
import Derived.Test.YtniclaapiabmdaaGreatDoorM09
namespace Go.Proofs.YtniclaapiabmdaaGreatDoor
set_option maxRecDepth 100000
open Go Go.RowKit
set_option linter.unusedVariables false

/-- pairs stay where maps alone have turned -/
theorem RdP.kept {w w' : World} {v : Value} {ps : List Pr} (h : RdP w w.heap.size v ps) (hk : Kept w w') : RdP w' w'.heap.size v ps := by
  have hsz : w.heap.size ≤ w'.heap.size := by obtain ⟨F, h1, _⟩ := hk; exact h1.size
  obtain ⟨A, c, hv, h1, h2, hp⟩ := h
  refine ⟨A, c, hv, h1, h2, fun h0 => ?_⟩
  obtain ⟨b, o, hA, hb, hcell⟩ := hp h0
  refine ⟨b, o, hA, by omega, fun j hj => ?_⟩
  obtain ⟨q1, x, q2, q3⟩ := hcell j hj
  exact ⟨hk.cell q1, x, hk.cell q2, hk.rd q3⟩
theorem Kept.of_below {w w' : World} (h : Below w.heap.size w w') : Kept w w' := ⟨fun _ => False, Chg.of_below h _, fun _ k => k.elim⟩

theorem Kept.trans {w w1 w2 : World} (h : Kept w w1) (k : Kept w1 w2) : Kept w w2 := by
  obtain ⟨F, h1, h2⟩ := h
  obtain ⟨G, k1, k2⟩ := k
  have hm : ∀ q, G q → q < w.heap.size → ¬ F q → ∃ es c, w.heap[q]? = some (.map es c) := fun q hq hl hn => by
    obtain ⟨es, c, e⟩ := k2 q hq
    exact ⟨es, c, (h1.block q hl hn).symm.trans e⟩
  refine ⟨fun q => q < w.heap.size ∧ (F q ∨ G q), ⟨k1.os.trans h1.os, k1.tape.trans h1.tape, k1.output.trans h1.output, Nat.le_trans h1.size k1.size, fun q hq hn => ?_⟩, fun q hq => ?_⟩
  · have hF : ¬ F q := fun e => hn ⟨hq, Or.inl e⟩
    have hG : ¬ G q := fun e => hn ⟨hq, Or.inr e⟩
    exact (k1.block q (Nat.lt_of_lt_of_le hq h1.size) hG).trans (h1.block q hq hF)
  · obtain ⟨hl, hq⟩ := hq
    by_cases hF : F q
    · exact h2 q hF
    · exact hm q (hq.resolve_left hF) hl hF
/-- a bank's store behind calls: made at W, R is seen of it -/
structure Acc (W : World) (y : Lyr) (R : List Pr) (k : Nat) (W' : World) : Prop where
  b : BankS W y [] R k W'
  p : PileS W [y]
section
variable {W W' W2 : World} {y : Lyr} {R R2 : List Pr} {k : Nat} {B : Nat}
theorem Acc.kept (h : Acc W y R k W') : Kept W W' := by
  obtain ⟨n, f, -, -, -, h4⟩ := h.b
  exact ⟨_, h4, h.p.1.maps⟩
theorem Acc.below (h : Acc W y R k W') (hB : B ≤ y.m) (hW : B ≤ W.heap.size) : Below B W W' := by
  obtain ⟨n, f, -, -, -, h4⟩ := h.b
  exact h4.below (fun k e => by rw [e]; exact hB) hW
theorem Acc.up (h : Acc W y R k W') (hb : Below W'.heap.size W' W2) : Acc W y R k W2 := ⟨h.b.up hb (Nat.le_refl k), h.p⟩
theorem Acc.made {ps : List Pr} (h : PileS W [y]) (hl : LyrIs ps y) (hr : Rise ps) (hs : ∀ p ∈ ps, p.1.size ≤ maxLen) : Acc W y ps 0 W := ⟨BankS.refl h (seen_bot0 hl hr hs), h⟩
theorem BankS.join {n : Nat} {f : LF} {j : Nat} (h3 : n ≤ y.n + k) (h4 : Chg W W' (fun k => k = y.m)) (h : BankS W' ⟨y.b, y.m, n, f⟩ [] R2 j W2) : BankS W y [] R2 (k + j) W2 := by
  obtain ⟨n', f', g1, g2, g3, g4⟩ := h
  dsimp only at g1 g2 g3 g4
  exact ⟨n', f', g1, g2, by omega, h4.trans' g4⟩
theorem Acc.send (h : Acc W y R k W') (hn : y.n + k + 2 ≤ maxLen) (a b d : ByteArray) (x : U4) (hx : x.ok) (ha : a.size ≤ 100000000) (hb : b.size ≤ 100000000) (hd : d.size ≤ 100000000) :
    Calls Tryz.prog 36 #[.pointer (some ⟨y.b, 0, none⟩), .string a, .string b, .string d, x.val] W' fun e w' => e = .returned (.int .i64 (sendM R a b d x).1) ∧ Acc W y (sendM R a b d x).2 (k + 2) w' ∧ Kept W' w' := by
  obtain ⟨n, f, h1, h2, h3, h4⟩ := h.b
  refine (send_any h1 h2 (show n + 2 ≤ maxLen by omega) a b d x hx ha hb hd).mono ?_
  rintro e w' ⟨he, hq⟩
  exact ⟨he, ⟨BankS.join h3 h4 hq, h.p⟩, Acc.kept ⟨hq, h1⟩⟩
theorem Acc.pairs (h : Acc W y R k W') (hn : y.n + k ≤ 1000000000) (pfx : ByteArray) (hp : pfx.size ≤ maxLen) :
    Calls Tryz.prog 14 #[.pointer (some ⟨y.b, 0, none⟩), .string pfx] W' fun e w' => ∃ v, e = .returned v ∧ OutP w' W'.heap.size v (R.filter (fun p => begB pfx p.1)) ∧ Below W'.heap.size W' w' := by
  obtain ⟨n, f, h1, h2, h3, h4⟩ := h.b
  have hs : SeenL pfx [⟨y.b, y.m, n, f⟩] (R.filter (fun p => begB pfx p.1)) := ⟨h2.rise.filter _, fun p hp => h2.small p (List.mem_filter.1 hp).1, fun s hs => by
    have := h2.get s hs
    rw [begB_empty, if_pos rfl] at this
    rw [getL_filter, this]⟩
  exact pairs_any h1 (by simp [sumN]; omega) pfx hp hs
end
/-! ### what the law's fixed answers come to -/
def kAnn : ByteArray := ⟨#[97, 110, 110]⟩
def kBob : ByteArray := ⟨#[98, 111, 98]⟩
def kAtom : ByteArray := ⟨#[97, 116, 111, 109]⟩
def fixR1 : List Pr := (mintM [] kAnn kAtom ⟨10, 0, 0, 0⟩).2
def fixR2 : List Pr := (sendM fixR1 kAnn kBob kAtom ⟨4, 0, 0, 0⟩).2
end Go.Proofs.YtniclaapiabmdaaGreatDoor
namespace Go.Proofs.YtniclaapiabmdaaGreatDoor
set_option maxRecDepth 100000
open Go Go.RowKit
set_option linter.unusedVariables false

end Go.Proofs.YtniclaapiabmdaaGreatDoor
namespace Go.Proofs.YtniclaapiabmdaaGreatDoor
set_option maxRecDepth 100000
open Go Go.RowKit
set_option linter.unusedVariables false

theorem Kept.block {w w' : World} (h : Kept w w') {b : Nat} {cs : Array Value} {t : TypeId} {fr : Nat × Nat} (hb : w.heap[b]? = some (.cells cs t fr)) : w'.heap[b]? = some (.cells cs t fr) := by
  obtain ⟨F, h1, h2⟩ := h
  have hn : ¬ F b := fun k => by
    obtain ⟨es, c, e⟩ := h2 _ k
    rw [hb] at e; cases e
  exact (h1.block b (blk_lt hb) hn).trans hb
theorem Acc.root {W W' : World} {y : Lyr} {R : List Pr} {k : Nat} (h : Acc W y R k W') (hn : y.n + k ≤ 1000000000) (fr : TypeId × Nat × Nat) (hk : W'.heap[0]? = some (.cells kVals fr.1 fr.2)) :
    Calls Tryz.prog 8 #[.pointer (some ⟨y.b, 0, none⟩)] W' fun e w' => ∃ v, e = .returned v ∧ Own w' W'.heap.size v (rootM R).1 ∧ Below W'.heap.size W' w' := by
  obtain ⟨n, f, h1, h2, h3, h4⟩ := h.b
  exact sroot_any h1 (by simp [sumN]; omega) h2 fr hk
end Go.Proofs.YtniclaapiabmdaaGreatDoor
namespace Go.Proofs.YtniclaapiabmdaaGreatDoor
set_option maxRecDepth 100000
open Go.RowKit

/-- the byte of a flag -/
def fb (yes : Bool) : UInt8 := if yes then 1 else 0

set_option maxHeartbeats 400000 in
theorem F_any (v : Value) (yes : Bool) (l : List UInt8) (w : World) (hr : Rd w w.heap.size v l) (hl : l.length ≤ 140737488355320) :
    Calls Tryz.prog 196 #[v, .bool yes] w fun e w' => ∃ v', e = .returned v' ∧ Own w' w.heap.size v' (l ++ [fb yes]) ∧ Below w.heap.size w w' := by
  obtain ⟨i0, hi, hz, hsz, hby⟩ := info_parts Tryz.infoByte
  cases yes
  · go_enter Tryz.func196, Tryz.ntmps196
    go_wp2_with fail
    refine (grown_any v l _ w hr (by omega) (by omega)).mono ?_
    rintro e w1 ⟨v1, rfl, ho1, hb1⟩
    go_wp2_with (at_builtin; refine wpList_append_rd rfl (.tmp 12) (.tmp 13) _ rfl i0 Tryz.underlying27 hi hz hsz hby rfl (ho1.alloc _) rfl (rd_lit w1 _ [0] 1 rfl (by simp [bcells, bval]) (by simp [maxLen])) (by simp; omega) (by have := hb1.size; simp; omega) ?_; intro v3 w3 ho3 hg3 _)
    go_ret
    exact ⟨_, rfl, ho3, Own.below_grown (hb1.alloc hb1.size _) (ho1.alloc _) (Nat.le_refl _) (by have := hb1.size; simp; omega) hg3⟩
  · go_enter Tryz.func196, Tryz.ntmps196
    go_wp2_with fail
    refine (grown_any v l _ w hr (by omega) (by omega)).mono ?_
    rintro e w1 ⟨v1, rfl, ho1, hb1⟩
    go_wp2_with (at_builtin; refine wpList_append_rd rfl (.tmp 9) (.tmp 10) _ rfl i0 Tryz.underlying27 hi hz hsz hby rfl (ho1.alloc _) rfl (rd_lit w1 _ [1] 1 rfl (by simp [bcells, bval]) (by simp [maxLen])) (by simp; omega) (by have := hb1.size; simp; omega) ?_; intro v3 w3 ho3 hg3 _)
    go_ret
    exact ⟨_, rfl, ho3, Own.below_grown (hb1.alloc hb1.size _) (ho1.alloc _) (Nat.le_refl _) (by have := hb1.size; simp; omega) hg3⟩
end Go.Proofs.YtniclaapiabmdaaGreatDoor
namespace Go.Proofs.YtniclaapiabmdaaGreatDoor
set_option maxRecDepth 100000
open Go.RowKit

/-- a reader at block g: what is left, and the fault; its bytes and itself lie in blocks from lo on -/
def RdT (T : Nat) (w : World) (lo g : Nat) (rest : List UInt8) (fault : Int) : Prop :=
  ∃ sv, w.heap[g]? = some (.cells #[sv, .int .i64 fault] T (0, 0)) ∧ lo ≤ g ∧ Rd w g sv rest ∧ (∀ k, sv.ownBlock = some k → lo ≤ k)
abbrev Rdr := RdT 133
/-- the document's reader -/
abbrev Ddr := RdT 149

section
variable {T : Nat} {w w' : World} {lo g : Nat} {rest : List UInt8} {fault : Int}
theorem RdT.from_ (h : RdT T w lo g rest fault) : lo ≤ g := by obtain ⟨_, _, h, _⟩ := h; exact h
theorem RdT.lt (h : RdT T w lo g rest fault) : g < w.heap.size := by obtain ⟨sv, h, _⟩ := h; exact blk_lt h
/-- kept where nothing from lo to g has turned -/
theorem RdT.keep (h : RdT T w lo g rest fault) (hk : ∀ k, lo ≤ k → k ≤ g → w'.heap[k]? = w.heap[k]?) : RdT T w' lo g rest fault := by
  obtain ⟨sv, hb, hlo, ⟨A, c, hv, hc, hm, hp⟩, hs⟩ := h
  refine ⟨sv, (hk g hlo (Nat.le_refl _)).trans hb, hlo, ⟨A, c, hv, hc, hm, fun h0 => ?_⟩, hs⟩
  obtain ⟨b, o, hA, hbg, hcell⟩ := hp h0
  refine ⟨b, o, hA, hbg, fun j hj => ?_⟩
  rw [← hcell j hj]
  exact World.cell?_of_block (hk b (hs b (by subst hv; subst hA; rfl)) (by omega))
theorem RdT.below (h : RdT T w lo g rest fault) (hb : Below w.heap.size w w') : RdT T w' lo g rest fault := h.keep fun k _ hk => hb.block k (by have := h.lt; omega)
/-- kept where another block alone has turned -/
theorem RdT.grown {g' : Nat} (h : RdT T w lo g rest fault) (hg : w.grownBy w' (some g')) (hne : g' < lo ∨ g < g') : RdT T w' lo g rest fault :=
  h.keep fun k h1 h2 => hg.block k (by have := h.lt; omega) (by intro e; injection e with e; omega)
theorem grown_setR (w : World) (g i : Nat) (u : Value) : w.grownBy (w.setCell ⟨g, i, none⟩ u) (some g) :=
  ⟨rfl, rfl, rfl, by simp [World.setCell], fun k hk hne => Below.heap_setCell w _ u k (by rintro rfl; exact hne rfl)⟩
theorem Rd.set {v : Value} (h : Rd w g v rest) (i : Nat) (u : Value) : Rd (w.setCell ⟨g, i, none⟩ u) g v rest := h.keep fun p hp => World.cell?_setCell_other w _ _ _ (by rintro rfl; simp at hp)
end

variable {w : World} {lo g : Nat} {rest : List UInt8} {fault : Int}

theorem ready_any (h : Rdr w lo g rest fault) (b : Bool) (hb : (fault == 0) = b) :
    Calls Tryz.prog 93 #[.pointer (some ⟨g, 0, none⟩)] w fun e w' => e = .returned (.bool b) ∧ w = w' := by
  obtain ⟨sv, hg, hlo, hr, hs⟩ := h
  have c1 : w.cell? ⟨g, 1, none⟩ = some (.int .i64 fault) := blk_cell hg 1
  go_enter Tryz.func93, Tryz.ntmps93
  go_wp2
  go_ret
  exact ⟨rfl, rfl⟩

/-- the number that bytes are, the highest first -/
def beVal (l : List UInt8) : Nat := l.foldl (fun n x => n * 256 + x.toNat) 0
theorem beVal_snoc (l : List UInt8) (x : UInt8) : beVal (l ++ [x]) = beVal l * 256 + x.toNat := by simp [beVal]
theorem beVal_foldl (l : List UInt8) : ∀ a : Nat, l.foldl (fun n x => n * 256 + x.toNat) a < (a + 1) * 256 ^ l.length := by
  induction l with
  | nil => intro a; simp
  | cons x l ih =>
    intro a
    have h1 := ih (a * 256 + x.toNat)
    have h2 := x.toNat_lt
    have h3 : (a * 256 + x.toNat + 1) * 256 ^ l.length ≤ ((a + 1) * 256) * 256 ^ l.length := Nat.mul_le_mul_right _ (by omega)
    simp only [List.foldl_cons, List.length_cons, Nat.pow_succ]
    have h4 : (a + 1) * (256 ^ l.length * 256) = ((a + 1) * 256) * 256 ^ l.length := by
      rw [Nat.mul_assoc, Nat.mul_comm 256]
    omega
theorem beVal_lt (l : List UInt8) : beVal l < 256 ^ l.length := by simpa [beVal] using beVal_foldl l 0
theorem beVal_lt8 (l : List UInt8) (k : Nat) (h : l.length ≤ k) : beVal l < 256 ^ k := Nat.lt_of_lt_of_le (beVal_lt l) (Nat.pow_le_pow_right (by omega) h)
theorem or_byte (x : Nat) (y : UInt8) (h : x < 72057594037927936) :
    bits BinOp.or IntKind.u64 ((x : Int) * 256) (IntKind.u64.wrap (y.toNat : Int)) = ((x * 256 + y.toNat : Nat) : Int) := by
  have hy := y.toNat_lt
  have e1 : ((x : Int) * 256) = ((x * 256 : Nat) : Int) := by omega
  have e2 : IntKind.u64.wrap (y.toNat : Int) = (y.toNat : Int) := by rw [IntKind.wrap_u64]; omega
  rw [e1, e2, bits_or_u64_nat _ _ (by omega) (by omega)]
  have := Nat.shiftLeft_add_eq_or_of_lt (b := y.toNat) (i := 8) (by omega) x
  rw [Nat.shiftLeft_eq] at this
  rw [show x * 256 = x * 2 ^ 8 from rfl, ← this]

set_option maxHeartbeats 400000 in
theorem high_any (h : Rdr w lo g rest fault) (size : Nat) (hs : size ≤ 8) (hl : size ≤ rest.length) :
    Calls Tryz.prog 94 #[.pointer (some ⟨g, 0, none⟩), .int .i64 (size : Int)] w fun e w' => e = .returned (.int .u64 (beVal (rest.take size) : Nat)) ∧ w = w' := by
  obtain ⟨sv, hg, hlo, ⟨A, c, rfl, hc, hcm, hp⟩, hss⟩ := h
  have c0 : w.cell? ⟨g, 0, none⟩ = some (.slice A rest.length c) := blk_cell hg 0
  have hb0 : (0 : Int) ≤ (size : Int) := by omega
  have hb1 : (size : Int) ≤ (c : Int) := by omega
  go_enter Tryz.func94, Tryz.ntmps94
  go_wp2
  go_loop [5, 15] (fun n i => ∃ k : Nat, k ≤ size ∧ i = .int .i64 (k : Int) ∧ n = .int .u64 (beVal (rest.take k) : Nat)) (fun _ i => size - (intOf i).toNat)
  case atStart => exact ⟨0, Nat.zero_le _, rfl, by simp [beVal]⟩
  case round =>
    obtain ⟨k, hk, rfl, rfl⟩ := hrel
    by_cases hlt : k < size
    · obtain ⟨b, o, rfl, hb, hcell⟩ := hp (by omega)
      have c1 : w.cell? ⟨b, o + k, none⟩ = some (.int .u8 ((rest[k]'(by omega)).toNat : Int)) := hcell k (by omega)
      have hlt2 : beVal (rest.take k) < 256 ^ 7 := beVal_lt8 _ 7 (by simp; omega)
      have ho := or_byte (beVal (rest.take k)) (rest[k]'(by omega)) hlt2
      have hsn : beVal (rest.take (k + 1)) = beVal (rest.take k) * 256 + (rest[k]'(by omega)).toNat := by rw [List.take_succ_eq_append_getElem (by omega), beVal_snoc]
      have HO := Lib.hid ho
      have HS := Lib.hid hsn
      clear ho hsn
      go_wp2
      exact ⟨⟨k + 1, by omega, by go_num, by rw [HO.out, HS.out]⟩, by simp [intOf]; omega⟩
    · have hk' : ¬ (k : Int) < (size : Int) := by omega
      obtain rfl : k = size := by omega
      go_wp2
      go_ret
      exact ⟨rfl, rfl⟩
end Go.Proofs.YtniclaapiabmdaaGreatDoor
namespace Go.Proofs.YtniclaapiabmdaaGreatDoor
set_option maxRecDepth 100000
open Go.RowKit

/-- what a reader answers for a number, what is left, the fault -/
def rN (l : List UInt8) (f : Int) : Nat × List UInt8 × Int :=
  if f ≠ 0 then (0, l, f) else if l.length < 8 then (0, l, 20) else (beVal (l.take 8), l.drop 8, 0)

variable {w : World} {lo g : Nat} {rest : List UInt8} {fault : Int}

theorem RdT.put0 {T : Nat} {sv sv' : Value} {rest' : List UInt8} (hg : w.heap[g]? = some (.cells #[sv, .int .i64 fault] T (0, 0))) (hlo : lo ≤ g) (hr : Rd w g sv' rest')
    (hs : ∀ k, sv'.ownBlock = some k → lo ≤ k) : RdT T (w.setCell ⟨g, 0, none⟩ sv') lo g rest' fault :=
  ⟨sv', by simpa using blk_set hg 0 sv', hlo, hr.set 0 _, hs⟩
theorem RdT.put1 {T : Nat} (h : RdT T w lo g rest fault) (f : Int) : RdT T (w.setCell ⟨g, 1, none⟩ (.int .i64 f)) lo g rest f := by
  obtain ⟨sv, hg, hlo, hr, hs⟩ := h
  exact ⟨sv, by simpa using blk_set hg 1 (.int .i64 f), hlo, hr.set 1 _, hs⟩
theorem rd_cut {B b o o' n' c' k : Nat} (hb : b < B) (hcell : ∀ j (h : j < rest.length), w.cell? ⟨b, o + j, none⟩ = some (bval rest[j])) (hn : n' = rest.length - k) (hk : k ≤ rest.length)
    (ho : 0 < n' → o' = o + k) (hc : n' ≤ c') (hm : c' ≤ maxLen) : Rd w B (.slice (some ⟨b, o', none⟩) n' c') (rest.drop k) := by
  refine ⟨_, c', by rw [List.length_drop, hn], by rw [List.length_drop]; omega, hm, fun h0 => ⟨b, o', rfl, hb, fun j hj => ?_⟩⟩
  rw [List.length_drop] at h0 hj
  rw [ho (by omega), Nat.add_assoc, hcell (k + j) (by omega)]
  simp
theorem rd_piece {B b o o' n n' c' k : Nat} (hb : b < B) (hcell : ∀ j (h : j < rest.length), w.cell? ⟨b, o + j, none⟩ = some (bval rest[j])) (hn : n' = n) (hk : k + n ≤ rest.length)
    (ho : 0 < n' → o' = o + k) (hc : n' ≤ c') (hm : c' ≤ maxLen) : Rd w B (.slice (some ⟨b, o', none⟩) n' c') ((rest.drop k).take n) := by
  subst hn
  have hl : ((rest.drop k).take n').length = n' := by simp; omega
  refine ⟨_, c', by rw [hl], by rw [hl]; exact hc, hm, fun h0 => ⟨b, o', rfl, hb, fun j hj => ?_⟩⟩
  rw [hl] at h0 hj
  rw [ho (by omega), Nat.add_assoc, hcell (k + j) (by omega)]
  simp

set_option maxHeartbeats 400000 in
theorem rN_any (h : Rdr w lo g rest fault) :
    Calls Tryz.prog 41 #[.pointer (some ⟨g, 0, none⟩)] w fun e w' => e = .returned (.int .u64 ((rN rest fault).1 : Nat)) ∧ Rdr w' lo g (rN rest fault).2.1 (rN rest fault).2.2 ∧ w.grownBy w' (some g) := by
  by_cases hf : fault = 0
  · have h0 := h
    obtain ⟨sv, hg, hlo, hr, hs⟩ := h
    obtain ⟨A, c, rfl, hc, hcm, hp⟩ := hr
    have c0 : w.cell? ⟨g, 0, none⟩ = some (.slice A rest.length c) := blk_cell hg 0
    have c1 : w.cell? ⟨g, 1, none⟩ = some (.int .i64 fault) := blk_cell hg 1
    have z0 : w.frozen? ⟨g, 0, none⟩ = false := blk_free hg 0
    have z1 : w.frozen? ⟨g, 1, none⟩ = false := blk_free hg 1
    by_cases hl : rest.length < 8
    · have e : rN rest fault = (0, rest, 20) := by simp [rN, hf, hl]
      rw [e]
      clear e
      have i1 : (rest.length : Int) < 8 := by omega
      go_enter Tryz.func41, Tryz.ntmps41
      go_wp2_with fail
      refine (ready_any h0 true (by simp [hf])).mono ?_
      rintro e w' ⟨rfl, rfl⟩
      go_wp2_with fail
      go_ret
      exact ⟨rfl, h0.put1 20, grown_setR _ _ _ _⟩
    · have e : rN rest fault = (beVal (rest.take 8), rest.drop 8, 0) := by simp [rN, hf, hl]
      rw [e]
      clear e
      obtain ⟨b, o, rfl, hb, hcell⟩ := hp (by omega)
      have i1 : (8 : Int) ≤ (rest.length : Int) := by omega
      have i2 : (rest.length : Int) ≤ (c : Int) := by omega
      go_enter Tryz.func41, Tryz.ntmps41
      go_wp2_with fail
      refine (ready_any h0 true (by simp [hf])).mono ?_
      rintro e w' ⟨rfl, rfl⟩
      go_wp2_with fail
      refine (high_any h0 8 (by omega) (by omega)).mono ?_
      rintro e w' ⟨rfl, rfl⟩
      go_wp2_with fail
      all_goals
        subst hf
        go_ret
        exact ⟨rfl, RdT.put0 hg hlo (rd_cut hb hcell rfl (by omega) (by omega) (by omega) (by omega)) hs, grown_setR _ _ _ _⟩
  · have e : rN rest fault = (0, rest, fault) := by simp [rN, hf]
    rw [e]
    clear e
    go_enter Tryz.func41, Tryz.ntmps41
    go_wp2_with fail
    refine (ready_any h false (by simp [hf])).mono ?_
    rintro e w' ⟨rfl, rfl⟩
    go_wp2_with fail
    go_ret
    exact ⟨rfl, h, World.grownBy.refl _ _⟩
end Go.Proofs.YtniclaapiabmdaaGreatDoor
namespace Go.Proofs.YtniclaapiabmdaaGreatDoor
set_option maxRecDepth 100000
open Go.RowKit

variable {w : World} {lo g : Nat} {rest : List UInt8} {fault : Int}

/-- what a reader answers for bytes, what is left, the fault -/
def rB (l : List UInt8) (f : Int) : List UInt8 × List UInt8 × Int :=
  if f ≠ 0 then ([], l, f) else if l.length < 4 then ([], l, 20) else if 65535 < beVal (l.take 4) then ([], l, 22)
  else if l.length < 4 + beVal (l.take 4) then ([], l, 20) else ((l.drop 4).take (beVal (l.take 4)), l.drop (4 + beVal (l.take 4)), 0)

set_option maxHeartbeats 1000000 in
theorem field_any (h : Rdr w lo g rest fault) :
    Calls Tryz.prog 92 #[.pointer (some ⟨g, 0, none⟩)] w fun e w' => ∃ v, e = .returned v ∧ Rd w' g v (rB rest fault).1 ∧ Rdr w' lo g (rB rest fault).2.1 (rB rest fault).2.2 ∧ w.grownBy w' (some g) := by
  by_cases hf : fault = 0
  · have h0 := h
    obtain ⟨sv, hg, hlo, hr, hs⟩ := h
    obtain ⟨A, c, rfl, hc, hcm, hp⟩ := hr
    have c0 : w.cell? ⟨g, 0, none⟩ = some (.slice A rest.length c) := blk_cell hg 0
    have c1 : w.cell? ⟨g, 1, none⟩ = some (.int .i64 fault) := blk_cell hg 1
    have z0 : w.frozen? ⟨g, 0, none⟩ = false := blk_free hg 0
    have z1 : w.frozen? ⟨g, 1, none⟩ = false := blk_free hg 1
    by_cases hl : rest.length < 4
    · have e : rB rest fault = ([], rest, 20) := by simp [rB, hf, hl]
      rw [e]
      clear e
      have i1 : (rest.length : Int) < 4 := by omega
      go_enter Tryz.func92, Tryz.ntmps92
      go_wp2_with fail
      refine (ready_any h0 true (by simp [hf])).mono ?_
      rintro e w' ⟨rfl, rfl⟩
      go_wp2_with fail
      go_ret
      exact ⟨_, rfl, Rd.nil _ _, h0.put1 20, grown_setR _ _ _ _⟩
    · obtain ⟨b, o, rfl, hb, hcell⟩ := hp (by omega)
      have i1 : (4 : Int) ≤ (rest.length : Int) := by omega
      have i2 : (rest.length : Int) ≤ (c : Int) := by omega
      have hbv : beVal (rest.take 4) < 256 ^ 4 := beVal_lt8 _ 4 (by simp; omega)
      have hbound : (beVal (rest.take 4) : Int) ≤ 4294967295 := by omega
      by_cases hn : 65535 < beVal (rest.take 4)
      · have e : rB rest fault = ([], rest, 22) := by simp [rB, hf, hl, hn]
        rw [e]
        clear e
        have i3 : (65535 : Int) < (beVal (rest.take 4) : Int) := by omega
        go_enter Tryz.func92, Tryz.ntmps92
        go_wp2_with fail
        refine (ready_any h0 true (by simp [hf])).mono ?_
        rintro e w' ⟨rfl, rfl⟩
        go_wp2_with fail
        refine (high_any h0 4 (by omega) (by omega)).mono ?_
        rintro e w' ⟨rfl, rfl⟩
        go_wp2_with fail
        go_ret
        exact ⟨_, rfl, Rd.nil _ _, h0.put1 22, grown_setR _ _ _ _⟩
      · by_cases hm : rest.length < 4 + beVal (rest.take 4)
        · have e : rB rest fault = ([], rest, 20) := by simp [rB, hf, hl, hn, hm]
          rw [e]
          clear e
          have i3 : (beVal (rest.take 4) : Int) ≤ 65535 := by omega
          have i4 : (rest.length : Int) < 4 + (beVal (rest.take 4) : Int) := by omega
          go_enter Tryz.func92, Tryz.ntmps92
          go_wp2_with fail
          refine (ready_any h0 true (by simp [hf])).mono ?_
          rintro e w' ⟨rfl, rfl⟩
          go_wp2_with fail
          refine (high_any h0 4 (by omega) (by omega)).mono ?_
          rintro e w' ⟨rfl, rfl⟩
          go_wp2_with fail
          go_ret
          exact ⟨_, rfl, Rd.nil _ _, h0.put1 20, grown_setR _ _ _ _⟩
        · have e : rB rest fault = ((rest.drop 4).take (beVal (rest.take 4)), rest.drop (4 + beVal (rest.take 4)), 0) := by simp [rB, hf, hl, hn, hm]
          rw [e]
          clear e
          have i3 : (beVal (rest.take 4) : Int) ≤ 65535 := by omega
          have i4 : 4 + (beVal (rest.take 4) : Int) ≤ (rest.length : Int) := by omega
          have i5 : 4 + (beVal (rest.take 4) : Int) ≤ (c : Int) := by omega
          obtain ⟨n, hn'⟩ : ∃ n, n = beVal (rest.take 4) := ⟨_, rfl⟩
          rw [← hn'] at i3 i4 i5 hbv hbound ⊢
          have HN := Lib.hid hn'
          obtain ⟨p, hp1⟩ : ∃ p, p = (rest.drop 4).take n := ⟨_, rfl⟩
          obtain ⟨q, hq1⟩ : ∃ q, q = rest.drop (4 + n) := ⟨_, rfl⟩
          rw [← hp1, ← hq1]
          have HP := Lib.hid hp1
          have HQ := Lib.hid hq1
          clear hp1 hq1
          have hm' : 4 + n ≤ rest.length := by omega
          clear hn' hm hn
          go_enter Tryz.func92, Tryz.ntmps92
          go_wp2_with fail
          refine (ready_any h0 true (by simp [hf])).mono ?_
          rintro e w' ⟨rfl, rfl⟩
          go_wp2_with fail
          refine (high_any h0 4 (by omega) (by omega)).mono ?_
          rintro e w' ⟨rfl, rfl⟩
          rw [← HN.out]
          go_wp2_with fail
          all_goals
            subst hf
            go_ret
            refine ⟨_, rfl, ?_, ?_, grown_setR _ _ _ _⟩
            · rw [HP.out]
              exact Rd.set (rd_piece hb hcell (by omega) (by omega) (by omega) (by omega) (by omega)) _ _
            · rw [HQ.out]
              exact RdT.put0 hg hlo (rd_cut hb hcell (by omega) (by omega) (by omega) (by omega) (by omega)) hs
  · have e : rB rest fault = ([], rest, fault) := by simp [rB, hf]
    rw [e]
    clear e
    go_enter Tryz.func92, Tryz.ntmps92
    go_wp2_with fail
    refine (ready_any h false (by simp [hf])).mono ?_
    rintro e w' ⟨rfl, rfl⟩
    go_wp2_with fail
    go_ret
    exact ⟨_, rfl, Rd.nil _ _, h, World.grownBy.refl _ _⟩
end Go.Proofs.YtniclaapiabmdaaGreatDoor
namespace Go.Proofs.YtniclaapiabmdaaGreatDoor
set_option maxRecDepth 100000
open Go.RowKit

theorem rB_le (l : List UInt8) (f : Int) : (rB l f).1.length ≤ 65535 := by
  unfold rB
  split
  · simp
  · split
    · simp
    · split
      · simp
      · split
        · simp
        · simp; omega

theorem grownBy_trans {w w1 w2 : World} {row : Option Nat} (h : w.grownBy w1 row) (k : w1.grownBy w2 row) : w.grownBy w2 row :=
  ⟨k.os.trans h.os, k.tape.trans h.tape, k.output.trans h.output, Nat.le_trans h.size k.size, fun i hi hne => (k.block i (Nat.lt_of_lt_of_le hi h.size) hne).trans (h.block i hi hne)⟩
theorem grownBy_of_below {w w' : World} (h : Below w.heap.size w w') (row : Option Nat) : w.grownBy w' row := ⟨h.os, h.tape, h.output, h.size, fun i hi _ => h.block i hi⟩
theorem grownBy_below {w w1 w2 : World} {row : Option Nat} (h : w.grownBy w1 row) (k : Below w1.heap.size w1 w2) : w.grownBy w2 row := grownBy_trans h (grownBy_of_below k row)

variable {w : World} {lo g : Nat} {rest : List UInt8} {fault : Int}

set_option maxHeartbeats 400000 in
theorem rdB_any (h : Rdr w lo g rest fault) :
    Calls Tryz.prog 40 #[.pointer (some ⟨g, 0, none⟩)] w fun e w' => ∃ v, e = .returned v ∧ Own w' w.heap.size v (rB rest fault).1 ∧ Rdr w' lo g (rB rest fault).2.1 (rB rest fault).2.2 ∧ w.grownBy w' (some g) := by
  obtain ⟨i0, hi, hz, hsz, hby⟩ := info_parts Tryz.infoByte
  have hle := rB_le rest fault
  go_enter Tryz.func40, Tryz.ntmps40
  go_wp2_with fail
  refine (field_any h).mono ?_
  rintro e w1 ⟨v1, rfl, hr1, hrd1, hg1⟩
  have hs1 := hg1.size
  go_wp2_with (at_builtin; refine wpList_append_rd (B := w.heap.size) rfl (.const (.slice none 0 0)) (.tmp 4) _ rfl i0 Tryz.underlying27 hi hz hsz hby rfl (Own.nil _ _) rfl hr1 (by simp; omega) hs1 ?_; intro v3 w3 ho3 hg3 _)
  go_ret
  have hb3 : Below w1.heap.size w1 w3 := (Below.refl _ _).grown hg3 (Nat.le_refl _) (by simp [Act.eval, Value.ownBlock])
  exact ⟨_, rfl, by simpa using ho3, hrd1.below hb3, grownBy_below hg1 hb3⟩

/-- what a reader answers for a flag -/
def rF (l : List UInt8) (f : Int) : Bool × List UInt8 × Int :=
  if f ≠ 0 then (false, l, f) else match l with
  | [] => (false, l, 20)
  | x :: r => if 1 < x.toNat then (false, l, 21) else (x.toNat == 1, r, 0)

end Go.Proofs.YtniclaapiabmdaaGreatDoor
namespace Go.Proofs.YtniclaapiabmdaaGreatDoor
set_option maxRecDepth 100000
open Go.RowKit

variable {w : World} {lo g : Nat} {rest : List UInt8} {fault : Int}

theorem rdErr_any (h : Rdr w lo g rest fault) :
    Calls Tryz.prog 95 #[.pointer (some ⟨g, 0, none⟩)] w fun e w' => e = .returned (.int .i64 fault) ∧ w = w' := by
  obtain ⟨sv, hg, hlo, hr, hs⟩ := h
  have c1 : w.cell? ⟨g, 1, none⟩ = some (.int .i64 fault) := blk_cell hg 1
  go_enter Tryz.func95, Tryz.ntmps95
  go_wp2
  go_ret
  exact ⟨rfl, rfl⟩

/-- a reader's last word -/
def rEnd (l : List UInt8) (f : Int) : Int := if f ≠ 0 then f else if 0 < l.length then 23 else 0

set_option maxHeartbeats 400000 in
theorem rdEnd_any (h : Rdr w lo g rest fault) :
    Calls Tryz.prog 42 #[.pointer (some ⟨g, 0, none⟩)] w fun e w' => e = .returned (.int .i64 (rEnd rest fault)) ∧ w = w' := by
  have h0 := h
  obtain ⟨sv, hg, hlo, ⟨A, c, rfl, hc, hcm, hp⟩, hs⟩ := h
  have c0 : w.cell? ⟨g, 0, none⟩ = some (.slice A rest.length c) := blk_cell hg 0
  unfold rEnd
  by_cases hf : fault = 0
  · subst hf
    by_cases hl : 0 < rest.length
    · have j : (0 : Int) < (rest.length : Int) := by omega
      rw [if_neg (by simp), if_pos hl]
      go_enter Tryz.func42, Tryz.ntmps42
      go_wp2_with fail
      refine (rdErr_any h0).mono ?_
      rintro e w' ⟨rfl, rfl⟩
      go_wp2_with fail
      go_ret
      exact ⟨rfl, rfl⟩
    · have j : ¬ (0 : Int) < (rest.length : Int) := by omega
      rw [if_neg (by simp), if_neg hl]
      go_enter Tryz.func42, Tryz.ntmps42
      go_wp2_with fail
      refine (rdErr_any h0).mono ?_
      rintro e w' ⟨rfl, rfl⟩
      go_wp2_with fail
      go_ret
      exact ⟨rfl, rfl⟩
  · have j : (fault != 0) = true := by simp [hf]
    rw [if_pos hf]
    go_enter Tryz.func42, Tryz.ntmps42
    go_wp2_with fail
    refine (rdErr_any h0).mono ?_
    rintro e w' ⟨rfl, rfl⟩
    go_wp2_with fail
    go_ret
    exact ⟨rfl, rfl⟩

/-- what a reader answers for a count -/
def rC (most : Int) (l : List UInt8) (f : Int) : Int × List UInt8 × Int :=
  if f ≠ 0 then (0, l, f) else if l.length < 8 then (0, l, 20) else if most < 0 ∨ most < (beVal (l.take 8) : Int) then (0, l, 22) else ((beVal (l.take 8) : Int), l.drop 8, 0)

set_option maxHeartbeats 400000 in
theorem open_rd (v : Value) (l : List UInt8) (w : World) (hr : Rd w w.heap.size v l) (hl : l.length ≤ 140737488355320) :
    Calls Tryz.prog 39 #[v] w fun e w' => ∃ g, e = .returned (.pointer (some ⟨g, 0, none⟩)) ∧ Rdr w' w.heap.size g l 0 ∧ Below w.heap.size w w' := by
  go_enter Tryz.func39, Tryz.ntmps39
  go_wp2_with fail
  refine (clone_any v l w hr hl).mono ?_
  rintro e w1 ⟨v1, rfl, ho1, hb1⟩
  obtain ⟨A, c, rfl⟩ := ho1.form
  go_wp2_with fail
  go_ret
  refine ⟨_, rfl, ⟨_, heap_alloc_new _ _, hb1.size, (ho1.rd).alloc (Nat.le_refl _) _, fun k hk => (ho1.lt k hk).1⟩, hb1.alloc hb1.size _⟩
end Go.Proofs.YtniclaapiabmdaaGreatDoor
namespace Go.Proofs.YtniclaapiabmdaaGreatDoor
set_option maxRecDepth 100000

theorem be_lt (n k : Nat) : beVal (be n k) = n % 256 ^ k := by
  induction k with
  | zero => simp [be, beVal, Nat.mod_one]
  | succ k ih =>
    have h1 : ∀ (l : List UInt8) (a : Nat), l.foldl (fun n x => n * 256 + x.toNat) a = a * 256 ^ l.length + beVal l := by
      intro l
      induction l with
      | nil => intro a; simp [beVal]
      | cons x l ih2 =>
        intro a
        simp only [List.foldl_cons, List.length_cons, beVal]
        rw [ih2, ih2 (0 * 256 + x.toNat), Nat.pow_succ]
        simp only [Nat.zero_mul, Nat.zero_add, Nat.add_mul, Nat.mul_assoc, Nat.add_assoc, Nat.mul_comm 256]
    have h2 : beVal (be n (k + 1)) = (UInt8.ofNat (n / 2 ^ (8 * k))).toNat * 256 ^ k + beVal (be n k) := by
      simp only [be]
      rw [show beVal (UInt8.ofNat (n / 2 ^ (8 * k)) :: be n k) = (be n k).foldl (fun n x => n * 256 + x.toNat) (UInt8.ofNat (n / 2 ^ (8 * k))).toNat by simp [beVal], h1, be_length]
    rw [h2, ih]
    have h3 : (2 : Nat) ^ (8 * k) = 256 ^ k := by rw [Nat.pow_mul]
    rw [h3, UInt8.toNat_ofNat']
    have h4 : n % 256 ^ (k + 1) = 256 ^ k * (n / 256 ^ k % 256) + n % 256 ^ k := by
      rw [Nat.pow_succ, Nat.mod_mul]
      omega
    rw [h4, Nat.mul_comm]
end Go.Proofs.YtniclaapiabmdaaGreatDoor
namespace Go.Proofs.YtniclaapiabmdaaGreatDoor
set_option maxRecDepth 100000

/-- the form of what is put -/
def encB (m : List UInt8) : List UInt8 := be (m.take 65535).length 4 ++ m.take 65535
theorem rN_enc (n : Nat) (rest : List UInt8) (h : n < 18446744073709551616) : rN (be n 8 ++ rest) 0 = (n, rest, 0) := by
  have h1 : (be n 8 ++ rest).take 8 = be n 8 := by rw [List.take_append_of_le_length (by simp [be_length]), List.take_of_length_le (by simp [be_length])]
  have h2 : (be n 8 ++ rest).drop 8 = rest := by rw [List.drop_append_of_le_length (by simp [be_length]), List.drop_of_length_le (by simp [be_length]), List.nil_append]
  unfold rN
  rw [if_neg (by simp), if_neg (by simp [be_length]), h1, h2, be_lt, Nat.mod_eq_of_lt (by omega)]
theorem rB_enc (m : List UInt8) (rest : List UInt8) : rB (encB m ++ rest) 0 = (m.take 65535, rest, 0) := by
  have hl : (m.take 65535).length ≤ 65535 := by simp; omega
  unfold encB
  generalize m.take 65535 = t at *
  have h1 : (be t.length 4 ++ t ++ rest).take 4 = be t.length 4 := by
    rw [List.append_assoc, List.take_append_of_le_length (by simp [be_length]), List.take_of_length_le (by simp [be_length])]
  have h2 : (be t.length 4 ++ t ++ rest).drop 4 = t ++ rest := by
    rw [List.append_assoc, List.drop_append_of_le_length (by simp [be_length]), List.drop_of_length_le (by simp [be_length]), List.nil_append]
  have h3 : beVal (be t.length 4) = t.length := by rw [be_lt, Nat.mod_eq_of_lt (by omega)]
  unfold rB
  rw [if_neg (by simp), if_neg (by simp [be_length]), h1, h3, if_neg (by omega), if_neg (by simp [be_length]), h2]
  rw [← List.drop_drop, h2]
  simp
end Go.Proofs.YtniclaapiabmdaaGreatDoor
namespace Go.Proofs.YtniclaapiabmdaaGreatDoor
set_option maxRecDepth 100000
open Go Go.RowKit
set_option linter.unusedVariables false

end Go.Proofs.YtniclaapiabmdaaGreatDoor
namespace Go.Proofs.YtniclaapiabmdaaGreatDoor
set_option maxRecDepth 100000
open Go Go.RowKit
set_option linter.unusedVariables false

/-- made at w0: the result's block gr, the struct's block gd, the reader g -/
structure PZ (T : Nat) (w0 : World) (gr gd lo g : Nat) (tr td : TypeId) (cr cd : Array Value) (rest : List UInt8) (fault : Int) (W : World) : Prop where
  below : Below w0.heap.size w0 W
  hr : w0.heap.size ≤ gr
  hd : w0.heap.size ≤ gd
  res : W.heap[gr]? = some (.cells cr tr (0, 0))
  loc : W.heap[gd]? = some (.cells cd td (0, 0))
  rd : RdT T W lo g rest fault
  o1 : gr < lo
  o2 : g < gd
section
variable {T : Nat} {w0 W W' : World} {gr gd lo g : Nat} {tr td : TypeId} {cr cd : Array Value} {rest rest' : List UInt8} {fault fault' : Int}
theorem PZ.lo' (h : PZ T w0 gr gd lo g tr td cr cd rest fault W) : gr < g := Nat.lt_of_lt_of_le h.o1 h.rd.from_
theorem PZ.up (h : PZ T w0 gr gd lo g tr td cr cd rest fault W) (hb : Below W.heap.size W W') : PZ T w0 gr gd lo g tr td cr cd rest fault W' where
  below := below_chain h.below h.below.size hb
  hr := h.hr
  hd := h.hd
  res := (hb.block _ (blk_lt h.res)).trans h.res
  loc := (hb.block _ (blk_lt h.loc)).trans h.loc
  rd := h.rd.below hb
  o1 := h.o1
  o2 := h.o2
theorem PZ.call (h : PZ T w0 gr gd lo g tr td cr cd rest fault W) (hg : W.grownBy W' (some g)) (hr : RdT T W' lo g rest' fault') : PZ T w0 gr gd lo g tr td cr cd rest' fault' W' where
  below := h.below.grown hg h.below.size (fun k hk => by injection hk with hk; have := h.lo'; have := h.hr; omega)
  hr := h.hr
  hd := h.hd
  res := (hg.block _ (blk_lt h.res) (fun e => by injection e with e; have := h.lo'; omega)).trans h.res
  loc := (hg.block _ (blk_lt h.loc) (fun e => by injection e with e; have := h.o2; omega)).trans h.loc
  rd := hr
  o1 := h.o1
  o2 := h.o2
theorem PZ.set (h : PZ T w0 gr gd lo g tr td cr cd rest fault W) (i : Nat) (u : Value) : PZ T w0 gr gd lo g tr td cr (cd.setIfInBounds i u) rest fault (W.setCell ⟨gd, i, none⟩ u) where
  below := h.below.setCell h.hd u
  hr := h.hr
  hd := h.hd
  res := (Below.heap_setCell W ⟨gd, i, none⟩ u gr (by have := h.lo'; have := h.o2; show gr ≠ gd; omega)).trans h.res
  loc := blk_set h.loc i u
  rd := h.rd.grown (grown_setR W gd i u) (Or.inr h.o2)
  o1 := h.o1
  o2 := h.o2
theorem PZ.other (h : PZ T w0 gr gd lo g tr td cr cd rest fault W) {gu : Nat} (hu : gd < gu) (i : Nat) (u : Value) : PZ T w0 gr gd lo g tr td cr cd rest fault (W.setCell ⟨gu, i, none⟩ u) where
  below := h.below.setCell (by have := h.hd; show w0.heap.size ≤ gu; omega) u
  hr := h.hr
  hd := h.hd
  res := (Below.heap_setCell W ⟨gu, i, none⟩ u gr (by have := h.lo'; have := h.o2; show gr ≠ gu; omega)).trans h.res
  loc := (Below.heap_setCell W ⟨gu, i, none⟩ u gd (by show gd ≠ gu; omega)).trans h.loc
  rd := h.rd.grown (grown_setR W gu i u) (Or.inr (by have := h.o2; omega))
  o1 := h.o1
  o2 := h.o2
theorem PZ.drew (h : PZ T w0 gr gd lo g tr td cr cd rest fault W) : PZ T w0 gr gd lo g tr td cr cd rest fault W.drew := h.up (Below.drew (Below.refl _ _))
theorem PZ.alloc (h : PZ T w0 gr gd lo g tr td cr cd rest fault W) (o : Obj) : PZ T w0 gr gd lo g tr td cr cd rest fault (W.alloc o) := h.up ((Below.refl _ _).alloc (Nat.le_refl _) o)
/-- the result's block, all cells stored -/
theorem PZ.out (h : PZ T w0 gr gd lo g tr td cr cd rest fault W) : Below w0.heap.size w0 W := h.below
end
end Go.Proofs.YtniclaapiabmdaaGreatDoor
namespace Go.Proofs.YtniclaapiabmdaaGreatDoor
set_option maxRecDepth 100000
open Go Go.RowKit
set_option linter.unusedVariables false

/-- a field, read out of a struct, is equal to itself -/
def SelfF (xs : Array Value) (f : Field) : Prop := ∃ a, (∀ w, (part f.type xs f.offset).run Tryz.prog w = .ok a w) ∧ ∀ w, (Op.equalIn 9999 f.type a a).run Tryz.prog w = .ok true w
end Go.Proofs.YtniclaapiabmdaaGreatDoor
namespace Go.Proofs.YtniclaapiabmdaaGreatDoor
set_option maxRecDepth 100000
open Go
set_option linter.unusedVariables false
/-- what a call of the bank makes of a store -/
def stepM (R : List Pr) (kd : Int) (a c d : ByteArray) (x : U4) : List Pr := if kd = 1 then (mintM R a d x).2 else if kd = 2 then (burnM R a d x).2 else if kd = 3 then (sendM R a c d x).2 else R
theorem addU_okm (x y : U4) : (addU x y).1.ok := by
  unfold addU
  split
  · exact ofN_ok _
  · exact zero_ok
theorem subU_okm (x y : U4) : (subU x y).1.ok := by
  unfold subU
  split
  · exact ofN_ok _
  · exact zero_ok
section
variable {R : List Pr} {a b c d : ByteArray} {x : U4}
theorem CanonL.nil : CanonL [] := fun p hp => by cases hp
theorem CanonL.change {op : U4 → U4 → U4 × Bool} {u : Int} (h : CanonL R) (ho : ∀ x y, (op x y).1.ok) : CanonL (changeM op u R a d x).2 := by
  unfold changeM
  split
  · split
    · exact (h.keep _ (ho _ _)).keep _ (ho _ _)
    · exact h
  · exact h
theorem CanonL.send (h : CanonL R) : CanonL (sendM R a b d x).2 := by
  unfold sendM
  split
  · split
    · split
      · split
        · exact h
        · split
          · exact (h.keep _ (subU_okm _ _)).keep _ (addU_okm _ _)
          · exact h
      · exact h
    · exact h
  · exact h
end
end Go.Proofs.YtniclaapiabmdaaGreatDoor
namespace Go.Proofs.YtniclaapiabmdaaGreatDoor
set_option maxRecDepth 100000
open Go Go.RowKit
set_option linter.unusedVariables false

/-- one call of a script -/
structure BOp where
  kd : Int
  a : ByteArray
  c : ByteArray
  d : ByteArray
  x : U4
def BOp.cells (o : BOp) : List Value := [.int .i64 o.kd, .string o.a, .string o.c, .string o.d, .int .u64 (o.x.a : Int), .int .u64 (o.x.b : Int), .int .u64 (o.x.c : Int), .int .u64 (o.x.d : Int)]
def BOp.fine (o : BOp) : Prop := o.x.ok ∧ o.a.size ≤ 100000000 ∧ o.c.size ≤ 100000000 ∧ o.d.size ≤ 100000000
/-- a row of calls, read -/
def RdB (w : World) (B : Nat) (v : Value) (ops : List BOp) : Prop :=
  ∃ A c, v = .slice A ops.length c ∧ ops.length ≤ c ∧ c ≤ maxLen ∧ (0 < ops.length → ∃ b o, A = some ⟨b, o, none⟩ ∧ b < B ∧ ∀ j (h : j < ops.length), ∀ i, i < 8 → w.cell? ⟨b, o + j * 8 + i, none⟩ = (ops[j]).cells[i]?)
end Go.Proofs.YtniclaapiabmdaaGreatDoor
namespace Go.Proofs.YtniclaapiabmdaaGreatDoor
set_option maxRecDepth 100000
open Go Go.RowKit
set_option linter.unusedVariables false

end Go.Proofs.YtniclaapiabmdaaGreatDoor
namespace Go.Proofs.YtniclaapiabmdaaGreatDoor
set_option maxRecDepth 100000
open Go Go.RowKit
set_option linter.unusedVariables false

def accP : ByteArray := ⟨#[97, 99, 99, 47]⟩
def kAcc (a : ByteArray) : ByteArray := accP ++ a
theorem kAcc_size (a : ByteArray) : (kAcc a).size = a.size + 4 := by
  unfold kAcc
  rw [ByteArray.size_append]
  have : accP.size = 4 := by decide +kernel
  omega
theorem kAcc_fits {a : ByteArray} (h : identB a = true) : keyB (kAcc a) = true := by
  obtain ⟨h1, h2⟩ := identL_len2 h
  have h3 : a.data.toList.length = a.size := by simp
  have h4 := kAcc_size a
  unfold keyB
  simp only [Bool.and_eq_true, decide_eq_true_eq]
  omega

/-- an account's bytes -/
def accB (r : List UInt8) (b s : Nat) : List UInt8 := (encB r ++ be b 8) ++ be s 8
/-- an account, read -/
def readA (l : List UInt8) : Option (List UInt8 × Nat × Nat) :=
  if rEnd (rN (rN (rB l 0).2.1 (rB l 0).2.2).2.1 (rN (rB l 0).2.1 (rB l 0).2.2).2.2).2.1 (rN (rN (rB l 0).2.1 (rB l 0).2.2).2.1 (rN (rB l 0).2.1 (rB l 0).2.2).2.2).2.2 = 0 then
    some ((rB l 0).1, (rN (rB l 0).2.1 (rB l 0).2.2).1, (rN (rN (rB l 0).2.1 (rB l 0).2.2).2.1 (rN (rB l 0).2.1 (rB l 0).2.2).2.2).1)
  else none
theorem accB_len {r : List UInt8} {b s : Nat} (h : r.length ≤ 60000) : (accB r b s).length ≤ 65535 := by
  unfold accB encB
  simp only [List.length_append, be_length, List.length_take]
  omega
theorem readA_accB {r : List UInt8} {b s : Nat} (h1 : r.length ≤ 65535) (h2 : b < 18446744073709551616) (h3 : s < 18446744073709551616) : readA (accB r b s) = some (r, b, s) := by
  have e1 : rB (accB r b s) 0 = (r, be b 8 ++ be s 8, 0) := by
    unfold accB
    rw [List.append_assoc, rB_enc, List.take_of_length_le h1]
  have e2 := rN_enc b (be s 8) h2
  have e3 := rN_enc s [] h3
  rw [List.append_nil] at e3
  unfold readA
  simp only [e1, e2, e3]
  rfl
theorem rN_lt (l : List UInt8) (f : Int) : (rN l f).1 < 18446744073709551616 := by
  unfold rN
  split
  · show 0 < _; omega
  · split
    · show 0 < _; omega
    · have := beVal_lt8 (l.take 8) 8 (by simp; omega)
      show beVal (l.take 8) < _
      omega
/-- what an account's row reads as is in bounds -/
theorem readA_ok {l r : List UInt8} {b s : Nat} (h : readA l = some (r, b, s)) : r.length ≤ 65535 ∧ b < 18446744073709551616 ∧ s < 18446744073709551616 := by
  unfold readA at h
  split at h
  · have e := Option.some.inj h
    have e1 := congrArg Prod.fst e
    have e2 := congrArg (fun x => x.2.1) e
    have e3 := congrArg (fun x => x.2.2) e
    dsimp only at e1 e2 e3
    rw [← e1, ← e2, ← e3]
    exact ⟨rB_le _ _, rN_lt _ _, rN_lt _ _⟩
  · cases h
/-- the account at an address -/
def getA (R : List Pr) (a : ByteArray) : Option (List UInt8 × Nat × Nat) := (getL R (kAcc a)).bind readA
/-- a row put in -/
def putA (R : List Pr) (a : ByteArray) (r : List UInt8) (b s : Nat) : List Pr := putL (kAcc a, some (accB r b s)) R
theorem getA_put {R : List Pr} {a : ByteArray} {r : List UInt8} {b s : Nat} (h1 : r.length ≤ 65535) (h2 : b < 18446744073709551616) (h3 : s < 18446744073709551616) : getA (putA R a r b s) a = some (r, b, s) := by
  unfold getA putA
  rw [getL_putL, if_pos rfl]
  exact readA_accB h1 h2 h3
def createM (R : List Pr) (a : ByteArray) (r : List UInt8) : Int × List Pr :=
  if identB a = true then (if r.length = 32 then (if (getL R (kAcc a)).isSome = true then (111, R) else (0, putA R a r 0 0)) else (31, R)) else (40, R)
def rekeyM (R : List Pr) (a : ByteArray) (r : List UInt8) : Int × List Pr :=
  match getA R a with
  | none => (80, R)
  | some x => if r.length = 32 then (0, putA R a r x.2.2 x.2.2) else (31, R)
theorem create_yes {R : List Pr} {a : ByteArray} {r : List UInt8} (h : (createM R a r).1 = 0) : identB a = true ∧ r.length = 32 ∧ getL R (kAcc a) = none ∧ (createM R a r).2 = putA R a r 0 0 := by
  unfold createM at h ⊢
  split
  · next h1 =>
    rw [if_pos h1] at h
    split
    · next h2 =>
      rw [if_pos h2] at h
      split
      · next h3 => rw [if_pos h3] at h; cases h
      · next h3 => exact ⟨h1, h2, by simpa using h3, rfl⟩
    · next h2 => rw [if_neg h2] at h; cases h
  · next h1 => rw [if_neg h1] at h; cases h
/-- made once, it is not made again -/
theorem create_twice {R : List Pr} {a : ByteArray} {r : List UInt8} (h : (createM R a r).1 = 0) : createM (createM R a r).2 a r = (111, (createM R a r).2) := by
  obtain ⟨h1, h2, h3, h4⟩ := create_yes h
  rw [h4]
  conv => lhs; unfold createM
  rw [if_pos h1, if_pos h2, if_pos]
  unfold putA
  rw [getL_putL, if_pos rfl]
  rfl
theorem Rise.putA {R : List Pr} (h : Rise R) {a : ByteArray} {r : List UInt8} {b s : Nat} : Rise (putA R a r b s) := h.put _
end Go.Proofs.YtniclaapiabmdaaGreatDoor
namespace Go.Proofs.YtniclaapiabmdaaGreatDoor
set_option maxRecDepth 100000
open Go Go.RowKit
set_option linter.unusedVariables false

theorem SeenL.put {y : Lyr} {l : List Lyr} {R : List Pr} (h : SeenL ⟨#[]⟩ (y :: l) R) {key : ByteArray} (hk : key.size ≤ maxLen) (v : List UInt8) : SeenL ⟨#[]⟩ (y.put key (some v) :: l) (putL (key, some v) R) where
  rise := h.rise.put _
  small := fun p hp => by
    rcases List.mem_append.1 ((putL_perm key _ R).mem_iff.1 hp) with hp | hp
    · rw [List.mem_singleton.1 hp]; exact hk
    · exact h.small p (List.mem_filter.1 hp).1
  get := fun s hs => by
    have h0 := h.get s hs
    rw [begB_empty, if_pos rfl] at h0 ⊢
    rw [getL_putL]
    unfold visV at h0 ⊢
    rw [visD_cons] at h0 ⊢
    have hv : (y.put key (some v)).f s = if s = key then some (some v) else y.f s := rfl
    rw [hv]
    by_cases e : s = key
    · rw [if_pos e, if_pos e]; rfl
    · rw [if_neg e, if_neg e]; exact h0
section
variable {W W' W2 : World} {y : Lyr} {R R2 : List Pr} {k : Nat} {B : Nat}
theorem Acc.get (h : Acc W y R k W') (key : ByteArray) (hk : key.size ≤ maxLen) :
    Calls Tryz.prog 17 #[.pointer (some ⟨y.b, 0, none⟩), .string key] W' fun e w' => ∃ v, e = .returned (.tuple #[v, .bool (getL R key).isSome]) ∧ Own w' W'.heap.size v ((getL R key).getD []) ∧ Below W'.heap.size W' w' := by
  obtain ⟨n, f, h1, h2, h3, h4⟩ := h.b
  have e := h2.get key hk
  rw [begB_empty, if_pos rfl] at e
  rw [e]
  exact get_any h1 key hk
/-- what is there stands under a key that fits, and is not too long -/
theorem Acc.fits (h : Acc W y R k W') {key : ByteArray} {v : List UInt8} (e : getL R key = some v) : keyB key = true ∧ v.length ≤ 65535 := by
  obtain ⟨n, f, h1, h2, h3, h4⟩ := h.b
  have hs := h2.small _ (getL_mem e)
  have e2 := h2.get key hs
  rw [begB_empty, if_pos rfl, e] at e2
  unfold visV at e2
  rw [visD_cons] at e2
  have hok := h1.1.ok
  dsimp only at e2 hok
  cases hf : f key with
  | none => rw [hf] at e2; simp [visD] at e2
  | some x =>
    rw [hf] at e2
    simp at e2
    exact hok key v (by rw [hf, ← e2])
theorem Acc.set (h : Acc W y R k W') (hn : y.n + k < maxLen) (key : ByteArray) (hk : key.size ≤ maxLen) (v : Value) (val : List UInt8) (hr : Rd W' W'.heap.size v val) (hp : pairB (key, val) = true) :
    Calls Tryz.prog 28 #[.pointer (some ⟨y.b, 0, none⟩), .string key, v] W' fun e w' => e = .returned (.int .i64 0) ∧ Acc W y (putL (key, some val) R) (k + 1) w' ∧ Kept W' w' := by
  obtain ⟨n, f, h1, h2, h3, h4⟩ := h.b
  refine (set_yes h1 (show n < maxLen by omega) key hk v val hr hp).mono ?_
  rintro e w' ⟨he, hq, hc⟩
  exact ⟨he, ⟨⟨n + 1, _, hq, h2.put hk val, by omega, h4.trans' hc⟩, h.p⟩, ⟨_, hc, h1.1.maps⟩⟩
end
theorem accKey_any (a : ByteArray) (w : World) (ha : a.size ≤ 100000000) : Calls Tryz.prog 38 #[.string a] w fun e w' => e = .returned (.string (kAcc a)) ∧ w = w' := by
  have s1 : accP.size = 4 := rfl
  have h1 := fun W => txt_add accP a (by rw [s1]; omega) W
  unfold kAcc
  unfold accP at *
  go_enter Tryz.func38, Tryz.ntmps38
  go_wp2
  go_ret
  exact ⟨rfl, rfl⟩
end Go.Proofs.YtniclaapiabmdaaGreatDoor
namespace Go.Proofs.YtniclaapiabmdaaGreatDoor
set_option maxRecDepth 100000
open Go Go.RowKit
set_option linter.unusedVariables false

set_option maxHeartbeats 4000000 in
theorem aput_any {W W' : World} {y : Lyr} {R : List Pr} {k : Nat} (h : Acc W y R k W') (hn : y.n + k < maxLen) (a : ByteArray) (ha : keyB (kAcc a) = true) (v : Value) (r : List UInt8) (hr : Rd W' W'.heap.size v r) (hl : r.length ≤ 60000) (b s : Nat) (hb : b < 18446744073709551616) (hs : s < 18446744073709551616) :
    Calls Tryz.prog 37 #[.pointer (some ⟨y.b, 0, none⟩), .string a, .agg #[v, .int .u64 (b : Int), .int .u64 (s : Int)]] W' fun e w' => e = .returned (.tuple #[]) ∧ Acc W y (putA R a r b s) (k + 1) w' ∧ Kept W' w' := by
  have hk2 : (kAcc a).size ≤ 200 := by simp only [keyB, Bool.and_eq_true, decide_eq_true_eq] at ha; exact ha.2
  have has : a.size ≤ 200 := by have := kAcc_size a; omega
  have HK := Lib.hid (fun W => (accKey_any a W (by omega)).mono fun e w' ⟨h1, h2⟩ => (⟨h1, h2.symm⟩ : _ ∧ w' = W))
  have hpb : pairB (kAcc a, accB r b s) = true := by
    unfold pairB
    simp only [Bool.and_eq_true, decide_eq_true_eq]
    exact ⟨ha, accB_len hl⟩
  have hbox := heap_alloc_new W' (.cells #[v, .int .u64 (b : Int), .int .u64 (s : Int)] 38)
  have ha0 : Below W'.heap.size W' (W'.alloc (.cells #[v, .int .u64 (b : Int), .int .u64 (s : Int)] 38)) := (Below.refl _ _).alloc (Nat.le_refl _) _
  have hr0 := hr.up (Nat.le_refl _) ha0
  have A0 := h.up ha0
  obtain ⟨A, c, rfl⟩ := hr.form
  obtain ⟨n, hnn⟩ : ∃ n, n = r.length := ⟨_, rfl⟩
  rw [← hnn] at hr0 hbox ha0 A0 ⊢
  have HNN := Lib.hid hnn
  clear hr h hnn
  generalize hW0 : W'.alloc (.cells #[.slice A n c, .int .u64 (b : Int), .int .u64 (s : Int)] 38) = W0 at *
  have hgl := blk_lt hbox
  have HC : Hid (∀ Z, Kept W0 Z → Z.cell? ⟨W'.heap.size, 0, none⟩ = some (.slice A n c) ∧ Z.cell? ⟨W'.heap.size, 1, none⟩ = some (.int .u64 (b : Int)) ∧ Z.cell? ⟨W'.heap.size, 2, none⟩ = some (.int .u64 (s : Int))) := Lib.hid fun Z hz =>
    ⟨hz.cell (blk_cell hbox 0), hz.cell (blk_cell hbox 1), hz.cell (blk_cell hbox 2)⟩
  have hkD := Kept.drew W0
  have HB := Lib.hid (B_any (.slice none 0 0) (.slice A n c) [] r W0.drew (Rd.nil _ _) (hkD.rd hr0) (by simp))
  have HN1 : Hid (∀ (v : Value) (Z : World) (B : Nat), Own Z B v ([] ++ be (r.take 65535).length 4 ++ r.take 65535) → Calls Tryz.prog 91 #[v, .int .u64 (b : Int)] Z fun e w' => ∃ v', e = .returned v' ∧ Own w' Z.heap.size v' (([] ++ be (r.take 65535).length 4 ++ r.take 65535) ++ be b 8) ∧ Below Z.heap.size Z w') :=
    Lib.hid fun v Z B ho => N_any v _ b Z ho.rd hb (by simp [be_length]; omega)
  have HN2 : Hid (∀ (v : Value) (Z : World) (B : Nat), Own Z B v (([] ++ be (r.take 65535).length 4 ++ r.take 65535) ++ be b 8) → Calls Tryz.prog 91 #[v, .int .u64 (s : Int)] Z fun e w' => ∃ v', e = .returned v' ∧ Own w' Z.heap.size v' ((([] ++ be (r.take 65535).length 4 ++ r.take 65535) ++ be b 8) ++ be s 8) ∧ Below Z.heap.size Z w') :=
    Lib.hid fun v Z B ho => N_any v _ s Z ho.rd hs (by simp [be_length]; omega)
  have HST : Hid (∀ (v : Value) (Z : World) (B : Nat), Below W0.drew.heap.size W0.drew Z → Own Z B v ((([] ++ be (r.take 65535).length 4 ++ r.take 65535) ++ be b 8) ++ be s 8) → Calls Tryz.prog 28 #[.pointer (some ⟨y.b, 0, none⟩), .string (kAcc a), v] Z fun e w' => e = .returned (.int .i64 0) ∧ Acc W y (putA R a r b s) (k + 1) w' ∧ Kept Z w') :=
    Lib.hid fun v Z B hz ho => ((A0.up (Below.drew (Below.refl _ _))).up hz).set hn (kAcc a) (by unfold maxLen; omega) v (accB r b s) (ho.rd' (by simp [accB, encB])) hpb
  have hkW : Kept W' W0 := Kept.of_below ha0
  generalize [] ++ be (r.take 65535).length 4 ++ r.take 65535 = l1 at *
  generalize l1 ++ be b 8 = l2 at *
  generalize l2 ++ be s 8 = l3 at *
  generalize putA R a r b s = R2 at *
  clear hpb A0 hr0 hbox hgl ha hl hb hs hk2 has
  go_enter Tryz.func37, Tryz.ntmps37
  go_wp2_with fail
  try rw [hW0]
  clear hW0 ha0
  go_region_held_law (fun Z => Z.cell? ⟨W'.heap.size, 0, none⟩ = some (.slice A n c) ∧ Z.cell? ⟨W'.heap.size, 1, none⟩ = some (.int .u64 (b : Int)) ∧ Z.cell? ⟨W'.heap.size, 2, none⟩ = some (.int .u64 (s : Int)))
    (with_reducible first | exact HC.out _ hkF | exact HC.out _ hkM | exact HC.out _ hkN | exact HC.out _ hkB | exact HC.out _ hkD)
    ((first
      | (go_at_call 38; refine (HK.out _).mono ?_; rintro e w9 ⟨rfl, rfl⟩)
      | (go_at_call 77; refine HB.out.mono ?_; rintro e wB ⟨vB, rfl, hoB, hqB⟩; have hkB := hkD.trans (Kept.of_below hqB))
      | (go_at_call 91; first
          | (refine (HN2.out _ _ _ hoN).mono ?_; rintro e wM ⟨vM, rfl, hoM, hbM⟩; have hqM := below_chain hqN hqN.size hbM; have hkM := hkD.trans (Kept.of_below hqM))
          | (refine (HN1.out _ _ _ hoB).mono ?_; rintro e wN ⟨vN, rfl, hoN, hbN⟩; have hqN := below_chain hqB hqB.size hbN; have hkN := hkD.trans (Kept.of_below hqN)))
      | (go_at_call 28; refine (HST.out _ _ _ hqM hoM).mono ?_; rintro e wS ⟨rfl, AS, hkS⟩; have hkF := hkM.trans hkS)))
  all_goals
    have hfin := hkW.trans hkF
    go_wp2_with fail
    go_end0
    exact ⟨rfl, AS, hfin⟩
end Go.Proofs.YtniclaapiabmdaaGreatDoor
