/- Texts joined: LimbN1, BankA0, ShaH0, WireR0, WireDoc0, BeLt, EncB1. -/
import Derived.Test.YtmphegeiclgjbaaGreatDoorM01
import Derived.Deep.Onto
import Derived.Test.YtmphegeiclgjbaaGreatDoorM07
import Derived.Laws.Bits64b
import Derived.Test.YtmphegeiclgjbaaGreatDoorM08
import Derived.Test.YtmphegeiclgjbaaGreatDoorM02
import Derived.StillTailTactics
import Derived.Deep.RegionHeldLaw
import Derived.Laws.Concat
import Derived.Laws.IdiomStrings
import Derived.Laws.StructEq
namespace Go.Proofs.YtmphegeiclgjbaaGreatDoor
set_option maxRecDepth 100000
open Go Go.RowKit

def intV (d : Nat) : Value := .int .i64 (d : Int)
def dcells (p : List Nat) : List Value := p.map intV
section
variable {w w' : World} {B B' b k : Nat} {t : TypeId} {v : Value} {D : List Nat}
/-- a row of numbers, of the call's own from B on -/
def OwnI (w : World) (B : Nat) (v : Value) (D : List Nat) : Prop := w.ownsRow B 3 1 v D.length (dcells D)
theorem OwnI.form (h : OwnI w B v D) : ∃ A c, v = .slice A D.length c := by
  rcases h.2 with ⟨rfl, h0⟩ | ⟨g, cap, cur, rfl, _⟩
  · exact ⟨none, 0, by rw [h0]⟩
  · exact ⟨_, _, rfl⟩
theorem OwnI.nil (w : World) (B : Nat) : OwnI w B (.slice none 0 0) [] := World.ownsRow_nil w B _ 1
theorem OwnI.more (h : OwnI w B v D) (hB : B' ≤ B) : OwnI w B' v D := World.ownsRow.mono h hB
theorem OwnI.up (h : OwnI w B v D) (hb : Below w.heap.size w w') : OwnI w' B v D := by
  refine ⟨h.1, ?_⟩
  rcases h.2 with h0 | ⟨g, cap, cur, hv, hB, hg, rest⟩
  · exact .inl h0
  · exact .inr ⟨g, cap, cur, hv, hB, (hb.block g (Array.getElem?_eq_some_iff.1 hg).1).trans hg, rest⟩
theorem OwnI.at_ {A : Option Addr} {n c : Nat} (h : OwnI w B (.slice A n c) D) (j : Nat) (hj : j < D.length) : ∃ g, A = some ⟨g, 0, none⟩ ∧ n = D.length ∧ g < w.heap.size ∧ w.cell? ⟨g, j, none⟩ = some (.int .i64 (D.getD j 0 : Int)) := by
  rcases h.2 with ⟨_, h0⟩ | ⟨g, cap, cur, hv, hb, hg, hn, hm, hs, ht⟩
  · omega
  · injection hv with h1 h2 h3
    subst h1; subst h2; subst h3
    refine ⟨g, rfl, rfl, (Array.getElem?_eq_some_iff.1 hg).1, ?_⟩
    have hx : (dcells D)[j]? = some (.int .i64 (D.getD j 0 : Int)) := by simp [dcells, intV, hj, List.getD_eq_getElem?_getD]
    rw [cell_of_row w g _ cur _ (0, 0) hg]
    rw [← ht, List.getElem?_take] at hx
    split at hx
    · simpa using hx
    · cases hx
/-- a number of it is written -/
theorem OwnI.put {A : Option Addr} {n c k : Nat} (h : OwnI w B (.slice A n c) D) (hk : k < D.length) :
    ∃ g, A = some ⟨g, 0, none⟩ ∧ B ≤ g ∧ g < w.heap.size ∧ w.cell? ⟨g, k, none⟩ = some (.int .i64 (D.getD k 0 : Int)) ∧ w.frozen? ⟨g, k, none⟩ = false ∧
      ∀ x : Nat, OwnI (w.setCell ⟨g, k, none⟩ (.int .i64 (x : Int))) B (.slice A n c) (D.set k x) := by
  obtain ⟨g, rfl, hn, hlt, hcell⟩ := h.at_ k hk
  have hlt2 := World.ownsRow.lt h g rfl
  subst hn
  refine ⟨g, rfl, hlt2.1, hlt, hcell, World.ownsRow.frozenAt (h : w.ownsRow B _ 1 _ _ _) k, fun x => ?_⟩
  have h2 := World.ownsRow.stored (h : w.ownsRow B _ 1 _ _ _) k (.int .i64 (x : Int))
  unfold OwnI
  rw [List.length_set]
  have e : dcells (D.set k x) = (dcells D).set k (.int .i64 (x : Int)) := by simp [dcells, List.map_set, intV]
  rw [e]
  exact h2.1
theorem OwnI.grown (h : OwnI w B v D) {row : Option Nat} (hg : w.grownBy w' row) (hne : v.ownBlock = none ∨ v.ownBlock ≠ row) : OwnI w' B v D := World.ownsRow.kept h hg hne
theorem OwnI.drew (h : OwnI w B v D) : OwnI w.drew B v D := h
theorem OwnI.drewN (h : OwnI w B v D) (q : Nat) : OwnI (w.drewN q) B v D := h
theorem OwnI.alloc (h : OwnI w B v D) (o : Obj) : OwnI (w.alloc o) B v D := World.ownsRow.alloc h o
theorem OwnI.lt (h : OwnI w B v D) : ∀ k, v.ownBlock = some k → B ≤ k ∧ k < w.heap.size := World.ownsRow.lt h
theorem OwnI.below (h : OwnI w B v D) {w0 : World} (h0 : Below B w0 w) (hB : B ≤ w.heap.size) (hg : w.grownBy w' v.ownBlock) : Below B w0 w' := h0.grown hg hB fun k hk => (h.lt k hk).1

variable {P : Program}
end
end Go.Proofs.YtmphegeiclgjbaaGreatDoor
namespace Go.Proofs.YtmphegeiclgjbaaGreatDoor
set_option maxRecDepth 100000
open Go Go.RowKit

theorem OwnI.zero (w : World) (B : Nat) (n : Nat) : OwnI w B (.slice none 0 0) (byL n 0) := OwnI.nil w B

end Go.Proofs.YtmphegeiclgjbaaGreatDoor
namespace Go.Proofs.YtmphegeiclgjbaaGreatDoor
set_option maxRecDepth 100000
open Go Go.RowKit

theorem two (w : World) (X Y : Array Value) : LBlk ((w.alloc (.cells X 31)).alloc (.cells Y 31)) w.heap.size X ∧
    LBlk ((w.alloc (.cells X 31)).alloc (.cells Y 31)) (w.heap.size + 1) Y ∧
    Below w.heap.size w ((w.alloc (.cells X 31)).alloc (.cells Y 31)) := by
  refine ⟨(LBlk.new w X).alloc _, ?_, ((Below.refl _ _).alloc (Nat.le_refl _) _).alloc (by simp) _⟩
  have := LBlk.new (w.alloc (.cells X 31)) Y
  simpa using this

end Go.Proofs.YtmphegeiclgjbaaGreatDoor
namespace Go.Proofs.YtmphegeiclgjbaaGreatDoor
set_option maxRecDepth 100000
open Go Go.RowKit

/-- the first k bytes are there, the others are 0 -/
def partB (n k : Nat) : List UInt8 := (be n 32).take k ++ List.replicate (32 - k) 0
end Go.Proofs.YtmphegeiclgjbaaGreatDoor
namespace Go.Proofs.YtmphegeiclgjbaaGreatDoor
set_option maxRecDepth 100000
open Go Go.RowKit

/-- the first k numbers are there, the others are 0 -/
def partI (L : List Nat) (k : Nat) : List Nat := L.take k ++ List.replicate (32 - k) 0
theorem OwnI.made (w : World) {B : Nat} (D : List Nat) (hb : B ≤ w.heap.size) (hm : D.length ≤ maxLen) : OwnI (w.alloc (.cells (dcells D).toArray 3)) B (.slice (some ⟨w.heap.size, 0, none⟩) D.length D.length) D :=
  ⟨by simp [dcells], .inr ⟨w.heap.size, D.length, _, rfl, hb, heap_alloc_new w _, Nat.le_refl _, hm, by simp [dcells], by simp [dcells, List.take_of_length_le]⟩⟩
end Go.Proofs.YtmphegeiclgjbaaGreatDoor
namespace Go.Proofs.YtmphegeiclgjbaaGreatDoor
set_option maxRecDepth 100000
open Go Go.RowKit

/-- the number that the first k of 32 bytes make -/
def highB (l : List UInt8) (k : Nat) : Nat := valB (l.take k) * 256 ^ (32 - k)
end Go.Proofs.YtmphegeiclgjbaaGreatDoor
namespace Go.Proofs.YtmphegeiclgjbaaGreatDoor
set_option maxRecDepth 100000
open Go Go.RowKit
set_option linter.unusedVariables false

theorem txt_add (a b : ByteArray) (h : a.size + b.size ≤ 9223372036854775807) (w : World) : (Op.stringOp .add a b).run Tryz.prog w = .ok (.string (a ++ b)) w := run_string_add_sum (P := Tryz.prog) (w := w) a b h
/-- the amount under a key, as it is seen -/
def amtV (l : List Lyr) (key : ByteArray) : U4 := (fromU ((visV l key).getD [])).1
/-- an amount kept in a layer -/
def Lyr.keep (y : Lyr) (bot : Bool) (key : ByteArray) (x : U4) : Lyr := if eqB x U4.zero = true then y.del bot key else y.put key (some (be x.nat 32))
end Go.Proofs.YtmphegeiclgjbaaGreatDoor
namespace Go.Proofs.YtmphegeiclgjbaaGreatDoor
set_option maxRecDepth 100000
open Go Go.RowKit
set_option linter.unusedVariables false

theorem SeenL.keep {y : Lyr} {l : List Lyr} {R : List Pr} (h : SeenL ⟨#[]⟩ (y :: l) R) {key : ByteArray} (hk : key.size ≤ maxLen) (x : U4) : SeenL ⟨#[]⟩ (y.keep l.isEmpty key x :: l) (keepL key x R) where
  rise := h.rise.keep
  small := fun p hp => by
    unfold keepL at hp
    rcases List.mem_append.1 ((putL_perm key _ R).mem_iff.1 hp) with hp | hp
    · split at hp
      · cases hp
      · rw [List.mem_singleton.1 hp]; exact hk
    · exact h.small p (List.mem_filter.1 hp).1
  get := fun s hs => by
    have h0 := h.get s hs
    rw [begB_empty, if_pos rfl] at h0 ⊢
    rw [getL_keep]
    unfold visV at h0 ⊢
    rw [visD_cons] at h0 ⊢
    have hv : (y.keep l.isEmpty key x).f s = if s = key then (if eqB x U4.zero = true then (if l.isEmpty = true then none else some none) else some (some (be x.nat 32))) else y.f s := by
      unfold Lyr.keep Lyr.del
      by_cases hx : eqB x U4.zero = true
      · rw [if_pos hx, if_pos hx]
        by_cases hl : l.isEmpty = true
        · rw [if_pos hl, if_pos hl]; rfl
        · rw [if_neg hl, if_neg hl]; rfl
      · rw [if_neg hx, if_neg hx]; rfl
    rw [hv]
    by_cases e : s = key
    · rw [if_pos e, if_pos e]
      by_cases hx : eqB x U4.zero = true
      · rw [if_pos hx, if_pos hx]
        cases l with
        | nil => rfl
        | cons a l => rfl
      · rw [if_neg hx, if_neg hx]; rfl
    · rw [if_neg e, if_neg e]; exact h0
/-- what an address has, as it is seen -/
def balV (l : List Lyr) (a d : ByteArray) : U4 := if (identB a && denomB d) = true then amtV l (kBal a d) else U4.zero
def supV (l : List Lyr) (d : ByteArray) : U4 := if denomB d = true then amtV l (kSup d) else U4.zero
end Go.Proofs.YtmphegeiclgjbaaGreatDoor
namespace Go.Proofs.YtmphegeiclgjbaaGreatDoor
set_option maxRecDepth 100000
open Go Go.RowKit
set_option linter.unusedVariables false

/-- a store of one pile, of which R is seen, behind a call of the bank -/
def BankS (W : World) (y : Lyr) (l : List Lyr) (R : List Pr) (k : Nat) (W' : World) : Prop :=
  ∃ n f, PileS W' (⟨y.b, y.m, n, f⟩ :: l) ∧ SeenL ⟨#[]⟩ (⟨y.b, y.m, n, f⟩ :: l) R ∧ n ≤ y.n + k ∧ Chg W W' (fun k => k = y.m)
theorem BankS.refl {W : World} {y : Lyr} {l : List Lyr} {R : List Pr} (h : PileS W (y :: l)) (hs : SeenL ⟨#[]⟩ (y :: l) R) : BankS W y l R 0 W := ⟨y.n, y.f, h, hs, Nat.le_refl _, Chg.refl _ _⟩
theorem BankS.up {W W' W2 : World} {y : Lyr} {l : List Lyr} {R : List Pr} {k k' : Nat} (h : BankS W y l R k W') (hb : Below W'.heap.size W' W2) (hk : k ≤ k') : BankS W y l R k' W2 := by
  obtain ⟨n, f, h1, h2, h3, h4⟩ := h
  exact ⟨n, f, h1.up hb, h2, by omega, h4.trans' (.of_below hb _)⟩
theorem BankS.from_ {W0 W W' : World} {y : Lyr} {l : List Lyr} {R : List Pr} {k : Nat} (h : BankS W y l R k W') (hb : Below W0.heap.size W0 W) : BankS W0 y l R k W' := by
  obtain ⟨n, f, h1, h2, h3, h4⟩ := h
  exact ⟨n, f, h1, h2, h3, (Chg.of_below hb _).trans' h4⟩
end Go.Proofs.YtmphegeiclgjbaaGreatDoor
namespace Go.Proofs.YtmphegeiclgjbaaGreatDoor
set_option maxRecDepth 100000
open Go.RowKit

def digits : List UInt8 := [48, 49, 50, 51, 52, 53, 54, 55, 56, 57, 97, 98, 99, 100, 101, 102]
def hex2 (x : UInt8) : List UInt8 := [digits.getD (x.toNat / 16) 0, digits.getD (x.toNat % 16) 0]
def hexOf (l : List UInt8) : List UInt8 := l.flatMap hex2

theorem hexOf_length (l : List UInt8) : (hexOf l).length = 2 * l.length := by
  induction l with
  | nil => rfl
  | cons x l ih => rw [hexOf, List.flatMap_cons, List.length_append, ← hexOf, ih, List.length_cons, show (hex2 x).length = 2 from rfl]; omega
theorem hexOf_succ (l : List UInt8) (t : Nat) (h : t < l.length) : hexOf (l.take (t + 1)) = hexOf (l.take t) ++ [digits.getD (l[t].toNat / 16) 0, digits.getD (l[t].toNat % 16) 0] := by
  unfold hexOf
  rw [List.take_add_one, List.flatMap_append, List.getElem?_eq_getElem h]
  simp [hex2]

theorem dig_at (k : Nat) (h : k < 16) (w : World) : (Instr.index 9 (.string ⟨#[48, 49, 50, 51, 52, 53, 54, 55, 56, 57, 97, 98, 99, 100, 101, 102]⟩) (.int .u8 (k : Int))).run Tryz.prog w = .ok (.int .u8 ((digits.getD k 0).toNat : Int)) w := by
  have : k = 0 ∨ k = 1 ∨ k = 2 ∨ k = 3 ∨ k = 4 ∨ k = 5 ∨ k = 6 ∨ k = 7 ∨ k = 8 ∨ k = 9 ∨ k = 10 ∨ k = 11 ∨ k = 12 ∨ k = 13 ∨ k = 14 ∨ k = 15 := by omega
  rcases this with rfl | rfl | rfl | rfl | rfl | rfl | rfl | rfl | rfl | rfl | rfl | rfl | rfl | rfl | rfl | rfl <;> rfl

theorem bits_and_u8_nat (a b : Nat) (ha : a < 256) (hb : b < 256) : bits .and .u8 (a : Int) (b : Int) = ((a &&& b : Nat) : Int) := by
  have hx : a &&& b < 2 ^ 8 := Nat.and_lt_two_pow a (by omega)
  have h1 : (BitVec.ofInt 8 (a : Int)).toNat = a := by
    rw [BitVec.ofInt_natCast, BitVec.toNat_ofNat]; exact Nat.mod_eq_of_lt (by omega)
  have h2 : (BitVec.ofInt 8 (b : Int)).toNat = b := by
    rw [BitVec.ofInt_natCast, BitVec.toNat_ofNat]; exact Nat.mod_eq_of_lt (by omega)
  show IntKind.u8.wrap ((BitVec.ofInt 8 (a : Int) &&& BitVec.ofInt 8 (b : Int)).toNat : Int) = _
  rw [BitVec.toNat_and, h1, h2]
  simp only [IntKind.wrap, IntKind.bits, IntKind.signed]
  simp
  omega
theorem and15 (x : UInt8) : bits .and .u8 (x.toNat : Int) 15 = ((x.toNat % 16 : Nat) : Int) := by
  have hx := x.toNat_lt
  have h : bits .and .u8 (x.toNat : Int) ((15 : Nat) : Int) = ((x.toNat &&& 15 : Nat) : Int) := bits_and_u8_nat x.toNat 15 hx (by omega)
  rw [show x.toNat &&& 15 = x.toNat % 16 from Nat.and_two_pow_sub_one_eq_mod x.toNat 4] at h
  exact h

set_option maxHeartbeats 1000000 in
theorem hex_any (v : Value) (l : List UInt8) (w : World) (hr : Rd w w.heap.size v l) (hl : l.length ≤ 70368744177664) :
    Calls Tryz.prog 133 #[v] w fun e w' => e = .returned (.string ⟨(hexOf l).toArray⟩) ∧ Below w.heap.size w w' := by
  obtain ⟨i0, hi, hz, hsz, hby⟩ := info_parts Tryz.infoByte
  obtain ⟨A, c, rfl, hc, hcm, hp⟩ := id hr
  go_enter Tryz.func133, Tryz.ntmps133
  go_wp2_with (
    at_make
    have hmul : (2 : Int) * (l.length : Int) = ((2 * l.length : Nat) : Int) := by omega
    refine wpList_make_own _ rfl (.const (.int .i64 0)) (.tmp 8) 32 rfl w.heap.size 5 i0 _ 1 Tryz.underlying32 hi hz hsz .i64 .i64 _ (2 * l.length) rfl rfl hmul (by rw [hby]; omega) (by simp only [maxLen]; omega) (Nat.le_refl _) ?_
    intro w0 ho0 hg0
    have hb0 : Below w.heap.size w w0 := (Below.refl _ _).grown hg0 (Nat.le_refl _) (by intro k hk; cases hk)
    replace ho0 : Own w0 w.heap.size _ [] := ho0
    have HP := Lib.hid hp
    clear hg0 hmul hp)
  go_wp2
  go_loopw [3, 12] (fun v3 i wr => ∃ t : Nat, t ≤ l.length ∧ i = .int .i64 (t : Int) ∧ Own wr w.heap.size v3 (hexOf (l.take t)) ∧ Below w.heap.size w wr)
    (fun _ i _ => l.length - (intOf i).toNat)
  case atStart => exact ⟨0, Nat.zero_le _, rfl, ho0, hb0⟩
  case round =>
    clear ho0 hb0
    obtain ⟨t, ht, rfl, ho, hb⟩ := hrel
    by_cases hlt : t < l.length
    · obtain ⟨b, o, rfl, hbl, hcell⟩ := HP.out (by omega)
      have hol : (hexOf (l.take t)).length = 2 * t := by rw [hexOf_length, List.length_take]; omega
      have hnext := hexOf_succ l t hlt
      have e := (hb.cell (p := ⟨b, o + t, none⟩) hbl).trans (hcell t hlt)
      unfold bval at e
      obtain ⟨x, hx⟩ : ∃ x, x = l[t] := ⟨_, rfl⟩
      rw [← hx] at e hnext
      have HN := Lib.hid hnext
      clear hnext hx hcell HP
      have hx16 : x.toNat / 16 < 16 := by have := x.toNat_lt; omega
      have d1 := dig_at (x.toNat / 16) hx16
      have d2 := dig_at (x.toNat % 16) (by omega)
      have k1 : (x.toNat : Int) / 16 = ((x.toNat / 16 : Nat) : Int) := by omega
      have k2 := and15 x
      have k3 : (x.toNat : Int) / 2 ^ 4 = ((x.toNat / 16 : Nat) : Int) := by omega
      generalize x.toNat / 16 = h1 at *
      generalize x.toNat % 16 = h2 at *
      have i1 : (0 : Int) ≤ (t : Int) := by omega
      have i2 : (t : Int) < (l.length : Int) := by omega
      go_wp2
      go_region_held_law (fun _ => True) (trivial)
        ((rw [if_pos (by rfl)]; refine wp_append_rd (.tmp 16) (.tmp 23) _ rfl i0 Tryz.underlying32 hi hz hsz hby rfl (ho.drew.alloc _) rfl (rd_lit _ _ [digits.getD h1 0, digits.getD h2 0] 2 rfl (by simp [bcells, bval]) (by simp [maxLen])) (by rw [hol]; simp; omega) (by have := hb.size; simp; omega) ?_; intro v3 w3 ho3 hg3 _))
      all_goals
        have hb3 : Below w.heap.size w w3 := Own.below_grown (hb.drew.alloc hb.size _) (ho.drew.alloc _) (Nat.le_refl _) (by have := hb.size; simp; omega) hg3
        rw [← HN.out] at ho3
        clear hg3 d1 d2
        go_wp2
        go_roundw
        case rel => exact ⟨t + 1, by omega, by go_num, ho3, hb3⟩
        case measure => simp [intOf]; omega
    · have hte : t = l.length := by omega
      have i2 : ¬ (t : Int) < (l.length : Int) := by omega
      have hrd := ho.rd
      rw [hte, List.take_of_length_le (Nat.le_refl _)] at hrd
      have hcv := run_str (P := Tryz.prog) Tryz.underlying32 Tryz.underlying5 Tryz.isString hrd
      clear hte HP
      go_wp2
      go_ret
      exact ⟨rfl, hb⟩
end Go.Proofs.YtmphegeiclgjbaaGreatDoor
namespace Go.Proofs.YtmphegeiclgjbaaGreatDoor
set_option maxRecDepth 100000
open Go.RowKit

end Go.Proofs.YtmphegeiclgjbaaGreatDoor
namespace Go.Proofs.YtmphegeiclgjbaaGreatDoor
set_option maxRecDepth 100000
open Go.RowKit

/-- the byte of a flag -/
def fb (yes : Bool) : UInt8 := if yes then 1 else 0

set_option maxHeartbeats 400000 in
theorem F_any (v : Value) (yes : Bool) (l : List UInt8) (w : World) (hr : Rd w w.heap.size v l) (hl : l.length ≤ 140737488355320) :
    Calls Tryz.prog 119 #[v, .bool yes] w fun e w' => ∃ v', e = .returned v' ∧ Own w' w.heap.size v' (l ++ [fb yes]) ∧ Below w.heap.size w w' := by
  obtain ⟨i0, hi, hz, hsz, hby⟩ := info_parts Tryz.infoByte
  cases yes
  · go_enter Tryz.func119, Tryz.ntmps119
    go_wp2_with fail
    refine (grown_any v l _ w hr (by omega) (by omega)).mono ?_
    rintro e w1 ⟨v1, rfl, ho1, hb1⟩
    go_wp2_with (at_builtin; refine wpList_append_rd rfl (.tmp 12) (.tmp 13) _ rfl i0 Tryz.underlying32 hi hz hsz hby rfl (ho1.alloc _) rfl (rd_lit w1 _ [0] 1 rfl (by simp [bcells, bval]) (by simp [maxLen])) (by simp; omega) (by have := hb1.size; simp; omega) ?_; intro v3 w3 ho3 hg3 _)
    go_ret
    exact ⟨_, rfl, ho3, Own.below_grown (hb1.alloc hb1.size _) (ho1.alloc _) (Nat.le_refl _) (by have := hb1.size; simp; omega) hg3⟩
  · go_enter Tryz.func119, Tryz.ntmps119
    go_wp2_with fail
    refine (grown_any v l _ w hr (by omega) (by omega)).mono ?_
    rintro e w1 ⟨v1, rfl, ho1, hb1⟩
    go_wp2_with (at_builtin; refine wpList_append_rd rfl (.tmp 9) (.tmp 10) _ rfl i0 Tryz.underlying32 hi hz hsz hby rfl (ho1.alloc _) rfl (rd_lit w1 _ [1] 1 rfl (by simp [bcells, bval]) (by simp [maxLen])) (by simp; omega) (by have := hb1.size; simp; omega) ?_; intro v3 w3 ho3 hg3 _)
    go_ret
    exact ⟨_, rfl, ho3, Own.below_grown (hb1.alloc hb1.size _) (ho1.alloc _) (Nat.le_refl _) (by have := hb1.size; simp; omega) hg3⟩
end Go.Proofs.YtmphegeiclgjbaaGreatDoor
namespace Go.Proofs.YtmphegeiclgjbaaGreatDoor
set_option maxRecDepth 100000
open Go.RowKit

/-- a reader at block g: what is left, and the fault; its bytes and itself lie in blocks from lo on -/
def RdT (T : Nat) (w : World) (lo g : Nat) (rest : List UInt8) (fault : Int) : Prop :=
  ∃ sv, w.heap[g]? = some (.cells #[sv, .int .i64 fault] T (0, 0)) ∧ lo ≤ g ∧ Rd w g sv rest ∧ (∀ k, sv.ownBlock = some k → lo ≤ k)
abbrev Rdr := RdT 144
section
variable {T : Nat} {w w' : World} {lo g : Nat} {rest : List UInt8} {fault : Int}
theorem RdT.from_ (h : RdT T w lo g rest fault) : lo ≤ g := by obtain ⟨_, _, h, _⟩ := h; exact h
theorem RdT.lt (h : RdT T w lo g rest fault) : g < w.heap.size := by obtain ⟨sv, h, _⟩ := h; exact blk_lt h
/-- kept where nothing from lo to g has turned -/
theorem RdT.keep (h : RdT T w lo g rest fault) (hk : ∀ k, lo ≤ k → k ≤ g → w'.heap[k]? = w.heap[k]?) : RdT T w' lo g rest fault := by
  obtain ⟨sv, hb, hlo, ⟨A, c, hv, hc, hm, hp⟩, hs⟩ := h
  refine ⟨sv, (hk g hlo (Nat.le_refl _)).trans hb, hlo, ⟨A, c, hv, hc, hm, fun h0 => ?_⟩, hs⟩
  obtain ⟨b, o, hA, hbg, hcell⟩ := hp h0
  refine ⟨b, o, hA, hbg, fun j hj => ?_⟩
  rw [← hcell j hj]
  exact World.cell?_of_block (hk b (hs b (by subst hv; subst hA; rfl)) (by omega))
theorem RdT.below (h : RdT T w lo g rest fault) (hb : Below w.heap.size w w') : RdT T w' lo g rest fault := h.keep fun k _ hk => hb.block k (by have := h.lt; omega)
/-- kept where another block alone has turned -/
theorem RdT.grown {g' : Nat} (h : RdT T w lo g rest fault) (hg : w.grownBy w' (some g')) (hne : g' < lo ∨ g < g') : RdT T w' lo g rest fault :=
  h.keep fun k h1 h2 => hg.block k (by have := h.lt; omega) (by intro e; injection e with e; omega)
theorem grown_setR (w : World) (g i : Nat) (u : Value) : w.grownBy (w.setCell ⟨g, i, none⟩ u) (some g) :=
  ⟨rfl, rfl, rfl, by simp [World.setCell], fun k hk hne => Below.heap_setCell w _ u k (by rintro rfl; exact hne rfl)⟩
theorem Rd.set {v : Value} (h : Rd w g v rest) (i : Nat) (u : Value) : Rd (w.setCell ⟨g, i, none⟩ u) g v rest := h.keep fun p hp => World.cell?_setCell_other w _ _ _ (by rintro rfl; simp at hp)
end

variable {w : World} {lo g : Nat} {rest : List UInt8} {fault : Int}

theorem ready_any (h : Rdr w lo g rest fault) (b : Bool) (hb : (fault == 0) = b) :
    Calls Tryz.prog 100 #[.pointer (some ⟨g, 0, none⟩)] w fun e w' => e = .returned (.bool b) ∧ w = w' := by
  obtain ⟨sv, hg, hlo, hr, hs⟩ := h
  have c1 : w.cell? ⟨g, 1, none⟩ = some (.int .i64 fault) := blk_cell hg 1
  go_enter Tryz.func100, Tryz.ntmps100
  go_wp2
  go_ret
  exact ⟨rfl, rfl⟩

/-- the number that bytes are, the highest first -/
def beVal (l : List UInt8) : Nat := l.foldl (fun n x => n * 256 + x.toNat) 0
theorem beVal_snoc (l : List UInt8) (x : UInt8) : beVal (l ++ [x]) = beVal l * 256 + x.toNat := by simp [beVal]
theorem beVal_foldl (l : List UInt8) : ∀ a : Nat, l.foldl (fun n x => n * 256 + x.toNat) a < (a + 1) * 256 ^ l.length := by
  induction l with
  | nil => intro a; simp
  | cons x l ih =>
    intro a
    have h1 := ih (a * 256 + x.toNat)
    have h2 := x.toNat_lt
    have h3 : (a * 256 + x.toNat + 1) * 256 ^ l.length ≤ ((a + 1) * 256) * 256 ^ l.length := Nat.mul_le_mul_right _ (by omega)
    simp only [List.foldl_cons, List.length_cons, Nat.pow_succ]
    have h4 : (a + 1) * (256 ^ l.length * 256) = ((a + 1) * 256) * 256 ^ l.length := by
      rw [Nat.mul_assoc, Nat.mul_comm 256]
    omega
theorem beVal_lt (l : List UInt8) : beVal l < 256 ^ l.length := by simpa [beVal] using beVal_foldl l 0
theorem beVal_lt8 (l : List UInt8) (k : Nat) (h : l.length ≤ k) : beVal l < 256 ^ k := Nat.lt_of_lt_of_le (beVal_lt l) (Nat.pow_le_pow_right (by omega) h)
theorem or_byte (x : Nat) (y : UInt8) (h : x < 72057594037927936) :
    bits BinOp.or IntKind.u64 ((x : Int) * 256) (IntKind.u64.wrap (y.toNat : Int)) = ((x * 256 + y.toNat : Nat) : Int) := by
  have hy := y.toNat_lt
  have e1 : ((x : Int) * 256) = ((x * 256 : Nat) : Int) := by omega
  have e2 : IntKind.u64.wrap (y.toNat : Int) = (y.toNat : Int) := by rw [IntKind.wrap_u64]; omega
  rw [e1, e2, bits_or_u64_nat _ _ (by omega) (by omega)]
  have := Nat.shiftLeft_add_eq_or_of_lt (b := y.toNat) (i := 8) (by omega) x
  rw [Nat.shiftLeft_eq] at this
  rw [show x * 256 = x * 2 ^ 8 from rfl, ← this]

set_option maxHeartbeats 400000 in
theorem high_any (h : Rdr w lo g rest fault) (size : Nat) (hs : size ≤ 8) (hl : size ≤ rest.length) :
    Calls Tryz.prog 101 #[.pointer (some ⟨g, 0, none⟩), .int .i64 (size : Int)] w fun e w' => e = .returned (.int .u64 (beVal (rest.take size) : Nat)) ∧ w = w' := by
  obtain ⟨sv, hg, hlo, ⟨A, c, rfl, hc, hcm, hp⟩, hss⟩ := h
  have c0 : w.cell? ⟨g, 0, none⟩ = some (.slice A rest.length c) := blk_cell hg 0
  have hb0 : (0 : Int) ≤ (size : Int) := by omega
  have hb1 : (size : Int) ≤ (c : Int) := by omega
  go_enter Tryz.func101, Tryz.ntmps101
  go_wp2
  go_loop [5, 15] (fun n i => ∃ k : Nat, k ≤ size ∧ i = .int .i64 (k : Int) ∧ n = .int .u64 (beVal (rest.take k) : Nat)) (fun _ i => size - (intOf i).toNat)
  case atStart => exact ⟨0, Nat.zero_le _, rfl, by simp [beVal]⟩
  case round =>
    obtain ⟨k, hk, rfl, rfl⟩ := hrel
    by_cases hlt : k < size
    · obtain ⟨b, o, rfl, hb, hcell⟩ := hp (by omega)
      have c1 : w.cell? ⟨b, o + k, none⟩ = some (.int .u8 ((rest[k]'(by omega)).toNat : Int)) := hcell k (by omega)
      have hlt2 : beVal (rest.take k) < 256 ^ 7 := beVal_lt8 _ 7 (by simp; omega)
      have ho := or_byte (beVal (rest.take k)) (rest[k]'(by omega)) hlt2
      have hsn : beVal (rest.take (k + 1)) = beVal (rest.take k) * 256 + (rest[k]'(by omega)).toNat := by rw [List.take_succ_eq_append_getElem (by omega), beVal_snoc]
      have HO := Lib.hid ho
      have HS := Lib.hid hsn
      clear ho hsn
      go_wp2
      exact ⟨⟨k + 1, by omega, by go_num, by rw [HO.out, HS.out]⟩, by simp [intOf]; omega⟩
    · have hk' : ¬ (k : Int) < (size : Int) := by omega
      obtain rfl : k = size := by omega
      go_wp2
      go_ret
      exact ⟨rfl, rfl⟩
end Go.Proofs.YtmphegeiclgjbaaGreatDoor
namespace Go.Proofs.YtmphegeiclgjbaaGreatDoor
set_option maxRecDepth 100000
open Go.RowKit

/-- what a reader answers for a number, what is left, the fault -/
def rN (l : List UInt8) (f : Int) : Nat × List UInt8 × Int :=
  if f ≠ 0 then (0, l, f) else if l.length < 8 then (0, l, 20) else (beVal (l.take 8), l.drop 8, 0)

variable {w : World} {lo g : Nat} {rest : List UInt8} {fault : Int}

theorem RdT.put0 {T : Nat} {sv sv' : Value} {rest' : List UInt8} (hg : w.heap[g]? = some (.cells #[sv, .int .i64 fault] T (0, 0))) (hlo : lo ≤ g) (hr : Rd w g sv' rest')
    (hs : ∀ k, sv'.ownBlock = some k → lo ≤ k) : RdT T (w.setCell ⟨g, 0, none⟩ sv') lo g rest' fault :=
  ⟨sv', by simpa using blk_set hg 0 sv', hlo, hr.set 0 _, hs⟩
theorem RdT.put1 {T : Nat} (h : RdT T w lo g rest fault) (f : Int) : RdT T (w.setCell ⟨g, 1, none⟩ (.int .i64 f)) lo g rest f := by
  obtain ⟨sv, hg, hlo, hr, hs⟩ := h
  exact ⟨sv, by simpa using blk_set hg 1 (.int .i64 f), hlo, hr.set 1 _, hs⟩
theorem rd_cut {B b o o' n' c' k : Nat} (hb : b < B) (hcell : ∀ j (h : j < rest.length), w.cell? ⟨b, o + j, none⟩ = some (bval rest[j])) (hn : n' = rest.length - k) (hk : k ≤ rest.length)
    (ho : 0 < n' → o' = o + k) (hc : n' ≤ c') (hm : c' ≤ maxLen) : Rd w B (.slice (some ⟨b, o', none⟩) n' c') (rest.drop k) := by
  refine ⟨_, c', by rw [List.length_drop, hn], by rw [List.length_drop]; omega, hm, fun h0 => ⟨b, o', rfl, hb, fun j hj => ?_⟩⟩
  rw [List.length_drop] at h0 hj
  rw [ho (by omega), Nat.add_assoc, hcell (k + j) (by omega)]
  simp
theorem rd_piece {B b o o' n n' c' k : Nat} (hb : b < B) (hcell : ∀ j (h : j < rest.length), w.cell? ⟨b, o + j, none⟩ = some (bval rest[j])) (hn : n' = n) (hk : k + n ≤ rest.length)
    (ho : 0 < n' → o' = o + k) (hc : n' ≤ c') (hm : c' ≤ maxLen) : Rd w B (.slice (some ⟨b, o', none⟩) n' c') ((rest.drop k).take n) := by
  subst hn
  have hl : ((rest.drop k).take n').length = n' := by simp; omega
  refine ⟨_, c', by rw [hl], by rw [hl]; exact hc, hm, fun h0 => ⟨b, o', rfl, hb, fun j hj => ?_⟩⟩
  rw [hl] at h0 hj
  rw [ho (by omega), Nat.add_assoc, hcell (k + j) (by omega)]
  simp

set_option maxHeartbeats 400000 in
theorem rN_any (h : Rdr w lo g rest fault) :
    Calls Tryz.prog 52 #[.pointer (some ⟨g, 0, none⟩)] w fun e w' => e = .returned (.int .u64 ((rN rest fault).1 : Nat)) ∧ Rdr w' lo g (rN rest fault).2.1 (rN rest fault).2.2 ∧ w.grownBy w' (some g) := by
  by_cases hf : fault = 0
  · have h0 := h
    obtain ⟨sv, hg, hlo, hr, hs⟩ := h
    obtain ⟨A, c, rfl, hc, hcm, hp⟩ := hr
    have c0 : w.cell? ⟨g, 0, none⟩ = some (.slice A rest.length c) := blk_cell hg 0
    have c1 : w.cell? ⟨g, 1, none⟩ = some (.int .i64 fault) := blk_cell hg 1
    have z0 : w.frozen? ⟨g, 0, none⟩ = false := blk_free hg 0
    have z1 : w.frozen? ⟨g, 1, none⟩ = false := blk_free hg 1
    by_cases hl : rest.length < 8
    · have e : rN rest fault = (0, rest, 20) := by simp [rN, hf, hl]
      rw [e]
      clear e
      have i1 : (rest.length : Int) < 8 := by omega
      go_enter Tryz.func52, Tryz.ntmps52
      go_wp2_with fail
      refine (ready_any h0 true (by simp [hf])).mono ?_
      rintro e w' ⟨rfl, rfl⟩
      go_wp2_with fail
      go_ret
      exact ⟨rfl, h0.put1 20, grown_setR _ _ _ _⟩
    · have e : rN rest fault = (beVal (rest.take 8), rest.drop 8, 0) := by simp [rN, hf, hl]
      rw [e]
      clear e
      obtain ⟨b, o, rfl, hb, hcell⟩ := hp (by omega)
      have i1 : (8 : Int) ≤ (rest.length : Int) := by omega
      have i2 : (rest.length : Int) ≤ (c : Int) := by omega
      go_enter Tryz.func52, Tryz.ntmps52
      go_wp2_with fail
      refine (ready_any h0 true (by simp [hf])).mono ?_
      rintro e w' ⟨rfl, rfl⟩
      go_wp2_with fail
      refine (high_any h0 8 (by omega) (by omega)).mono ?_
      rintro e w' ⟨rfl, rfl⟩
      go_wp2_with fail
      all_goals
        subst hf
        go_ret
        exact ⟨rfl, RdT.put0 hg hlo (rd_cut hb hcell rfl (by omega) (by omega) (by omega) (by omega)) hs, grown_setR _ _ _ _⟩
  · have e : rN rest fault = (0, rest, fault) := by simp [rN, hf]
    rw [e]
    clear e
    go_enter Tryz.func52, Tryz.ntmps52
    go_wp2_with fail
    refine (ready_any h false (by simp [hf])).mono ?_
    rintro e w' ⟨rfl, rfl⟩
    go_wp2_with fail
    go_ret
    exact ⟨rfl, h, World.grownBy.refl _ _⟩
end Go.Proofs.YtmphegeiclgjbaaGreatDoor
namespace Go.Proofs.YtmphegeiclgjbaaGreatDoor
set_option maxRecDepth 100000
open Go.RowKit

variable {w : World} {lo g : Nat} {rest : List UInt8} {fault : Int}

/-- what a reader answers for bytes, what is left, the fault -/
def rB (l : List UInt8) (f : Int) : List UInt8 × List UInt8 × Int :=
  if f ≠ 0 then ([], l, f) else if l.length < 4 then ([], l, 20) else if 65535 < beVal (l.take 4) then ([], l, 22)
  else if l.length < 4 + beVal (l.take 4) then ([], l, 20) else ((l.drop 4).take (beVal (l.take 4)), l.drop (4 + beVal (l.take 4)), 0)

set_option maxHeartbeats 1000000 in
theorem field_any (h : Rdr w lo g rest fault) :
    Calls Tryz.prog 99 #[.pointer (some ⟨g, 0, none⟩)] w fun e w' => ∃ v, e = .returned v ∧ Rd w' g v (rB rest fault).1 ∧ Rdr w' lo g (rB rest fault).2.1 (rB rest fault).2.2 ∧ w.grownBy w' (some g) := by
  by_cases hf : fault = 0
  · have h0 := h
    obtain ⟨sv, hg, hlo, hr, hs⟩ := h
    obtain ⟨A, c, rfl, hc, hcm, hp⟩ := hr
    have c0 : w.cell? ⟨g, 0, none⟩ = some (.slice A rest.length c) := blk_cell hg 0
    have c1 : w.cell? ⟨g, 1, none⟩ = some (.int .i64 fault) := blk_cell hg 1
    have z0 : w.frozen? ⟨g, 0, none⟩ = false := blk_free hg 0
    have z1 : w.frozen? ⟨g, 1, none⟩ = false := blk_free hg 1
    by_cases hl : rest.length < 4
    · have e : rB rest fault = ([], rest, 20) := by simp [rB, hf, hl]
      rw [e]
      clear e
      have i1 : (rest.length : Int) < 4 := by omega
      go_enter Tryz.func99, Tryz.ntmps99
      go_wp2_with fail
      refine (ready_any h0 true (by simp [hf])).mono ?_
      rintro e w' ⟨rfl, rfl⟩
      go_wp2_with fail
      go_ret
      exact ⟨_, rfl, Rd.nil _ _, h0.put1 20, grown_setR _ _ _ _⟩
    · obtain ⟨b, o, rfl, hb, hcell⟩ := hp (by omega)
      have i1 : (4 : Int) ≤ (rest.length : Int) := by omega
      have i2 : (rest.length : Int) ≤ (c : Int) := by omega
      have hbv : beVal (rest.take 4) < 256 ^ 4 := beVal_lt8 _ 4 (by simp; omega)
      have hbound : (beVal (rest.take 4) : Int) ≤ 4294967295 := by omega
      by_cases hn : 65535 < beVal (rest.take 4)
      · have e : rB rest fault = ([], rest, 22) := by simp [rB, hf, hl, hn]
        rw [e]
        clear e
        have i3 : (65535 : Int) < (beVal (rest.take 4) : Int) := by omega
        go_enter Tryz.func99, Tryz.ntmps99
        go_wp2_with fail
        refine (ready_any h0 true (by simp [hf])).mono ?_
        rintro e w' ⟨rfl, rfl⟩
        go_wp2_with fail
        refine (high_any h0 4 (by omega) (by omega)).mono ?_
        rintro e w' ⟨rfl, rfl⟩
        go_wp2_with fail
        go_ret
        exact ⟨_, rfl, Rd.nil _ _, h0.put1 22, grown_setR _ _ _ _⟩
      · by_cases hm : rest.length < 4 + beVal (rest.take 4)
        · have e : rB rest fault = ([], rest, 20) := by simp [rB, hf, hl, hn, hm]
          rw [e]
          clear e
          have i3 : (beVal (rest.take 4) : Int) ≤ 65535 := by omega
          have i4 : (rest.length : Int) < 4 + (beVal (rest.take 4) : Int) := by omega
          go_enter Tryz.func99, Tryz.ntmps99
          go_wp2_with fail
          refine (ready_any h0 true (by simp [hf])).mono ?_
          rintro e w' ⟨rfl, rfl⟩
          go_wp2_with fail
          refine (high_any h0 4 (by omega) (by omega)).mono ?_
          rintro e w' ⟨rfl, rfl⟩
          go_wp2_with fail
          go_ret
          exact ⟨_, rfl, Rd.nil _ _, h0.put1 20, grown_setR _ _ _ _⟩
        · have e : rB rest fault = ((rest.drop 4).take (beVal (rest.take 4)), rest.drop (4 + beVal (rest.take 4)), 0) := by simp [rB, hf, hl, hn, hm]
          rw [e]
          clear e
          have i3 : (beVal (rest.take 4) : Int) ≤ 65535 := by omega
          have i4 : 4 + (beVal (rest.take 4) : Int) ≤ (rest.length : Int) := by omega
          have i5 : 4 + (beVal (rest.take 4) : Int) ≤ (c : Int) := by omega
          obtain ⟨n, hn'⟩ : ∃ n, n = beVal (rest.take 4) := ⟨_, rfl⟩
          rw [← hn'] at i3 i4 i5 hbv hbound ⊢
          have HN := Lib.hid hn'
          obtain ⟨p, hp1⟩ : ∃ p, p = (rest.drop 4).take n := ⟨_, rfl⟩
          obtain ⟨q, hq1⟩ : ∃ q, q = rest.drop (4 + n) := ⟨_, rfl⟩
          rw [← hp1, ← hq1]
          have HP := Lib.hid hp1
          have HQ := Lib.hid hq1
          clear hp1 hq1
          have hm' : 4 + n ≤ rest.length := by omega
          clear hn' hm hn
          go_enter Tryz.func99, Tryz.ntmps99
          go_wp2_with fail
          refine (ready_any h0 true (by simp [hf])).mono ?_
          rintro e w' ⟨rfl, rfl⟩
          go_wp2_with fail
          refine (high_any h0 4 (by omega) (by omega)).mono ?_
          rintro e w' ⟨rfl, rfl⟩
          rw [← HN.out]
          go_wp2_with fail
          all_goals
            subst hf
            go_ret
            refine ⟨_, rfl, ?_, ?_, grown_setR _ _ _ _⟩
            · rw [HP.out]
              exact Rd.set (rd_piece hb hcell (by omega) (by omega) (by omega) (by omega) (by omega)) _ _
            · rw [HQ.out]
              exact RdT.put0 hg hlo (rd_cut hb hcell (by omega) (by omega) (by omega) (by omega) (by omega)) hs
  · have e : rB rest fault = ([], rest, fault) := by simp [rB, hf]
    rw [e]
    clear e
    go_enter Tryz.func99, Tryz.ntmps99
    go_wp2_with fail
    refine (ready_any h false (by simp [hf])).mono ?_
    rintro e w' ⟨rfl, rfl⟩
    go_wp2_with fail
    go_ret
    exact ⟨_, rfl, Rd.nil _ _, h, World.grownBy.refl _ _⟩
end Go.Proofs.YtmphegeiclgjbaaGreatDoor
namespace Go.Proofs.YtmphegeiclgjbaaGreatDoor
set_option maxRecDepth 100000
open Go.RowKit

theorem rB_le (l : List UInt8) (f : Int) : (rB l f).1.length ≤ 65535 := by
  unfold rB
  split
  · simp
  · split
    · simp
    · split
      · simp
      · split
        · simp
        · simp; omega

theorem grownBy_trans {w w1 w2 : World} {row : Option Nat} (h : w.grownBy w1 row) (k : w1.grownBy w2 row) : w.grownBy w2 row :=
  ⟨k.os.trans h.os, k.tape.trans h.tape, k.output.trans h.output, Nat.le_trans h.size k.size, fun i hi hne => (k.block i (Nat.lt_of_lt_of_le hi h.size) hne).trans (h.block i hi hne)⟩
theorem grownBy_of_below {w w' : World} (h : Below w.heap.size w w') (row : Option Nat) : w.grownBy w' row := ⟨h.os, h.tape, h.output, h.size, fun i hi _ => h.block i hi⟩
theorem grownBy_below {w w1 w2 : World} {row : Option Nat} (h : w.grownBy w1 row) (k : Below w1.heap.size w1 w2) : w.grownBy w2 row := grownBy_trans h (grownBy_of_below k row)

variable {w : World} {lo g : Nat} {rest : List UInt8} {fault : Int}

set_option maxHeartbeats 400000 in
theorem rdB_any (h : Rdr w lo g rest fault) :
    Calls Tryz.prog 58 #[.pointer (some ⟨g, 0, none⟩)] w fun e w' => ∃ v, e = .returned v ∧ Own w' w.heap.size v (rB rest fault).1 ∧ Rdr w' lo g (rB rest fault).2.1 (rB rest fault).2.2 ∧ w.grownBy w' (some g) := by
  obtain ⟨i0, hi, hz, hsz, hby⟩ := info_parts Tryz.infoByte
  have hle := rB_le rest fault
  go_enter Tryz.func58, Tryz.ntmps58
  go_wp2_with fail
  refine (field_any h).mono ?_
  rintro e w1 ⟨v1, rfl, hr1, hrd1, hg1⟩
  have hs1 := hg1.size
  go_wp2_with (at_builtin; refine wpList_append_rd (B := w.heap.size) rfl (.const (.slice none 0 0)) (.tmp 4) _ rfl i0 Tryz.underlying32 hi hz hsz hby rfl (Own.nil _ _) rfl hr1 (by simp; omega) hs1 ?_; intro v3 w3 ho3 hg3 _)
  go_ret
  have hb3 : Below w1.heap.size w1 w3 := (Below.refl _ _).grown hg3 (Nat.le_refl _) (by simp [Act.eval, Value.ownBlock])
  exact ⟨_, rfl, by simpa using ho3, hrd1.below hb3, grownBy_below hg1 hb3⟩

set_option maxHeartbeats 400000 in
theorem rdT_any (h : Rdr w lo g rest fault) :
    Calls Tryz.prog 51 #[.pointer (some ⟨g, 0, none⟩)] w fun e w' => e = .returned (.string ⟨(rB rest fault).1.toArray⟩) ∧ Rdr w' lo g (rB rest fault).2.1 (rB rest fault).2.2 ∧ w.grownBy w' (some g) := by
  go_enter Tryz.func51, Tryz.ntmps51
  go_wp2_with fail
  refine (field_any h).mono ?_
  rintro e w1 ⟨v1, rfl, hr1, hrd1, hg1⟩
  have hcv := run_str (P := Tryz.prog) Tryz.underlying32 Tryz.underlying5 Tryz.isString hr1
  go_wp2_with fail
  go_ret
  exact ⟨rfl, hrd1, hg1⟩

/-- what a reader answers for a flag -/
def rF (l : List UInt8) (f : Int) : Bool × List UInt8 × Int :=
  if f ≠ 0 then (false, l, f) else match l with
  | [] => (false, l, 20)
  | x :: r => if 1 < x.toNat then (false, l, 21) else (x.toNat == 1, r, 0)

set_option maxHeartbeats 1000000 in
theorem rdF_any (h : Rdr w lo g rest fault) :
    Calls Tryz.prog 53 #[.pointer (some ⟨g, 0, none⟩)] w fun e w' => e = .returned (.bool (rF rest fault).1) ∧ Rdr w' lo g (rF rest fault).2.1 (rF rest fault).2.2 ∧ w.grownBy w' (some g) := by
  by_cases hf : fault = 0
  · have h0 := h
    obtain ⟨sv, hg, hlo, hr, hs⟩ := h
    obtain ⟨A, c, rfl, hc, hcm, hp⟩ := hr
    have c0 : w.cell? ⟨g, 0, none⟩ = some (.slice A rest.length c) := blk_cell hg 0
    have c1 : w.cell? ⟨g, 1, none⟩ = some (.int .i64 fault) := blk_cell hg 1
    have z0 : w.frozen? ⟨g, 0, none⟩ = false := blk_free hg 0
    have z1 : w.frozen? ⟨g, 1, none⟩ = false := blk_free hg 1
    rcases rest with _ | ⟨x, r⟩
    · have e : rF [] fault = (false, [], 20) := by simp [rF, hf]
      rw [e]
      clear e
      go_enter Tryz.func53, Tryz.ntmps53
      go_wp2_with fail
      refine (ready_any h0 true (by simp [hf])).mono ?_
      rintro e w' ⟨rfl, rfl⟩
      go_wp2_with fail
      go_ret
      exact ⟨rfl, h0.put1 20, grown_setR _ _ _ _⟩
    · obtain ⟨b, o, rfl, hb, hcell⟩ := hp (by simp)
      have cx : w.cell? ⟨b, o, none⟩ = some (.int .u8 (x.toNat : Int)) := hcell 0 (by simp)
      simp only [List.length_cons] at c0 hc hg
      have i2 : ((r.length + 1 : Nat) : Int) ≤ (c : Int) := by omega
      have i3 : (1 : Int) ≤ ((r.length + 1 : Nat) : Int) := by omega
      have i4 : (((r.length + 1 : Nat) : Int) == 0) = false := by simp; omega
      have i5 : (0 : Int) < ((r.length + 1 : Nat) : Int) := by omega
      by_cases hx : 1 < x.toNat
      · have e : rF (x :: r) fault = (false, x :: r, 21) := by simp [rF, hf, hx]
        rw [e]
        clear e
        have j1 : (1 : Int) < (x.toNat : Int) := by omega
        go_enter Tryz.func53, Tryz.ntmps53
        go_wp2_with fail
        refine (ready_any h0 true (by simp [hf])).mono ?_
        rintro e w' ⟨rfl, rfl⟩
        go_wp2_with fail
        go_ret
        exact ⟨rfl, h0.put1 21, grown_setR _ _ _ _⟩
      · have e : rF (x :: r) fault = (x.toNat == 1, r, 0) := by simp [rF, hf, hx]
        rw [e]
        clear e
        have j1 : (x.toNat : Int) ≤ 1 := by omega
        have j2 : ((x.toNat : Int) == 1) = (x.toNat == 1) := by rw [Bool.eq_iff_iff]; simp; omega
        go_enter Tryz.func53, Tryz.ntmps53
        go_wp2_with fail
        refine (ready_any h0 true (by simp [hf])).mono ?_
        rintro e w' ⟨rfl, rfl⟩
        go_wp2_with fail
        all_goals
          subst hf
          go_ret
          exact ⟨rfl, RdT.put0 hg hlo (rd_cut (rest := x :: r) (k := 1) hb hcell (by simp) (by simp) (by intro h; omega) (by omega) (by omega)) hs, grown_setR _ _ _ _⟩
  · have e : rF rest fault = (false, rest, fault) := by simp [rF, hf]
    rw [e]
    clear e
    go_enter Tryz.func53, Tryz.ntmps53
    go_wp2_with fail
    refine (ready_any h false (by simp [hf])).mono ?_
    rintro e w' ⟨rfl, rfl⟩
    go_wp2_with fail
    go_ret
    exact ⟨rfl, h, World.grownBy.refl _ _⟩
end Go.Proofs.YtmphegeiclgjbaaGreatDoor
namespace Go.Proofs.YtmphegeiclgjbaaGreatDoor
set_option maxRecDepth 100000
open Go.RowKit

variable {w : World} {lo g : Nat} {rest : List UInt8} {fault : Int}

theorem rdErr_any (h : Rdr w lo g rest fault) :
    Calls Tryz.prog 102 #[.pointer (some ⟨g, 0, none⟩)] w fun e w' => e = .returned (.int .i64 fault) ∧ w = w' := by
  obtain ⟨sv, hg, hlo, hr, hs⟩ := h
  have c1 : w.cell? ⟨g, 1, none⟩ = some (.int .i64 fault) := blk_cell hg 1
  go_enter Tryz.func102, Tryz.ntmps102
  go_wp2
  go_ret
  exact ⟨rfl, rfl⟩

/-- a reader's last word -/
def rEnd (l : List UInt8) (f : Int) : Int := if f ≠ 0 then f else if 0 < l.length then 23 else 0

set_option maxHeartbeats 400000 in
theorem rdEnd_any (h : Rdr w lo g rest fault) :
    Calls Tryz.prog 54 #[.pointer (some ⟨g, 0, none⟩)] w fun e w' => e = .returned (.int .i64 (rEnd rest fault)) ∧ w = w' := by
  have h0 := h
  obtain ⟨sv, hg, hlo, ⟨A, c, rfl, hc, hcm, hp⟩, hs⟩ := h
  have c0 : w.cell? ⟨g, 0, none⟩ = some (.slice A rest.length c) := blk_cell hg 0
  unfold rEnd
  by_cases hf : fault = 0
  · subst hf
    by_cases hl : 0 < rest.length
    · have j : (0 : Int) < (rest.length : Int) := by omega
      rw [if_neg (by simp), if_pos hl]
      go_enter Tryz.func54, Tryz.ntmps54
      go_wp2_with fail
      refine (rdErr_any h0).mono ?_
      rintro e w' ⟨rfl, rfl⟩
      go_wp2_with fail
      go_ret
      exact ⟨rfl, rfl⟩
    · have j : ¬ (0 : Int) < (rest.length : Int) := by omega
      rw [if_neg (by simp), if_neg hl]
      go_enter Tryz.func54, Tryz.ntmps54
      go_wp2_with fail
      refine (rdErr_any h0).mono ?_
      rintro e w' ⟨rfl, rfl⟩
      go_wp2_with fail
      go_ret
      exact ⟨rfl, rfl⟩
  · have j : (fault != 0) = true := by simp [hf]
    rw [if_pos hf]
    go_enter Tryz.func54, Tryz.ntmps54
    go_wp2_with fail
    refine (rdErr_any h0).mono ?_
    rintro e w' ⟨rfl, rfl⟩
    go_wp2_with fail
    go_ret
    exact ⟨rfl, rfl⟩

/-- what a reader answers for a count -/
def rC (most : Int) (l : List UInt8) (f : Int) : Int × List UInt8 × Int :=
  if f ≠ 0 then (0, l, f) else if l.length < 8 then (0, l, 20) else if most < 0 ∨ most < (beVal (l.take 8) : Int) then (0, l, 22) else ((beVal (l.take 8) : Int), l.drop 8, 0)

set_option maxHeartbeats 400000 in
theorem open_rd (v : Value) (l : List UInt8) (w : World) (hr : Rd w w.heap.size v l) (hl : l.length ≤ 140737488355320) :
    Calls Tryz.prog 50 #[v] w fun e w' => ∃ g, e = .returned (.pointer (some ⟨g, 0, none⟩)) ∧ Rdr w' w.heap.size g l 0 ∧ Below w.heap.size w w' := by
  go_enter Tryz.func50, Tryz.ntmps50
  go_wp2_with fail
  refine (clone_any v l w hr hl).mono ?_
  rintro e w1 ⟨v1, rfl, ho1, hb1⟩
  obtain ⟨A, c, rfl⟩ := ho1.form
  go_wp2_with fail
  go_ret
  refine ⟨_, rfl, ⟨_, heap_alloc_new _ _, hb1.size, (ho1.rd).alloc (Nat.le_refl _) _, fun k hk => (ho1.lt k hk).1⟩, hb1.alloc hb1.size _⟩
end Go.Proofs.YtmphegeiclgjbaaGreatDoor
namespace Go.Proofs.YtmphegeiclgjbaaGreatDoor
set_option maxRecDepth 100000
open Go.RowKit

variable {w : World} {lo g : Nat} {rest : List UInt8} {fault : Int}

/-- what a take that goes leaves -/
def TakeOk (w : World) (lo g : Nat) (rest : List UInt8) (n : Nat) (e : Ending) (w' : World) : Prop :=
  ∃ A c sv', e = .returned (.tuple #[.slice A n c, .bool true]) ∧ w.setCell ⟨g, 0, none⟩ sv' = w' ∧ Rd w g (.slice A n c) (rest.take n) ∧ Rd w g sv' (rest.drop n) ∧ (∀ k, sv'.ownBlock = some k → lo ≤ k)

/-! ### the document's N, B, F, Count -/
end Go.Proofs.YtmphegeiclgjbaaGreatDoor
namespace Go.Proofs.YtmphegeiclgjbaaGreatDoor
set_option maxRecDepth 100000
open Go.RowKit

variable {w : World} {lo g : Nat} {rest : List UInt8} {fault : Int}

end Go.Proofs.YtmphegeiclgjbaaGreatDoor
namespace Go.Proofs.YtmphegeiclgjbaaGreatDoor
set_option maxRecDepth 100000
open Go.RowKit

variable {w : World} {lo g : Nat} {rest : List UInt8} {fault : Int}

theorem Rd.grown {w w' : World} {g : Nat} {v : Value} {l : List UInt8} (h : Rd w g v l) (hg : w.grownBy w' (some g)) (hlt : g ≤ w.heap.size) : Rd w' g v l :=
  h.keep fun p hp => World.cell?_of_block (hg.block p.block (by omega) (by intro e; injection e with e; omega))

end Go.Proofs.YtmphegeiclgjbaaGreatDoor
namespace Go.Proofs.YtmphegeiclgjbaaGreatDoor
set_option maxRecDepth 100000
open Go.RowKit

end Go.Proofs.YtmphegeiclgjbaaGreatDoor
namespace Go.Proofs.YtmphegeiclgjbaaGreatDoor
set_option maxRecDepth 100000
open Go.RowKit

end Go.Proofs.YtmphegeiclgjbaaGreatDoor
namespace Go.Proofs.YtmphegeiclgjbaaGreatDoor
set_option maxRecDepth 100000
open Go.RowKit

end Go.Proofs.YtmphegeiclgjbaaGreatDoor
namespace Go.Proofs.YtmphegeiclgjbaaGreatDoor
set_option maxRecDepth 100000

theorem be_lt (n k : Nat) : beVal (be n k) = n % 256 ^ k := by
  induction k with
  | zero => simp [be, beVal, Nat.mod_one]
  | succ k ih =>
    have h1 : ∀ (l : List UInt8) (a : Nat), l.foldl (fun n x => n * 256 + x.toNat) a = a * 256 ^ l.length + beVal l := by
      intro l
      induction l with
      | nil => intro a; simp [beVal]
      | cons x l ih2 =>
        intro a
        simp only [List.foldl_cons, List.length_cons, beVal]
        rw [ih2, ih2 (0 * 256 + x.toNat), Nat.pow_succ]
        simp only [Nat.zero_mul, Nat.zero_add, Nat.add_mul, Nat.mul_assoc, Nat.add_assoc, Nat.mul_comm 256]
    have h2 : beVal (be n (k + 1)) = (UInt8.ofNat (n / 2 ^ (8 * k))).toNat * 256 ^ k + beVal (be n k) := by
      simp only [be]
      rw [show beVal (UInt8.ofNat (n / 2 ^ (8 * k)) :: be n k) = (be n k).foldl (fun n x => n * 256 + x.toNat) (UInt8.ofNat (n / 2 ^ (8 * k))).toNat by simp [beVal], h1, be_length]
    rw [h2, ih]
    have h3 : (2 : Nat) ^ (8 * k) = 256 ^ k := by rw [Nat.pow_mul]
    rw [h3, UInt8.toNat_ofNat']
    have h4 : n % 256 ^ (k + 1) = 256 ^ k * (n / 256 ^ k % 256) + n % 256 ^ k := by
      rw [Nat.pow_succ, Nat.mod_mul]
      omega
    rw [h4, Nat.mul_comm]
end Go.Proofs.YtmphegeiclgjbaaGreatDoor
namespace Go.Proofs.YtmphegeiclgjbaaGreatDoor
set_option maxRecDepth 100000

/-- the form of what is put -/
def encB (m : List UInt8) : List UInt8 := be (m.take 65535).length 4 ++ m.take 65535
theorem rN_enc (n : Nat) (rest : List UInt8) (h : n < 18446744073709551616) : rN (be n 8 ++ rest) 0 = (n, rest, 0) := by
  have h1 : (be n 8 ++ rest).take 8 = be n 8 := by rw [List.take_append_of_le_length (by simp [be_length]), List.take_of_length_le (by simp [be_length])]
  have h2 : (be n 8 ++ rest).drop 8 = rest := by rw [List.drop_append_of_le_length (by simp [be_length]), List.drop_of_length_le (by simp [be_length]), List.nil_append]
  unfold rN
  rw [if_neg (by simp), if_neg (by simp [be_length]), h1, h2, be_lt, Nat.mod_eq_of_lt (by omega)]
theorem rB_enc (m : List UInt8) (rest : List UInt8) : rB (encB m ++ rest) 0 = (m.take 65535, rest, 0) := by
  have hl : (m.take 65535).length ≤ 65535 := by simp; omega
  unfold encB
  generalize m.take 65535 = t at *
  have h1 : (be t.length 4 ++ t ++ rest).take 4 = be t.length 4 := by
    rw [List.append_assoc, List.take_append_of_le_length (by simp [be_length]), List.take_of_length_le (by simp [be_length])]
  have h2 : (be t.length 4 ++ t ++ rest).drop 4 = t ++ rest := by
    rw [List.append_assoc, List.drop_append_of_le_length (by simp [be_length]), List.drop_of_length_le (by simp [be_length]), List.nil_append]
  have h3 : beVal (be t.length 4) = t.length := by rw [be_lt, Nat.mod_eq_of_lt (by omega)]
  unfold rB
  rw [if_neg (by simp), if_neg (by simp [be_length]), h1, h3, if_neg (by omega), if_neg (by simp [be_length]), h2]
  rw [← List.drop_drop, h2]
  simp
end Go.Proofs.YtmphegeiclgjbaaGreatDoor
namespace Go.Proofs.YtmphegeiclgjbaaGreatDoor
set_option maxRecDepth 100000
open Go Go.RowKit
set_option linter.unusedVariables false

theorem be_mod (n k : Nat) : ∀ j, j ≤ k → be (n % 256 ^ k) j = be n j := by
  intro j
  induction j with
  | zero => intro _; rfl
  | succ j ih =>
    intro h
    simp only [be]
    rw [ih (by omega)]
    congr 1
    have e : 256 ^ k = 2 ^ (8 * j) * (256 * 256 ^ (k - j - 1)) := by
      rw [Nat.pow_mul, ← Nat.mul_assoc]
      show 256 ^ k = 256 ^ j * 256 * 256 ^ (k - j - 1)
      rw [← Nat.pow_succ, ← Nat.pow_add]
      congr 1
      omega
    rw [e, Nat.mod_mul_right_div_self]
    apply UInt8.toNat_inj.1
    rw [UInt8.toNat_ofNat', UInt8.toNat_ofNat']
    show n / 2 ^ (8 * j) % (256 * _) % 256 = n / 2 ^ (8 * j) % 256
    rw [Nat.mod_mul_right_mod]
theorem be_beVal (t : List UInt8) : be (beVal t) t.length = t := by
  have h1 := be_valB t
  have h2 : beVal t = valB t % 256 ^ t.length := by
    conv => lhs; rw [← h1]
    rw [be_lt]
  rw [h2, be_mod _ _ _ (Nat.le_refl _), h1]
theorem rEnd_zero {l : List UInt8} {f : Int} (h : rEnd l f = 0) : f = 0 ∧ l = [] := by
  unfold rEnd at h
  split at h
  · next h1 => exact absurd h h1
  · next h1 =>
    split at h
    · cases h
    · exact ⟨by simpa using h1, List.eq_nil_of_length_eq_zero (by omega)⟩
theorem rN_ok {l : List UInt8} {f : Int} (h : (rN l f).2.2 = 0) : f = 0 ∧ l = be (rN l f).1 8 ++ (rN l f).2.1 := by
  unfold rN at h ⊢
  split at h
  · next h1 => exact absurd h h1
  · next h1 =>
    split at h
    · cases h
    · next h2 =>
      rw [if_neg h1, if_neg h2]
      refine ⟨by simpa using h1, ?_⟩
      have e := be_beVal (l.take 8)
      rw [List.length_take, Nat.min_eq_left (by omega)] at e
      rw [e, List.take_append_drop]
theorem rB_ok {l : List UInt8} {f : Int} (h : (rB l f).2.2 = 0) : f = 0 ∧ l = encB (rB l f).1 ++ (rB l f).2.1 := by
  have hle := rB_le l f
  unfold encB
  rw [List.take_of_length_le hle]
  unfold rB at h hle ⊢
  split at h
  · next h1 => exact absurd h h1
  · next h1 =>
    split at h
    · cases h
    · next h2 =>
      split at h
      · cases h
      · next h3 =>
        split at h
        · cases h
        · next h4 =>
          rw [if_neg h1, if_neg h2, if_neg h3, if_neg h4]
          refine ⟨by simpa using h1, ?_⟩
          have e := be_beVal (l.take 4)
          rw [List.length_take, Nat.min_eq_left (by omega)] at e
          have e2 : ((l.drop 4).take (beVal (l.take 4))).length = beVal (l.take 4) := by rw [List.length_take, List.length_drop]; omega
          rw [e2, e, List.append_assoc, ← List.drop_drop, List.take_append_drop, List.take_append_drop]
end Go.Proofs.YtmphegeiclgjbaaGreatDoor
namespace Go.Proofs.YtmphegeiclgjbaaGreatDoor
set_option maxRecDepth 100000
open Go Go.RowKit
set_option linter.unusedVariables false

theorem set2P {w : World} {g : Nat} {x0 x1 : Value} {t : TypeId} (h : w.heap[g]? = some (.cells #[x0, x1] t (0, 0))) (y0 y1 : Value) : ((w.setCell ⟨g, 0, none⟩ y0).setCell ⟨g, 1, none⟩ y1).heap[g]? = some (.cells #[y0, y1] t (0, 0)) := by
  simpa using (blk_set (blk_set h 0 y0) 1 y1)
theorem below_set2P {B : Nat} {w w' : World} {g : Nat} (h : Below B w w') (hg : B ≤ g) (y0 y1 : Value) : Below B w ((w'.setCell ⟨g, 0, none⟩ y0).setCell ⟨g, 1, none⟩ y1) := ((h.setCell hg y0).setCell hg y1)
theorem set3P {w : World} {g : Nat} {x0 x1 x2 : Value} {t : TypeId} (h : w.heap[g]? = some (.cells #[x0, x1, x2] t (0, 0))) (y0 y1 y2 : Value) : (((w.setCell ⟨g, 0, none⟩ y0).setCell ⟨g, 1, none⟩ y1).setCell ⟨g, 2, none⟩ y2).heap[g]? = some (.cells #[y0, y1, y2] t (0, 0)) := by
  simpa using (blk_set (blk_set (blk_set h 0 y0) 1 y1) 2 y2)
theorem below_set3P {B : Nat} {w w' : World} {g : Nat} (h : Below B w w') (hg : B ≤ g) (y0 y1 y2 : Value) : Below B w (((w'.setCell ⟨g, 0, none⟩ y0).setCell ⟨g, 1, none⟩ y1).setCell ⟨g, 2, none⟩ y2) := (((h.setCell hg y0).setCell hg y1).setCell hg y2)
theorem set4P {w : World} {g : Nat} {x0 x1 x2 x3 : Value} {t : TypeId} (h : w.heap[g]? = some (.cells #[x0, x1, x2, x3] t (0, 0))) (y0 y1 y2 y3 : Value) : ((((w.setCell ⟨g, 0, none⟩ y0).setCell ⟨g, 1, none⟩ y1).setCell ⟨g, 2, none⟩ y2).setCell ⟨g, 3, none⟩ y3).heap[g]? = some (.cells #[y0, y1, y2, y3] t (0, 0)) := by
  simpa using (blk_set (blk_set (blk_set (blk_set h 0 y0) 1 y1) 2 y2) 3 y3)
theorem below_set4P {B : Nat} {w w' : World} {g : Nat} (h : Below B w w') (hg : B ≤ g) (y0 y1 y2 y3 : Value) : Below B w ((((w'.setCell ⟨g, 0, none⟩ y0).setCell ⟨g, 1, none⟩ y1).setCell ⟨g, 2, none⟩ y2).setCell ⟨g, 3, none⟩ y3) := ((((h.setCell hg y0).setCell hg y1).setCell hg y2).setCell hg y3)
theorem set7P {w : World} {g : Nat} {x0 x1 x2 x3 x4 x5 x6 : Value} {t : TypeId} (h : w.heap[g]? = some (.cells #[x0, x1, x2, x3, x4, x5, x6] t (0, 0))) (y0 y1 y2 y3 y4 y5 y6 : Value) : (((((((w.setCell ⟨g, 0, none⟩ y0).setCell ⟨g, 1, none⟩ y1).setCell ⟨g, 2, none⟩ y2).setCell ⟨g, 3, none⟩ y3).setCell ⟨g, 4, none⟩ y4).setCell ⟨g, 5, none⟩ y5).setCell ⟨g, 6, none⟩ y6).heap[g]? = some (.cells #[y0, y1, y2, y3, y4, y5, y6] t (0, 0)) := by
  simpa using (blk_set (blk_set (blk_set (blk_set (blk_set (blk_set (blk_set h 0 y0) 1 y1) 2 y2) 3 y3) 4 y4) 5 y5) 6 y6)
theorem below_set7P {B : Nat} {w w' : World} {g : Nat} (h : Below B w w') (hg : B ≤ g) (y0 y1 y2 y3 y4 y5 y6 : Value) : Below B w (((((((w'.setCell ⟨g, 0, none⟩ y0).setCell ⟨g, 1, none⟩ y1).setCell ⟨g, 2, none⟩ y2).setCell ⟨g, 3, none⟩ y3).setCell ⟨g, 4, none⟩ y4).setCell ⟨g, 5, none⟩ y5).setCell ⟨g, 6, none⟩ y6) := (((((((h.setCell hg y0).setCell hg y1).setCell hg y2).setCell hg y3).setCell hg y4).setCell hg y5).setCell hg y6)
/-- made at w0: the result's block gr, the struct's block gd, the reader g -/
structure PZ (T : Nat) (w0 : World) (gr gd lo g : Nat) (tr td : TypeId) (cr cd : Array Value) (rest : List UInt8) (fault : Int) (W : World) : Prop where
  below : Below w0.heap.size w0 W
  hr : w0.heap.size ≤ gr
  hd : w0.heap.size ≤ gd
  res : W.heap[gr]? = some (.cells cr tr (0, 0))
  loc : W.heap[gd]? = some (.cells cd td (0, 0))
  rd : RdT T W lo g rest fault
  o1 : gr < lo
  o2 : g < gd
section
variable {T : Nat} {w0 W W' : World} {gr gd lo g : Nat} {tr td : TypeId} {cr cd : Array Value} {rest rest' : List UInt8} {fault fault' : Int}
theorem PZ.lo' (h : PZ T w0 gr gd lo g tr td cr cd rest fault W) : gr < g := Nat.lt_of_lt_of_le h.o1 h.rd.from_
theorem PZ.up (h : PZ T w0 gr gd lo g tr td cr cd rest fault W) (hb : Below W.heap.size W W') : PZ T w0 gr gd lo g tr td cr cd rest fault W' where
  below := below_chain h.below h.below.size hb
  hr := h.hr
  hd := h.hd
  res := (hb.block _ (blk_lt h.res)).trans h.res
  loc := (hb.block _ (blk_lt h.loc)).trans h.loc
  rd := h.rd.below hb
  o1 := h.o1
  o2 := h.o2
theorem PZ.call (h : PZ T w0 gr gd lo g tr td cr cd rest fault W) (hg : W.grownBy W' (some g)) (hr : RdT T W' lo g rest' fault') : PZ T w0 gr gd lo g tr td cr cd rest' fault' W' where
  below := h.below.grown hg h.below.size (fun k hk => by injection hk with hk; have := h.lo'; have := h.hr; omega)
  hr := h.hr
  hd := h.hd
  res := (hg.block _ (blk_lt h.res) (fun e => by injection e with e; have := h.lo'; omega)).trans h.res
  loc := (hg.block _ (blk_lt h.loc) (fun e => by injection e with e; have := h.o2; omega)).trans h.loc
  rd := hr
  o1 := h.o1
  o2 := h.o2
theorem PZ.set (h : PZ T w0 gr gd lo g tr td cr cd rest fault W) (i : Nat) (u : Value) : PZ T w0 gr gd lo g tr td cr (cd.setIfInBounds i u) rest fault (W.setCell ⟨gd, i, none⟩ u) where
  below := h.below.setCell h.hd u
  hr := h.hr
  hd := h.hd
  res := (Below.heap_setCell W ⟨gd, i, none⟩ u gr (by have := h.lo'; have := h.o2; show gr ≠ gd; omega)).trans h.res
  loc := blk_set h.loc i u
  rd := h.rd.grown (grown_setR W gd i u) (Or.inr h.o2)
  o1 := h.o1
  o2 := h.o2
theorem PZ.other (h : PZ T w0 gr gd lo g tr td cr cd rest fault W) {gu : Nat} (hu : gd < gu) (i : Nat) (u : Value) : PZ T w0 gr gd lo g tr td cr cd rest fault (W.setCell ⟨gu, i, none⟩ u) where
  below := h.below.setCell (by have := h.hd; show w0.heap.size ≤ gu; omega) u
  hr := h.hr
  hd := h.hd
  res := (Below.heap_setCell W ⟨gu, i, none⟩ u gr (by have := h.lo'; have := h.o2; show gr ≠ gu; omega)).trans h.res
  loc := (Below.heap_setCell W ⟨gu, i, none⟩ u gd (by show gd ≠ gu; omega)).trans h.loc
  rd := h.rd.grown (grown_setR W gu i u) (Or.inr (by have := h.o2; omega))
  o1 := h.o1
  o2 := h.o2
theorem PZ.drew (h : PZ T w0 gr gd lo g tr td cr cd rest fault W) : PZ T w0 gr gd lo g tr td cr cd rest fault W.drew := h.up (Below.drew (Below.refl _ _))
theorem PZ.alloc (h : PZ T w0 gr gd lo g tr td cr cd rest fault W) (o : Obj) : PZ T w0 gr gd lo g tr td cr cd rest fault (W.alloc o) := h.up ((Below.refl _ _).alloc (Nat.le_refl _) o)
/-- the result's block, all cells stored -/
theorem PZ.out (h : PZ T w0 gr gd lo g tr td cr cd rest fault W) : Below w0.heap.size w0 W := h.below
end
end Go.Proofs.YtmphegeiclgjbaaGreatDoor
namespace Go.Proofs.YtmphegeiclgjbaaGreatDoor
set_option maxRecDepth 100000
open Go Go.RowKit
set_option linter.unusedVariables false

/-- a field, read out of a struct, is equal to itself -/
def SelfF (xs : Array Value) (f : Field) : Prop := ∃ a, (∀ w, (part f.type xs f.offset).run Tryz.prog w = .ok a w) ∧ ∀ w, (Op.equalIn 9999 f.type a a).run Tryz.prog w = .ok true w
end Go.Proofs.YtmphegeiclgjbaaGreatDoor
