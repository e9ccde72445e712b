/- Texts joined: AtP, ValA0, ValQ0, ValB, Ord0. -/
import Derived.Test.YtmphegeiclgjbaaGreatDoorM10
import Derived.Test.YtmphegeiclgjbaaGreatDoorM14
import Derived.Test.YtmphegeiclgjbaaGreatDoorM07
import Derived.Test.YtmphegeiclgjbaaGreatDoorM01
import Derived.LoopTactic
import Derived.BigQuiet
import Derived.Deep.QuietTactic
import Derived.WalkLawsBesides
import Derived.StringKeys
import Derived.Maps.OwnSet
import Derived.Test.YtmphegeiclgjbaaGreatDoorM03
import Derived.Deep.RegionHeldLaw
namespace Go.Proofs.YtmphegeiclgjbaaGreatDoor
set_option maxRecDepth 100000
open Go Go.RowKit
set_option linter.unusedVariables false

theorem RdP.keptP {w w' : World} {v : Value} {ps : List Pr} (h : RdP w w.heap.size v ps) (hk : Kept w w') : RdP w' w'.heap.size v ps := by
  have hsz : w.heap.size ≤ w'.heap.size := by obtain ⟨F, h1, _⟩ := hk; exact h1.size
  obtain ⟨A, c, hv, h1, h2, hp⟩ := h
  refine ⟨A, c, hv, h1, h2, fun h0 => ?_⟩
  obtain ⟨b, o, hA, hb, hcell⟩ := hp h0
  refine ⟨b, o, hA, by omega, fun j hj => ?_⟩
  obtain ⟨q1, x, q2, q3⟩ := hcell j hj
  exact ⟨hk.cell q1, x, hk.cell q2, hk.rd q3⟩
theorem Kept.blockP {w w' : World} (h : Kept w w') {b : Nat} {cs : Array Value} {t : TypeId} {fr : Nat × Nat} (hb : w.heap[b]? = some (.cells cs t fr)) : w'.heap[b]? = some (.cells cs t fr) := by
  obtain ⟨F, h1, h2⟩ := h
  have hn : ¬ F b := fun k => by
    obtain ⟨es, c, e⟩ := h2 _ k
    rw [hb] at e; cases e
  rw [h1.block b (blk_lt hb) hn]
  exact hb
section
variable {W W' : World} {y : Lyr} {l : List Lyr} {R : List Pr} {k : Nat}
theorem At.rise (h : At W y l R k W') : Rise R := by obtain ⟨n, f, h1, h2, h3, h4⟩ := h.b; exact h2.rise
theorem At.pairs (h : At W y l R k W') (hn : y.n + k + sumN l ≤ 1000000000) (pfx : ByteArray) (hp : pfx.size ≤ maxLen) :
    Calls Tryz.prog 29 #[.pointer (some ⟨y.b, 0, none⟩), .string pfx] W' fun e w' => ∃ v, e = .returned v ∧ OutP w' W'.heap.size v (R.filter (fun p => begB pfx p.1)) ∧ Below W'.heap.size W' w' := by
  obtain ⟨n, f, h1, h2, h3, h4⟩ := h.b
  have hs : SeenL pfx (⟨y.b, y.m, n, f⟩ :: l) (R.filter (fun p => begB pfx p.1)) := ⟨h2.rise.filter _, fun p hp => h2.small p (List.mem_filter.1 hp).1, fun s hs => by
    have := h2.get s hs
    rw [begB_empty, if_pos rfl] at this
    rw [getL_filter, this]⟩
  exact pairs_any h1 (by simp [sumN] at hn ⊢; omega) pfx hp hs
theorem At.root (h : At W y l R k W') (hn : y.n + k + sumN l ≤ 1000000000) (fr : TypeId × Nat × Nat) (hk : W'.heap[0]? = some (.cells kVals fr.1 fr.2)) :
    Calls Tryz.prog 21 #[.pointer (some ⟨y.b, 0, none⟩)] W' fun e w' => ∃ v, e = .returned v ∧ Own w' W'.heap.size v (rootM R).1 ∧ Below W'.heap.size W' w' := by
  obtain ⟨n, f, h1, h2, h3, h4⟩ := h.b
  exact sroot_any h1 (by simp [sumN] at hn ⊢; omega) h2 fr hk
end
/-- maps alone have turned: what floats in a region may be known of such worlds -/
def KepS (w Z : World) : Prop := Kept w Z
theorem KepS.refl (w : World) : KepS w w := Kept.refl w
/-! ### a cell of a struct of one's own is set: a store stays -/
section
variable {W w w' : World} {y : Lyr} {l : List Lyr} {R : List Pr} {k g : Nat} {cs : Array Value} {t : TypeId}
theorem grown_setCellB (w : World) (b o : Nat) (v : Value) : w.grownBy (w.setCell ⟨b, o, none⟩ v) (some b) :=
  ⟨rfl, rfl, rfl, ((Below.refl 0 w).setCell (p := ⟨b, o, none⟩) (Nat.zero_le _) v).size, fun i hi hne => Below.heap_setCell w ⟨b, o, none⟩ v i fun e => hne (by rw [e])⟩
theorem Rd.offB {B : Nat} {v : Value} {b : List UInt8} (h : Rd w B v b) (hg : w.grownBy w' (some g)) (hB : B ≤ w.heap.size) (hi : w.heap[g]? = some (.cells cs t (0, 0))) (hno : ∀ (j : Nat) (z : Int), cs[j]? ≠ some (.int .u8 z)) : Rd w' B v b := by
  obtain ⟨A, c, rfl, hc, hm, hp⟩ := h
  refine ⟨A, c, rfl, hc, hm, fun h0 => ?_⟩
  obtain ⟨b', o, rfl, hlt, hcell⟩ := hp h0
  refine ⟨b', o, rfl, hlt, fun j hj => ?_⟩
  have hc := hcell j hj
  have hne : some b' ≠ some g := by
    intro e
    injection e with e
    subst e
    rw [blk_cell hi] at hc
    exact hno _ _ hc
  rw [World.cell?_of_block (a := ⟨b', o + j, none⟩) (hg.block b' (by omega) hne)]
  exact hc
theorem LayS.offB {p : Value} (h : LayS w y p) (hg : w.grownBy w' (some g)) (hi : w.heap[g]? = some (.cells cs t (0, 0))) (hno : ∀ (j : Nat) (z : Int), cs[j]? ≠ some (.int .u8 z)) (h0 : cs[0]? ≠ some (.pointer (some ⟨g, 0, none⟩))) : LayS w' y p := by
  have hb : some y.b ≠ some g := fun e => by
    injection e with e
    subst e
    have := h.cells
    rw [hi] at this
    injection this with this
    injection this with this
    rw [this] at h0
    exact h0 rfl
  obtain ⟨gf, h1, h2⟩ := h.own
  have hm : ¬ y.m = g := fun e => by
    obtain ⟨es, c, e'⟩ := h1.isMap
    rw [e, hi] at e'; cases e'
  refine ⟨(hg.block _ h.lt.1 hb).trans h.cells, ⟨gf, h1.chg (F := fun k => k = g) (.of_grown hg fun k e => (Option.some.inj e).symm) hm, fun s hs => ?_⟩, h.ok⟩
  rcases h2 s hs with q | ⟨e, x, q1, q2, q3⟩
  · exact .inl q
  · refine .inr ⟨e, x, q1, q2, ?_⟩
    cases x with
    | none => exact q3
    | some l =>
      obtain ⟨sl, r1, r2⟩ := q3
      exact ⟨sl, r1, (r2.offB hg (Nat.le_refl _) hi hno).more hg.size⟩
theorem PileS.offB {l : List Lyr} (h : PileS w l) (hg : w.grownBy w' (some g)) (hi : w.heap[g]? = some (.cells cs t (0, 0))) (hno : ∀ (j : Nat) (z : Int), cs[j]? ≠ some (.int .u8 z)) (h0 : cs[0]? ≠ some (.pointer (some ⟨g, 0, none⟩))) : PileS w' l := by
  induction l with
  | nil => trivial
  | cons y l ih =>
    obtain ⟨h1, h2, h3⟩ := h
    exact ⟨h1.offB hg hi hno h0, h2, ih h3⟩
theorem At.size (h : At W y l R k w) : W.heap.size ≤ w.heap.size := by obtain ⟨n, f, h1, h2, h3, h4⟩ := h.b; exact h4.size
theorem At.offB (h : At W y l R k w) (hi : w.heap[g]? = some (.cells cs t (0, 0))) (hno : ∀ (j : Nat) (z : Int), cs[j]? ≠ some (.int .u8 z)) (h0 : cs[0]? ≠ some (.pointer (some ⟨g, 0, none⟩))) (hW : W.heap.size ≤ g) (o : Nat) (v : Value) : At W y l R k (w.setCell ⟨g, o, none⟩ v) := by
  obtain ⟨n, f, h1, h2, h3, h4⟩ := h.b
  have hg := grown_setCellB w g o v
  exact ⟨⟨n, f, h1.offB hg hi hno h0, h2, h3, ⟨h4.os, h4.tape, h4.output, Nat.le_trans h4.size hg.size, fun q hq hn => (Below.heap_setCell w ⟨g, o, none⟩ v q (fun e => by dsimp only at e; omega)).trans (h4.block q hq hn)⟩⟩, h.p⟩
theorem Kept.setNew (h : Kept W w) (hW : W.heap.size ≤ g) (o : Nat) (v : Value) : Kept W (w.setCell ⟨g, o, none⟩ v) := by
  obtain ⟨F, h4, h5⟩ := h
  exact ⟨F, ⟨h4.os, h4.tape, h4.output, Nat.le_trans h4.size (grown_setCellB w g o v).size, fun q hq hn => (Below.heap_setCell w ⟨g, o, none⟩ v q (fun e => by dsimp only at e; omega)).trans (h4.block q hq hn)⟩, h5⟩
end
end Go.Proofs.YtmphegeiclgjbaaGreatDoor
namespace Go.Proofs.YtmphegeiclgjbaaGreatDoor
set_option maxRecDepth 100000
open Go

structure VD where
  name : ByteArray
  power : Nat

def VD.key (x : VD) : List UInt8 := x.name.data.toList
def okV (x : VD) : Bool := identL x.key && decide (1 ≤ x.power) && decide (x.power ≤ 4294967296)
def lessV (x y : VD) : Bool := Op.bytesLess x.name.toList y.name.toList
/-- is what stands at a place as it must be? -/
def goodAt (l : List VD) : Nat → Bool
  | 0 => (l[0]?).any okV
  | j + 1 => (l[j + 1]?).any fun x => okV x && (l[j]?).any fun y => lessV y x
def rightB (l : List VD) : Bool := decide (1 ≤ l.length) && decide (l.length ≤ 8) && (List.range l.length).all (goodAt l)

theorem okV_name {x : VD} (h : identL x.key = false) : okV x = false := by simp [okV, h]
theorem okV_low {x : VD} (h : x.power < 1) : okV x = false := by simp [okV, show ¬ 1 ≤ x.power by omega]
theorem okV_high {x : VD} (h : 4294967296 < x.power) : okV x = false := by simp [okV, show ¬ x.power ≤ 4294967296 by omega]
theorem okV_yes {x : VD} (h : identL x.key = true) (h1 : ¬ x.power < 1) (h2 : ¬ 4294967296 < x.power) : okV x = true := by simp [okV, h, show 1 ≤ x.power by omega, show x.power ≤ 4294967296 by omega]
theorem good_okV {l : List VD} {i : Nat} (hi : i < l.length) (h : goodAt l i = true) : okV l[i] = true := by
  cases i with
  | zero => simp only [goodAt, List.getElem?_eq_getElem hi, Option.any_some] at h; exact h
  | succ j => simp only [goodAt, List.getElem?_eq_getElem hi, Option.any_some, Bool.and_eq_true] at h; exact h.1
theorem good_zero {l : List VD} (hi : 0 < l.length) : goodAt l 0 = okV l[0] := by
  simp only [goodAt, List.getElem?_eq_getElem hi, Option.any_some]
theorem good_succ {l : List VD} {j : Nat} (hi : j + 1 < l.length) : goodAt l (j + 1) = (okV l[j + 1] && lessV l[j] l[j + 1]) := by
  simp only [goodAt, List.getElem?_eq_getElem hi, List.getElem?_eq_getElem (show j < l.length by omega), Option.any_some]
theorem rightB_parts {l : List VD} (h : rightB l = true) : 1 ≤ l.length ∧ l.length ≤ 8 ∧ ∀ i, i < l.length → goodAt l i = true := by
  simp only [rightB, Bool.and_eq_true, decide_eq_true_eq, List.all_eq_true, List.mem_range] at h
  exact ⟨h.1.1, h.1.2, h.2⟩
theorem rightB_yes {l : List VD} (h1 : 1 ≤ l.length) (h2 : l.length ≤ 8) (h : ∀ i, i < l.length → goodAt l i = true) : rightB l = true := by
  simp only [rightB, Bool.and_eq_true, decide_eq_true_eq, List.all_eq_true, List.mem_range]
  exact ⟨⟨h1, h2⟩, h⟩
theorem rightB_short {l : List VD} (h : l.length < 1 ∨ 8 < l.length) : rightB l = false := by
  rw [Bool.eq_false_iff]
  intro h2
  have := rightB_parts h2
  omega
theorem rightB_bad {l : List VD} {i : Nat} (hi : i < l.length) (h : goodAt l i = false) : rightB l = false := by
  rw [Bool.eq_false_iff]
  intro h2
  have := (rightB_parts h2).2.2 i hi
  rw [h] at this
  cases this

theorem rightB_not {l : List VD} {i : Nat} (hi : i < l.length) (h : okV l[i] = false) : rightB l = false := by
  refine rightB_bad hi ?_
  cases i with
  | zero => rw [good_zero hi]; exact h
  | succ j => rw [good_succ hi, h]; rfl
theorem rightB_order {l : List VD} {j : Nat} (hi : j + 1 < l.length) (h : lessV l[j] l[j + 1] = false) : rightB l = false :=
  rightB_bad hi (by rw [good_succ hi, h]; simp)

/-- the power of those whose name has a property -/
def vsum (p : List UInt8 → Bool) (l : List VD) : Nat := (l.map fun x => if p x.key = true then x.power else 0).sum
def powerN (l : List VD) : Nat := vsum (fun _ => true) l
def votedN (l : List VD) (votes : List (List UInt8)) : Nat := vsum (fun k => votes.contains k) l

theorem vsum_take (p : List UInt8 → Bool) (l : List VD) (k : Nat) (h : k < l.length) : vsum p (l.take (k + 1)) = vsum p (l.take k) + if p l[k].key = true then l[k].power else 0 := by
  unfold vsum
  rw [List.take_succ_eq_append_getElem h, List.map_append, List.sum_append]
  simp
theorem vsum_mono {p q : List UInt8 → Bool} (h : ∀ k, p k = true → q k = true) (l : List VD) : vsum p l ≤ vsum q l := by
  induction l with
  | nil => simp [vsum]
  | cons x l ih =>
    simp only [vsum, List.map_cons, List.sum_cons] at ih ⊢
    have : (if p x.key = true then x.power else 0) ≤ (if q x.key = true then x.power else 0) := by
      by_cases hp : p x.key = true
      · rw [if_pos hp, if_pos (h _ hp)]; exact Nat.le_refl _
      · rw [if_neg hp]; omega
    omega
theorem vsum_le_power (p : List UInt8 → Bool) (l : List VD) : vsum p l ≤ powerN l := vsum_mono (fun _ _ => rfl) l
theorem power_bound (l : List VD) (h : ∀ x ∈ l, x.power ≤ 4294967296) : powerN l ≤ l.length * 4294967296 := by
  induction l with
  | nil => simp [powerN, vsum]
  | cons x l ih =>
    have h1 := ih fun y hy => h y (List.mem_cons_of_mem _ hy)
    have h2 := h x List.mem_cons_self
    simp only [powerN, vsum, List.map_cons, List.sum_cons, if_true, List.length_cons] at h1 ⊢
    omega
theorem power_le {l : List VD} (h : rightB l = true) : powerN l ≤ 34359738368 := by
  obtain ⟨_, h2, h3⟩ := rightB_parts h
  have := power_bound l fun x hx => by
    obtain ⟨i, hi, rfl⟩ := List.mem_iff_getElem.1 hx
    have := good_okV hi (h3 i hi)
    simp only [okV, Bool.and_eq_true, decide_eq_true_eq] at this
    exact this.2
  omega

def quorumB (l : List VD) (votes : List (List UInt8)) : Bool := rightB l && decide (2 * powerN l < 3 * votedN l votes)
def thirdB (l : List VD) (votes : List (List UInt8)) : Bool := rightB l && decide (powerN l < 3 * votedN l votes)

theorem voted_le {l : List VD} (a : List (List UInt8)) : votedN l a ≤ powerN l := vsum_le_power _ l
end Go.Proofs.YtmphegeiclgjbaaGreatDoor
namespace Go.Proofs.YtmphegeiclgjbaaGreatDoor
set_option maxRecDepth 100000
open Go Go.RowKit

def VD.fits (x : VD) : Prop := x.name.size ≤ maxLen ∧ x.power < 18446744073709551616
def ValAt (w : World) (b o : Nat) (x : VD) : Prop := w.cell? ⟨b, o, none⟩ = some (.string x.name) ∧ w.cell? ⟨b, o + 1, none⟩ = some (.int .u64 (x.power : Int))
/-- the slice value v reads as the validators l, in blocks below B -/
def ValsAt (w : World) (B : Nat) (v : Value) (l : List VD) : Prop :=
  ∃ A c, v = .slice A l.length c ∧ l.length ≤ c ∧ c ≤ maxLen ∧ (∀ x ∈ l, x.fits) ∧
    (0 < l.length → ∃ b o, A = some ⟨b, o, none⟩ ∧ b < B ∧ ∀ j (h : j < l.length), ValAt w b (o + j * 2) l[j])
/-- the slice value v reads as the texts l, in blocks below B -/
def StrsAt (w : World) (B : Nat) (v : Value) (l : List ByteArray) : Prop :=
  ∃ A c, v = .slice A l.length c ∧ l.length ≤ c ∧ c ≤ maxLen ∧ (∀ x ∈ l, x.size ≤ maxLen) ∧
    (0 < l.length → ∃ b o, A = some ⟨b, o, none⟩ ∧ b < B ∧ ∀ j (h : j < l.length), w.cell? ⟨b, o + j, none⟩ = some (.string l[j]))

section
variable {w w' : World} {B B' : Nat} {v : Value}
theorem ValsAt.below {l : List VD} (h : ValsAt w B v l) (hk : Below B w w') : ValsAt w' B v l := by
  obtain ⟨A, c, hv, hc, hm, hf, hp⟩ := h
  refine ⟨A, c, hv, hc, hm, hf, fun h0 => ?_⟩
  obtain ⟨b, o, hA, hb, ha⟩ := hp h0
  exact ⟨b, o, hA, hb, fun j hj => ⟨(hk.cell (p := ⟨b, o + j * 2, none⟩) hb).trans (ha j hj).1, (hk.cell (p := ⟨b, o + j * 2 + 1, none⟩) hb).trans (ha j hj).2⟩⟩
theorem ValsAt.more {l : List VD} (h : ValsAt w B v l) (hB : B ≤ B') : ValsAt w B' v l := by
  obtain ⟨A, c, hv, hc, hm, hf, hp⟩ := h
  refine ⟨A, c, hv, hc, hm, hf, fun h0 => ?_⟩
  obtain ⟨b, o, hA, hb, ha⟩ := hp h0
  exact ⟨b, o, hA, by omega, ha⟩
theorem ValsAt.up {l : List VD} (h : ValsAt w B v l) (hB : B ≤ w.heap.size) (hb : Below w.heap.size w w') : ValsAt w' w'.heap.size v l := ((h.more hB).below hb).more hb.size
theorem StrsAt.below {l : List ByteArray} (h : StrsAt w B v l) (hk : Below B w w') : StrsAt w' B v l := by
  obtain ⟨A, c, hv, hc, hm, hf, hp⟩ := h
  refine ⟨A, c, hv, hc, hm, hf, fun h0 => ?_⟩
  obtain ⟨b, o, hA, hb, ha⟩ := hp h0
  exact ⟨b, o, hA, hb, fun j hj => (hk.cell (p := ⟨b, o + j, none⟩) hb).trans (ha j hj)⟩
theorem StrsAt.more {l : List ByteArray} (h : StrsAt w B v l) (hB : B ≤ B') : StrsAt w B' v l := by
  obtain ⟨A, c, hv, hc, hm, hf, hp⟩ := h
  refine ⟨A, c, hv, hc, hm, hf, fun h0 => ?_⟩
  obtain ⟨b, o, hA, hb, ha⟩ := hp h0
  exact ⟨b, o, hA, by omega, ha⟩
theorem StrsAt.up {l : List ByteArray} (h : StrsAt w B v l) (hB : B ≤ w.heap.size) (hb : Below w.heap.size w w') : StrsAt w' w'.heap.size v l := ((h.more hB).below hb).more hb.size
theorem StrsAt.nil (w : World) (B : Nat) : StrsAt w B (.slice none 0 0) [] := ⟨none, 0, rfl, Nat.le_refl _, Nat.zero_le _, fun _ h => absurd h (by simp), fun h => absurd h (by simp)⟩
theorem StrsAt.form {l : List ByteArray} (h : StrsAt w B v l) : ∃ A c, v = .slice A l.length c := by obtain ⟨A, c, h, _⟩ := h; exact ⟨A, c, h⟩
theorem ValsAt.form {l : List VD} (h : ValsAt w B v l) : ∃ A c, v = .slice A l.length c := by obtain ⟨A, c, h, _⟩ := h; exact ⟨A, c, h⟩
end

/-- a round's box of a validator -/
theorem val_box {w wr : World} (hb : Below w.heap.size w wr) (x : VD) : Below w.heap.size w (wr.alloc (.cells #[.string x.name, .int .u64 (x.power : Int)] 151)) := hb.alloc hb.size _

def keysOf (l : List ByteArray) : List (List UInt8) := l.map fun s => s.data.toList
theorem u64_add (a b : Nat) : IntKind.u64.wrap ((a % 18446744073709551616 : Nat) + (b : Int)) = ((a + b) % 18446744073709551616 : Nat) := by
  simp only [IntKind.wrap, IntKind.bits, IntKind.signed]
  simp
theorem u64_add' (a b : Nat) : IntKind.u64.wrap ((a : Int) % 18446744073709551616 + (b : Int)) = ((a + b) % 18446744073709551616 : Nat) := by
  rw [← u64_add]
  simp
end Go.Proofs.YtmphegeiclgjbaaGreatDoor
namespace Go.Proofs.YtmphegeiclgjbaaGreatDoor
set_option maxRecDepth 100000
open Go Go.RowKit

set_option maxHeartbeats 4000000 in
set_option maxRecDepth 100000 in
theorem vlright_any (v : Value) (l : List VD) (w : World) (hv : ValsAt w w.heap.size v l) :
    Calls Tryz.prog 61 #[v] w fun e w' => e = .returned (.bool (rightB l)) ∧ Below w.heap.size w w' := by
  obtain ⟨A, c, rfl, hc, hcm, hf, hp⟩ := hv
  unfold maxLen at hcm
  have HP := Lib.hid hp
  have HF := Lib.hid hf
  clear hp hf
  have hshort := @rightB_short l
  obtain ⟨n, hn⟩ : ∃ n, n = l.length := ⟨_, rfl⟩
  have HN := Lib.hid hn
  rw [← hn] at hc hshort ⊢
  clear hn
  by_cases h1 : n < 1
  · have hr := hshort (.inl h1)
    clear hshort
    have e1 : (n : Int) < 1 := by omega
    have d1 : decide ((n : Int) < 1) = true := decide_eq_true e1
    rw [hr]
    clear hr
    go_enter Tryz.func61, Tryz.ntmps61
    go_wp2
    go_ret
    exact ⟨rfl, Below.refl _ _⟩
  by_cases h8 : 8 < n
  · have hr := hshort (.inr h8)
    clear hshort
    have e1 : ¬ (n : Int) < 1 := by omega
    have d1 : decide ((n : Int) < 1) = false := decide_eq_false e1
    have e2 : (8 : Int) < (n : Int) := by omega
    rw [hr]
    clear hr
    go_enter Tryz.func61, Tryz.ntmps61
    go_wp2
    go_ret
    exact ⟨rfl, Below.refl _ _⟩
  have e1 : ¬ (n : Int) < 1 := by omega
  have d1 : decide ((n : Int) < 1) = false := decide_eq_false e1
  have e2 : ¬ (8 : Int) < (n : Int) := by omega
  clear hshort
  go_enter Tryz.func61, Tryz.ntmps61
  go_wp2
  go_loopw [15] (fun i wr => ∃ k : Nat, k ≤ n ∧ i = .int .i64 (k : Int) ∧ (∀ j, j < k → goodAt l j = true) ∧ Below w.heap.size w wr)
    (fun i _ => n - (intOf i).toNat)
  case atStart => exact ⟨0, Nat.zero_le _, rfl, fun j hj => absurd hj (by omega), Below.refl _ _⟩
  case round =>
    obtain ⟨k, hk, rfl, hgood, hb⟩ := hrel
    have HG := Lib.hid hgood
    clear hgood
    by_cases hlt : k < n
    · obtain ⟨b, o, rfl, hbl, hcell⟩ := HP.out (by have := HN.out; omega)
      have hkl : k < l.length := by have := HN.out; omega
      have hat := hcell k hkl
      have c0 := (hb.cell (p := ⟨b, o + k * 2, none⟩) hbl).trans hat.1
      have c1 := (hb.cell (p := ⟨b, o + k * 2 + 1, none⟩) hbl).trans hat.2
      have hfit := HF.out _ (List.getElem_mem hkl)
      have hbx := val_box hb l[k]
      have hsz := hfit.1
      have hpw := hfit.2
      have i1 : (0 : Int) ≤ (k : Int) := by omega
      have i2 : (k : Int) < (n : Int) := by omega
      cases hid : identL l[k].key with
      | false =>
        have HR := Lib.hid (rightB_not hkl (okV_name hid))
        have hid' : identL l[k].name.data.toList = false := hid
        clear hid hat hcell hfit HG
        generalize l[k] = x at *
        have HI := Lib.hid (ident_any x.name · hsz)
        clear hsz
        go_wp2_with (go_at_call 49; refine (HI.out _).mono ?_; rintro e w' ⟨rfl, rfl⟩; rw [hid'])
        go_ret
        exact ⟨by rw [HR.out]; rfl, hbx⟩
      | true =>
        have hid' : identL l[k].name.data.toList = true := hid
        by_cases p1 : l[k].power < 1
        · have HR := Lib.hid (rightB_not hkl (okV_low p1))
          have q1 : (l[k].power : Int) < 1 := by omega
          have d3 : decide ((l[k].power : Int) < 1) = true := decide_eq_true q1
          clear hid hat hcell hfit HG p1
          generalize l[k] = x at *
          have HI := Lib.hid (ident_any x.name · hsz)
          clear hsz
          go_wp2_with (go_at_call 49; refine (HI.out _).mono ?_; rintro e w' ⟨rfl, rfl⟩; rw [hid'])
          go_ret
          exact ⟨by rw [HR.out]; rfl, hbx⟩
        by_cases p2 : 4294967296 < l[k].power
        · have HR := Lib.hid (rightB_not hkl (okV_high p2))
          have q1 : ¬ (l[k].power : Int) < 1 := by omega
          have d3 : decide ((l[k].power : Int) < 1) = false := decide_eq_false q1
          have q2 : (4294967296 : Int) < (l[k].power : Int) := by omega
          have d4 : decide ((4294967296 : Int) < (l[k].power : Int)) = true := decide_eq_true q2
          clear hid hat hcell hfit HG p1 p2
          generalize l[k] = x at *
          have HI := Lib.hid (ident_any x.name · hsz)
          clear hsz
          go_wp2_with (go_at_call 49; refine (HI.out _).mono ?_; rintro e w' ⟨rfl, rfl⟩; rw [hid'])
          go_ret
          exact ⟨by rw [HR.out]; rfl, hbx⟩
        have hok := okV_yes hid p1 p2
        have q1 : ¬ (l[k].power : Int) < 1 := by omega
        have d3 : decide ((l[k].power : Int) < 1) = false := decide_eq_false q1
        have q2 : ¬ (4294967296 : Int) < (l[k].power : Int) := by omega
        have d4 : decide ((4294967296 : Int) < (l[k].power : Int)) = false := decide_eq_false q2
        clear p1 p2 hid
        by_cases hk0 : k = 0
        · subst hk0
          have HN0 := Lib.hid ((good_zero hkl).trans hok)
          rw [Nat.zero_mul, Nat.add_zero] at c0 c1
          clear hok hat hcell hfit HG
          generalize l[0] = x at *
          have HI := Lib.hid (ident_any x.name · hsz)
          clear hsz
          go_wp2_with (go_at_call 49; refine (HI.out _).mono ?_; rintro e w' ⟨rfl, rfl⟩; rw [hid'])
          go_quiet (fail)
          go_wp2
          go_roundw
          case rel => exact ⟨1, by omega, by go_num, (fun j hj => (show j = 0 by omega) ▸ HN0.out), below_drewN' hbx _⟩
          case measure => simp [intOf]; omega
        · obtain ⟨j, hj⟩ : ∃ j, k = j + 1 := ⟨k - 1, by omega⟩
          have hjl : j < l.length := by omega
          have hat2 := hcell j hjl
          have g0 := (hbx.cell (p := ⟨b, o + j * 2, none⟩) hbl).trans hat2.1
          have HO := Lib.hid (show lessV l[j] l[k] = false → rightB l = false from by subst hj; exact rightB_order hkl)
          have HN1 := Lib.hid (show lessV l[j] l[k] = true → goodAt l k = true from by subst hj; intro h; rw [good_succ hkl, hok, h]; rfl)
          have w1 : IntKind.i64.wrap ((k : Int) - 1) = (j : Int) := by rw [IntKind.wrap_i64]; omega
          have j1 : (0 : Int) ≤ (j : Int) := by omega
          have j2 : (j : Int) < (n : Int) := by omega
          have j3 : (0 : Int) < (k : Int) := by omega
          have j4 : decide ((0 : Int) < (k : Int)) = true := decide_eq_true j3
          have j5 : decide (0 < k) = true := decide_eq_true (by omega)
          clear hj hk0
          cases hle : lessV l[j] l[k] with
          | false =>
            have HR := Lib.hid (HO.out hle)
            have hle' : Op.bytesLess l[j].name.toList l[k].name.toList = false := hle
            clear hok hat hat2 hcell hfit HG hle HO HN1
            generalize l[k] = x at *
            generalize l[j] = y at *
            have HI := Lib.hid (ident_any x.name · hsz)
            clear hsz
            go_wp2_with (go_at_call 49; refine (HI.out _).mono ?_; rintro e w' ⟨rfl, rfl⟩; rw [hid'])
            go_quiet (fail)
            go_wp2
            go_ret
            exact ⟨by rw [HR.out]; rfl, below_drewN' hbx _⟩
          | true =>
            have HN0 := Lib.hid (HN1.out hle)
            have hle' : Op.bytesLess l[j].name.toList l[k].name.toList = true := hle
            clear hok hat hat2 hcell hfit hle HO HN1
            generalize l[k] = x at *
            generalize l[j] = y at *
            have HI := Lib.hid (ident_any x.name · hsz)
            clear hsz
            go_wp2_with (go_at_call 49; refine (HI.out _).mono ?_; rintro e w' ⟨rfl, rfl⟩; rw [hid'])
            go_quiet (fail)
            go_wp2
            go_roundw
            case rel => exact ⟨k + 1, by omega, by go_num, (fun i hi => (Nat.lt_or_eq_of_le (Nat.le_of_lt_succ hi)).elim (fun h => HG.out i h) (fun h => h ▸ HN0.out)), below_drewN' hbx _⟩
            case measure => simp [intOf]; omega
    · have i2 : ¬ (k : Int) < (n : Int) := by omega
      have HR := Lib.hid (rightB_yes (l := l) (by have := HN.out; omega) (by have := HN.out; omega) (fun i hi => HG.out i (by have := HN.out; omega)))
      clear HG
      go_wp2
      go_ret
      exact ⟨by rw [HR.out]; rfl, hb⟩
end Go.Proofs.YtmphegeiclgjbaaGreatDoor
namespace Go.Proofs.YtmphegeiclgjbaaGreatDoor
set_option maxRecDepth 100000
open Go Go.RowKit Go.Maps Go.WideMaps

theorem strLaw : Keyed Tryz.prog 9 := string_keyed Tryz.underlying9
theorem zeroUnit (w : World) : (zeroValue 153).run Tryz.prog w = .ok (.agg #[]) w := by kernel_rfl
def litsOf (l : List ByteArray) : List Lit := l.map fun s => Lit.string s.data.toList
def setS (l : List ByteArray) : DataW Unit := setOf (.agg []) (litsOf l)
theorem setS_zero (l : List ByteArray) : setS (l.take 0) = .map [] := by simp [setS, litsOf, setOf]
theorem setS_succ (l : List ByteArray) (k : Nat) (h : k < l.length) : setS (l.take (k + 1)) = (setS (l.take k)).put (.string l[k].data.toList) (.agg []) := by
  unfold setS litsOf
  rw [List.take_succ_eq_append_getElem h, List.map_append, List.map_cons, List.map_nil, setOf_snoc]
theorem any_key (n : List UInt8) : ∀ l : List ByteArray, (litsOf l).any (fun x => x.sameKey (.string n)) = (keysOf l).contains n
  | [] => rfl
  | s :: l => by
    simp only [litsOf, keysOf, List.map_cons, List.any_cons, List.contains_cons]
    have ih := any_key n l
    simp only [litsOf, keysOf] at ih
    rw [ih]
    congr 1
    show (s.data.toList == n) = (n == s.data.toList)
    by_cases e : s.data.toList = n
    · rw [e]
    · rw [beq_eq_false_iff_ne.2 e, beq_eq_false_iff_ne.2 (Ne.symm e)]
theorem has_setS (l : List ByteArray) (n : List UInt8) : Maps.has (setS l) (.string n) = (keysOf l).contains n := by
  unfold setS
  rw [has_setOf, any_key]
  intro x hx
  simp only [litsOf, List.mem_map] at hx
  obtain ⟨s, _, rfl⟩ := hx
  exact trivial

set_option maxHeartbeats 2000000 in
set_option maxRecDepth 100000 in
theorem voted_any (v vs : Value) (l : List VD) (ss : List ByteArray) (w : World) (hv : ValsAt w w.heap.size v l) (hs : StrsAt w w.heap.size vs ss) :
    Calls Tryz.prog 62 #[v, vs] w fun e w' => e = .returned (.int .u64 ((votedN l (keysOf ss) % 18446744073709551616 : Nat) : Int)) ∧ Below w.heap.size w w' := by
  have hmm := @run_makeMap Tryz.prog
  obtain ⟨A, c, rfl, hc, hcm, hf, hp⟩ := hv
  obtain ⟨A', c', rfl, hc', hcm', hf', hp'⟩ := hs
  unfold maxLen at hcm hcm'
  have HP := Lib.hid hp
  have HF := Lib.hid hf
  have HP' := Lib.hid hp'
  have HF' := Lib.hid hf'
  clear hp hf hp' hf'
  obtain ⟨n, hn⟩ : ∃ n, n = l.length := ⟨_, rfl⟩
  have HN := Lib.hid hn
  obtain ⟨m, hm⟩ : ∃ m, m = ss.length := ⟨_, rfl⟩
  have HM := Lib.hid hm
  rw [← hn] at hc ⊢
  rw [← hm] at hc' ⊢
  clear hn hm
  go_enter Tryz.func62, Tryz.ntmps62
  go_wp2
  go_loopw [16] (fun i wr => ∃ k : Nat, k ≤ m ∧ i = .int .i64 (k : Int) ∧ wr.ownsMap Tryz.prog 9 (unitElem (H := Unit)) w.heap.size k (setS (ss.take k)) ∧ Below w.heap.size w wr)
    (fun i _ => m - (intOf i).toNat)
  case atStart => exact ⟨0, Nat.zero_le _, rfl, by rw [setS_zero]; exact World.ownsMap_made _ _ _ _, (Below.refl _ _).alloc (Nat.le_refl _) _⟩
  case round =>
    obtain ⟨k, hk, rfl, hown, hb⟩ := hrel
    by_cases hlt : k < m
    · obtain ⟨b, o, rfl, hbl, hcell⟩ := HP'.out (by have := HM.out; omega)
      have hkl : k < ss.length := by have := HM.out; omega
      have c0 := (hb.cell (p := ⟨b, o + k, none⟩) hbl).trans (hcell k hkl)
      have HS := Lib.hid (setS_succ ss k hkl)
      have hsz : ss[k].size ≤ maxLen := HF'.out _ (List.getElem_mem hkl)
      have hkey : keyOf Tryz.prog 9 (.string ss[k]) = some (.string ss[k].data.toList) := keyOf_string_mk Tryz.underlying9 hsz
      have HK := Lib.hid hkey
      clear hcell HP' hkey hsz
      generalize ss[k] = s at *
      have i1 : (0 : Int) ≤ (k : Int) := by omega
      have i2 : (k : Int) < (m : Int) := by omega
      go_wp2_with (at_mapUpdate; refine wpList_mapUpdate_own _ rfl _ _ _ 152 rfl 9 153 strLaw Tryz.underlying152 (unitElem (H := Unit)) w.heap.size k _ rfl hown (by unfold maxLen; omega) _ _ _ rfl rfl HK.out _ [] unitElem_mk ?_; intro w1 hown1 hgrow1)
      have hb1 : Below w.heap.size w w1 := hb.grown hgrow1 hb.size (fun j hj => by cases hj; exact Nat.le_refl _)
      clear hown hb hgrow1
      go_roundw
      case rel => exact ⟨k + 1, by omega, by go_num, by rw [HS.out]; exact hown1, hb1⟩
      case measure => simp [intOf]; omega
    · have i2 : ¬ (k : Int) < (m : Int) := by omega
      have he : ss.take k = ss := List.take_of_length_le (by have := HM.out; omega)
      rw [he] at hown
      have HH := Lib.hid (has_setS ss)
      clear he HM HP' HF'
      generalize setS ss = D at *
      go_wp2
      obtain ⟨wo, rfl⟩ : ∃ wo : World, wo = wr := ⟨_, rfl⟩
      go_loopw [8, 26] (fun s i wr => ∃ k : Nat, k ≤ n ∧ i = .int .i64 (k : Int) ∧ s = .int .u64 ((votedN (l.take k) (keysOf ss) % 18446744073709551616 : Nat) : Int) ∧ wr.ownsMap Tryz.prog 9 (unitElem (H := Unit)) w.heap.size m D ∧ Below w.heap.size w wr)
        (fun _ i _ => n - (intOf i).toNat)
      case atStart => exact ⟨0, Nat.zero_le _, rfl, rfl, hown.mono hk, hb⟩
      case round =>
        clear hown hb
        obtain ⟨j, hj, rfl, rfl, hown, hb⟩ := hrel
        by_cases hlj : j < n
        · obtain ⟨b, o, rfl, hbl, hcell⟩ := HP.out (by have := HN.out; omega)
          have hjl : j < l.length := by have := HN.out; omega
          have hat := hcell j hjl
          have c0 := (hb.cell (p := ⟨b, o + j * 2, none⟩) hbl).trans hat.1
          have c1 := (hb.cell (p := ⟨b, o + j * 2 + 1, none⟩) hbl).trans hat.2
          have hfit := HF.out _ (List.getElem_mem hjl)
          have HV := Lib.hid (show votedN (l.take (j + 1)) (keysOf ss) = votedN (l.take j) (keysOf ss) + if (keysOf ss).contains l[j].key = true then l[j].power else 0 from vsum_take _ _ _ hjl)
          have hkey : keyOf Tryz.prog 9 (.string l[j].name) = some (.string l[j].key) := keyOf_string_mk Tryz.underlying9 hfit.1
          have HK := Lib.hid hkey
          have hbx := val_box hb l[j]
          have HX := Lib.hid (HH.out l[j].key)
          have hpw := hfit.2
          clear hcell hat hkey hfit
          generalize l[j] = x at *
          generalize votedN (l.take j) (keysOf ss) = s at *
          have i1 : (0 : Int) ≤ (j : Int) := by omega
          have i2 : (j : Int) < (n : Int) := by omega
          cases hh : (keysOf ss).contains x.key
          · have h2 : Maps.has D (.string x.key) = false := HX.out.trans hh
            go_wp2_with (at_lookup; refine wpList_lookup_own_unit _ rfl _ _ 152 rfl 9 153 strLaw Tryz.underlying152 (zeroUnit _) w.heap.size m _ rfl (hown.alloc _) _ _ rfl HK.out ?_; rw [h2])
            go_roundw
            case rel => exact ⟨j + 1, by omega, by go_num, by rw [HV.out, hh]; go_num, (hown.alloc _).alloc _, hbx.alloc hbx.size _⟩
            case measure => simp [intOf]; omega
          · have h2 : Maps.has D (.string x.key) = true := HX.out.trans hh
            go_wp2_with (at_lookup; refine wpList_lookup_own_unit _ rfl _ _ 152 rfl 9 153 strLaw Tryz.underlying152 (zeroUnit _) w.heap.size m _ rfl (hown.alloc _) _ _ rfl HK.out ?_; rw [h2])
            go_roundw
            case rel => exact ⟨j + 1, by omega, by go_num, by rw [HV.out, hh]; exact congrArg (Value.int .u64) (u64_add' s x.power), (hown.alloc _).alloc _, hbx.alloc hbx.size _⟩
            case measure => simp [intOf]; omega
        · have i2 : ¬ (j : Int) < (n : Int) := by omega
          have he : l.take j = l := List.take_of_length_le (by have := HN.out; omega)
          rw [he]
          clear he
          go_wp2
          go_ret
          exact ⟨rfl, hb⟩
end Go.Proofs.YtmphegeiclgjbaaGreatDoor
namespace Go.Proofs.YtmphegeiclgjbaaGreatDoor
set_option maxRecDepth 100000
open Go Go.RowKit

set_option maxHeartbeats 1000000 in
theorem power_any (v : Value) (l : List VD) (w : World) (hv : ValsAt w w.heap.size v l) :
    Calls Tryz.prog 63 #[v] w fun e w' => e = .returned (.int .u64 ((powerN l % 18446744073709551616 : Nat) : Int)) ∧ Below w.heap.size w w' := by
  obtain ⟨A, c, rfl, hc, hcm, hf, hp⟩ := hv
  unfold maxLen at hcm
  have HP := Lib.hid hp
  have HF := Lib.hid hf
  clear hp hf
  obtain ⟨n, hn⟩ : ∃ n, n = l.length := ⟨_, rfl⟩
  have HN := Lib.hid hn
  rw [← hn] at hc ⊢
  clear hn
  go_enter Tryz.func63, Tryz.ntmps63
  go_wp2
  go_loopw [3, 8] (fun s i wr => ∃ k : Nat, k ≤ n ∧ i = .int .i64 (k : Int) ∧ s = .int .u64 ((powerN (l.take k) % 18446744073709551616 : Nat) : Int) ∧ Below w.heap.size w wr)
    (fun _ i _ => n - (intOf i).toNat)
  case atStart => exact ⟨0, Nat.zero_le _, rfl, rfl, Below.refl _ _⟩
  case round =>
    obtain ⟨k, hk, rfl, rfl, hb⟩ := hrel
    by_cases hlt : k < n
    · obtain ⟨b, o, rfl, hbl, hcell⟩ := HP.out (by have := HN.out; omega)
      have hkl : k < l.length := by have := HN.out; omega
      have hat := hcell k (by have := HN.out; omega)
      have HV := Lib.hid (show powerN (l.take (k + 1)) = powerN (l.take k) + l[k].power from by unfold powerN; rw [vsum_take _ _ _ hkl, if_pos rfl])
      have c0 := (hb.cell (p := ⟨b, o + k * 2, none⟩) hbl).trans hat.1
      have c1 := (hb.cell (p := ⟨b, o + k * 2 + 1, none⟩) hbl).trans hat.2
      have hpw : l[k].power < 18446744073709551616 := (HF.out _ (List.getElem_mem hkl)).2
      have hbx := val_box hb l[k]
      clear hcell hat HP
      generalize l[k] = x at *
      generalize powerN (l.take k) = s at *
      have i1 : (0 : Int) ≤ (k : Int) := by omega
      have i2 : (k : Int) < (n : Int) := by omega
      go_wp2
      go_roundw
      case rel => exact ⟨k + 1, by omega, by go_num, by rw [HV.out]; exact congrArg (Value.int .u64) (u64_add' s x.power), hbx⟩
      case measure => simp [intOf]; omega
    · have i2 : ¬ (k : Int) < (n : Int) := by omega
      have he : l.take k = l := List.take_of_length_le (by have := HN.out; omega)
      rw [he]
      clear he
      go_wp2
      go_ret
      exact ⟨rfl, hb⟩
end Go.Proofs.YtmphegeiclgjbaaGreatDoor
namespace Go.Proofs.YtmphegeiclgjbaaGreatDoor
set_option maxRecDepth 100000
open Go Go.RowKit

theorem third_no {l : List VD} {vs : List (List UInt8)} (h : rightB l = false) : thirdB l vs = false := by simp [thirdB, h]
theorem quorum_no {l : List VD} {vs : List (List UInt8)} (h : rightB l = false) : quorumB l vs = false := by simp [quorumB, h]
theorem third_is {l : List VD} {vs : List (List UInt8)} (h : rightB l = true) : thirdB l vs = decide (powerN l < 3 * votedN l vs) := by simp [thirdB, h]
theorem quorum_is {l : List VD} {vs : List (List UInt8)} (h : rightB l = true) : quorumB l vs = decide (2 * powerN l < 3 * votedN l vs) := by simp [quorumB, h]

set_option maxHeartbeats 1000000 in
theorem quorum_any (v vs : Value) (l : List VD) (ss : List ByteArray) (w : World) (hv : ValsAt w w.heap.size v l) (hs : StrsAt w w.heap.size vs ss) :
    Calls Tryz.prog 19 #[v, vs] w fun e w' => e = .returned (.bool (quorumB l (keysOf ss))) ∧ Below w.heap.size w w' := by
  have HR := Lib.hid (vlright_any v l w hv)
  obtain ⟨A, c, rfl⟩ := hv.form
  obtain ⟨A', c', rfl⟩ := hs.form
  cases hr : rightB l with
  | false =>
    rw [quorum_no hr]
    go_enter Tryz.func19, Tryz.ntmps19
    go_wp2_with fail
    refine HR.out.mono ?_
    rintro e w1 ⟨rfl, hb1⟩
    rw [hr]
    go_wp2
    go_ret
    exact ⟨rfl, hb1⟩
  | true =>
    rw [quorum_is hr]
    have hpl := power_le hr
    have hvl := voted_le (l := l) (keysOf ss)
    obtain ⟨a, ha⟩ : ∃ a, a = votedN l (keysOf ss) := ⟨_, rfl⟩
    obtain ⟨p, hp⟩ : ∃ p, p = powerN l := ⟨_, rfl⟩
    have HV := Lib.hid (fun W h1 h2 => voted_any (.slice A l.length c) (.slice A' ss.length c') l ss W h1 h2)
    have HW := Lib.hid (fun W h1 => power_any (.slice A l.length c) l W h1)
    rw [← ha, Nat.mod_eq_of_lt (by omega)] at HV
    rw [← hp, Nat.mod_eq_of_lt (by omega)] at HW
    rw [← ha, ← hp] at hvl ⊢
    rw [← hp] at hpl
    clear ha hp
    have w1 : IntKind.u64.wrap (3 * (a : Int)) = 3 * (a : Int) := by rw [IntKind.wrap_u64]; omega
    have w2 : IntKind.u64.wrap (2 * (p : Int)) = 2 * (p : Int) := by rw [IntKind.wrap_u64]; omega
    by_cases hd : 2 * p < 3 * a
    · rw [decide_eq_true hd]
      have d1 : (2 : Int) * (p : Int) < 3 * (a : Int) := by omega
      have d2 : decide ((2 : Int) * (p : Int) < 3 * (a : Int)) = true := decide_eq_true d1
      clear hd
      go_enter Tryz.func19, Tryz.ntmps19
      go_wp2_with fail
      refine HR.out.mono ?_
      rintro e w1 ⟨rfl, hb1⟩
      rw [hr]
      go_wp2_with fail
      refine (HV.out _ (hv.up (Nat.le_refl _) hb1) (hs.up (Nat.le_refl _) hb1)).mono ?_
      rintro e w2 ⟨rfl, hb2⟩
      have hb3 := below_chain hb1 hb1.size hb2
      go_wp2_with fail
      refine (HW.out _ (hv.up (Nat.le_refl _) hb3)).mono ?_
      rintro e w3 ⟨rfl, hb4⟩
      have hb5 := below_chain hb3 hb3.size hb4
      go_wp2
      go_ret
      exact ⟨rfl, hb5⟩
    · rw [decide_eq_false hd]
      have d1 : ¬ (2 : Int) * (p : Int) < 3 * (a : Int) := by omega
      have d2 : decide ((2 : Int) * (p : Int) < 3 * (a : Int)) = false := decide_eq_false d1
      clear hd
      go_enter Tryz.func19, Tryz.ntmps19
      go_wp2_with fail
      refine HR.out.mono ?_
      rintro e w1 ⟨rfl, hb1⟩
      rw [hr]
      go_wp2_with fail
      refine (HV.out _ (hv.up (Nat.le_refl _) hb1) (hs.up (Nat.le_refl _) hb1)).mono ?_
      rintro e w2 ⟨rfl, hb2⟩
      have hb3 := below_chain hb1 hb1.size hb2
      go_wp2_with fail
      refine (HW.out _ (hv.up (Nat.le_refl _) hb3)).mono ?_
      rintro e w3 ⟨rfl, hb4⟩
      have hb5 := below_chain hb3 hb3.size hb4
      go_wp2
      go_ret
      exact ⟨rfl, hb5⟩
end Go.Proofs.YtmphegeiclgjbaaGreatDoor
namespace Go.Proofs.YtmphegeiclgjbaaGreatDoor
set_option maxRecDepth 100000
open Go Go.RowKit

set_option maxHeartbeats 1000000 in
theorem third_any (v vs : Value) (l : List VD) (ss : List ByteArray) (w : World) (hv : ValsAt w w.heap.size v l) (hs : StrsAt w w.heap.size vs ss) :
    Calls Tryz.prog 20 #[v, vs] w fun e w' => e = .returned (.bool (thirdB l (keysOf ss))) ∧ Below w.heap.size w w' := by
  have HR := Lib.hid (vlright_any v l w hv)
  obtain ⟨A, c, rfl⟩ := hv.form
  obtain ⟨A', c', rfl⟩ := hs.form
  cases hr : rightB l with
  | false =>
    rw [third_no hr]
    go_enter Tryz.func20, Tryz.ntmps20
    go_wp2_with fail
    refine HR.out.mono ?_
    rintro e w1 ⟨rfl, hb1⟩
    rw [hr]
    go_wp2
    go_ret
    exact ⟨rfl, hb1⟩
  | true =>
    rw [third_is hr]
    have hpl := power_le hr
    have hvl := voted_le (l := l) (keysOf ss)
    obtain ⟨a, ha⟩ : ∃ a, a = votedN l (keysOf ss) := ⟨_, rfl⟩
    obtain ⟨p, hp⟩ : ∃ p, p = powerN l := ⟨_, rfl⟩
    have HV := Lib.hid (fun W h1 h2 => voted_any (.slice A l.length c) (.slice A' ss.length c') l ss W h1 h2)
    have HW := Lib.hid (fun W h1 => power_any (.slice A l.length c) l W h1)
    rw [← ha, Nat.mod_eq_of_lt (by omega)] at HV
    rw [← hp, Nat.mod_eq_of_lt (by omega)] at HW
    rw [← ha, ← hp] at hvl ⊢
    rw [← hp] at hpl
    clear ha hp
    have w1 : IntKind.u64.wrap (3 * (a : Int)) = 3 * (a : Int) := by rw [IntKind.wrap_u64]; omega
    by_cases hd : p < 3 * a
    · rw [decide_eq_true hd]
      have d1 : (p : Int) < 3 * (a : Int) := by omega
      have d2 : decide ((p : Int) < 3 * (a : Int)) = true := decide_eq_true d1
      clear hd
      go_enter Tryz.func20, Tryz.ntmps20
      go_wp2_with fail
      refine HR.out.mono ?_
      rintro e w1 ⟨rfl, hb1⟩
      rw [hr]
      go_wp2_with fail
      refine (HV.out _ (hv.up (Nat.le_refl _) hb1) (hs.up (Nat.le_refl _) hb1)).mono ?_
      rintro e w2 ⟨rfl, hb2⟩
      have hb3 := below_chain hb1 hb1.size hb2
      go_wp2_with fail
      refine (HW.out _ (hv.up (Nat.le_refl _) hb3)).mono ?_
      rintro e w3 ⟨rfl, hb4⟩
      have hb5 := below_chain hb3 hb3.size hb4
      go_wp2
      go_ret
      exact ⟨rfl, hb5⟩
    · rw [decide_eq_false hd]
      have d1 : ¬ (p : Int) < 3 * (a : Int) := by omega
      have d2 : decide ((p : Int) < 3 * (a : Int)) = false := decide_eq_false d1
      clear hd
      go_enter Tryz.func20, Tryz.ntmps20
      go_wp2_with fail
      refine HR.out.mono ?_
      rintro e w1 ⟨rfl, hb1⟩
      rw [hr]
      go_wp2_with fail
      refine (HV.out _ (hv.up (Nat.le_refl _) hb1) (hs.up (Nat.le_refl _) hb1)).mono ?_
      rintro e w2 ⟨rfl, hb2⟩
      have hb3 := below_chain hb1 hb1.size hb2
      go_wp2_with fail
      refine (HW.out _ (hv.up (Nat.le_refl _) hb3)).mono ?_
      rintro e w3 ⟨rfl, hb4⟩
      have hb5 := below_chain hb3 hb3.size hb4
      go_wp2
      go_ret
      exact ⟨rfl, hb5⟩
end Go.Proofs.YtmphegeiclgjbaaGreatDoor
namespace Go.Proofs.YtmphegeiclgjbaaGreatDoor
set_option maxRecDepth 100000
open Go Go.RowKit

def formV (x : VD) : List UInt8 := be ((strBytes x.name).take 65535).length 4 ++ (strBytes x.name).take 65535 ++ be x.power 8
def formVs (l : List VD) : List UInt8 := l.flatMap formV
def bytesV (l : List VD) : List UInt8 := be l.length 8 ++ formVs l
theorem formV_length (x : VD) : (formV x).length ≤ 65547 := by
  simp only [formV, List.length_append, be_length, List.length_take]; omega
theorem formVs_length (l : List VD) : (formVs l).length ≤ l.length * 65547 := by
  induction l with
  | nil => simp [formVs]
  | cons x l ih => have := formV_length x; simp only [formVs, List.flatMap_cons, List.length_append, List.length_cons] at *; omega
theorem formVs_succ (l : List VD) (t : Nat) (h : t < l.length) : formVs (l.take (t + 1)) = formVs (l.take t) ++ formV l[t] := by
  unfold formVs
  rw [List.take_succ_eq_append_getElem h, List.flatMap_append]
  simp

/-- what a round of Bytes carries through its region -/
def BoxS (g B : Nat) (w0 : World) (x : VD) (v : Value) (L : List UInt8) (w' : World) : Prop := ValAt w' g 0 x ∧ g < w'.heap.size ∧ Own w' B v L ∧ Below B w0 w' ∧ B ≤ w'.heap.size ∧ v.ownBlock ≠ some g
section
variable {g B : Nat} {w0 w' w'' : World} {x : VD} {v : Value} {L : List UInt8}
theorem BoxS.drew (h : BoxS g B w0 x v L w') : BoxS g B w0 x v L w'.drew := ⟨h.1, h.2.1, h.2.2.1.drewN 1, below_drewN' h.2.2.2.1 1, h.2.2.2.2⟩
theorem BoxS.below (h : BoxS g B w0 x v L w') (hb : Below w'.heap.size w' w'') : BoxS g B w0 x v L w'' :=
  ⟨⟨(hb.cell (p := ⟨g, 0, none⟩) h.2.1).trans h.1.1, (hb.cell (p := ⟨g, 0 + 1, none⟩) h.2.1).trans h.1.2⟩, Nat.lt_of_lt_of_le h.2.1 hb.size, h.2.2.1.below hb, below_chain h.2.2.2.1 h.2.2.2.2.1 hb, Nat.le_trans h.2.2.2.2.1 hb.size, h.2.2.2.2.2⟩
theorem BoxS.c (h : BoxS g B w0 x v L w') : w'.cell? ⟨g, 0, none⟩ = some (.string x.name) ∧ w'.cell? ⟨g, 1, none⟩ = some (.int .u64 (x.power : Int)) := ⟨h.1.1, h.1.2⟩
theorem BoxS.grown (h : BoxS g B w0 x v L w') (hg : w'.grownBy w'' v.ownBlock) : w''.cell? ⟨g, 0, none⟩ = some (.string x.name) ∧ w''.cell? ⟨g, 1, none⟩ = some (.int .u64 (x.power : Int)) := by
  have := hg.block g h.2.1 (Ne.symm h.2.2.2.2.2)
  exact ⟨(World.cell?_of_block (a := ⟨g, 0, none⟩) this).trans h.1.1, (World.cell?_of_block (a := ⟨g, 0 + 1, none⟩) this).trans h.1.2⟩
end

set_option maxHeartbeats 4000000 in
set_option maxRecDepth 100000 in
theorem bytesV_any (v : Value) (l : List VD) (w : World) (hv : ValsAt w w.heap.size v l) (hl : l.length ≤ 1048576) :
    Calls Tryz.prog 60 #[v] w fun e w' => ∃ v', e = .returned v' ∧ Own w' w.heap.size v' (bytesV l) ∧ Below w.heap.size w w' := by
  obtain ⟨i0, hi, hz, hsz, hby⟩ := info_parts Tryz.infoByte
  obtain ⟨A, c, rfl, hc, hcm, hf, hp⟩ := hv
  unfold maxLen at hcm
  have HP := Lib.hid hp
  have HF := Lib.hid hf
  clear hp hf
  unfold bytesV
  obtain ⟨n, hn⟩ : ∃ n, n = l.length := ⟨_, rfl⟩
  have HN := Lib.hid hn
  rw [← hn] at hc hl ⊢
  clear hn
  have hbl := be_length n 8
  obtain ⟨W, hW⟩ : ∃ W, W = be n 8 := ⟨_, rfl⟩
  rw [← hW] at hbl ⊢
  have HW := Lib.hid hW
  clear hW
  go_enter Tryz.func60, Tryz.ntmps60
  go_wp2_with fail
  refine (N_any (.slice none 0 0) [] n w (Rd.nil _ _) (by omega) (by simp)).mono ?_
  rintro e w1 ⟨v1, rfl, ho1, hb1⟩
  replace ho1 : Own w1 w.heap.size v1 (be n 8) := ho1
  rw [← HW.out] at ho1
  go_wp2
  go_loopw [3, 12] (fun v3 i wr => ∃ k : Nat, k ≤ n ∧ i = .int .i64 (k : Int) ∧ Own wr w.heap.size v3 (W ++ formVs (l.take k)) ∧ Below w.heap.size w wr)
    (fun _ i _ => n - (intOf i).toNat)
  case atStart => exact ⟨0, Nat.zero_le _, rfl, by simpa [formVs] using ho1, hb1⟩
  case round =>
    clear ho1 hb1
    obtain ⟨k, hk, rfl, ho, hb⟩ := hrel
    have hfl := formVs_length (l.take k)
    rw [List.length_take] at hfl
    by_cases hlt : k < n
    · obtain ⟨b, o, rfl, hbl2, hcell⟩ := HP.out (by have := HN.out; omega)
      have hkl : k < l.length := by have := HN.out; omega
      have hat := hcell k hkl
      have c0 := (hb.cell (p := ⟨b, o + k * 2, none⟩) hbl2).trans hat.1
      have c1 := (hb.cell (p := ⟨b, o + k * 2 + 1, none⟩) hbl2).trans hat.2
      have hfit := HF.out _ (List.getElem_mem hkl)
      have HS := Lib.hid (formVs_succ l k hkl)
      have hsx := hfit.1
      have hpw := hfit.2
      have hll : (W ++ formVs (l.take k)).length ≤ 8 + k * 65547 := by rw [List.length_append, hbl]; omega
      clear hcell HP hat hfit hfl
      generalize l[k] = x at *
      obtain ⟨L, hL⟩ : ∃ L, L = W ++ formVs (l.take k) := ⟨_, rfl⟩
      rw [← hL] at ho hll
      have HL := Lib.hid hL
      clear hL
      have hT := Lib.hid (fun W : World => T_any (.slice none 0 0) x.name [] W (Rd.nil _ _) hsx (by simp))
      have i1 : (0 : Int) ≤ (k : Int) := by omega
      have i2 : (k : Int) < (n : Int) := by omega
      clear hsx
      go_wp2
      have hBx : BoxS wr.heap.size w.heap.size w x u3 L (wr.alloc (.cells #[.string x.name, .int .u64 (x.power : Int)] 151)) :=
        ⟨⟨blk_cell (heap_alloc_new wr _) 0, blk_cell (heap_alloc_new wr _) 1⟩, by simp, ho.alloc _, val_box hb x, by have := hb.size; simp; omega, fun e => Nat.lt_irrefl _ (ho.lt _ e).2⟩
      generalize wr.alloc (.cells #[.string x.name, .int .u64 (x.power : Int)] 151) = wb at *
      generalize wr.heap.size = g at *
      clear c0 c1 ho hb
      go_region_held_law (fun w' => w'.cell? ⟨g, 0, none⟩ = some (.string x.name) ∧ w'.cell? ⟨g, 1, none⟩ = some (.int .u64 (x.power : Int)))
        (first | exact hBx.drew.c | exact hB3.c | exact hB5.c | exact hB5.grown hg6)
        (first
          | (go_at_call 82; refine (hT.out _).mono ?_; rintro e w3 ⟨v3, rfl, ho3, hb3⟩; have hB3 := BoxS.below hBx.drew hb3)
          | (go_at_call 42; refine (N_any v3 _ x.power _ ho3.rd hpw (by simp only [List.length_append, be_length, List.length_take, List.length_nil]; omega)).mono ?_; rintro e w5 ⟨v5, rfl, ho5, hb5⟩; have hB5 := BoxS.below hB3 hb5)
          | (rw [if_pos (by rfl)]; refine wp_append_rd (.tmp 16) (.tmp 22) _ rfl i0 Tryz.underlying32 hi hz hsz hby rfl hB5.2.2.1 rfl ho5.rd (by simp only [List.length_append, be_length, List.length_take, List.length_nil]; omega) hB5.2.2.2.2.1 ?_; intro v6 w6 ho6 hg6 _))
      all_goals
        have hb6 : Below w.heap.size w w6 := Own.below_grown hB5.2.2.2.1 hB5.2.2.1 (Nat.le_refl _) hB5.2.2.2.2.1 hg6
        rw [show L ++ ([] ++ be ((strBytes x.name).take 65535).length 4 ++ (strBytes x.name).take 65535 ++ be x.power 8) = W ++ formVs (l.take (k + 1)) from by rw [HL.out, HS.out, List.append_assoc]; rfl] at ho6
        clear hg6 hB5 hB3 hBx ho5 ho3
        go_wp2
        go_roundw
        case rel => exact ⟨k + 1, by omega, by go_num, ho6, hb6⟩
        case measure => simp [intOf]; omega
    · have i2 : ¬ (k : Int) < (n : Int) := by omega
      have he : l.take k = l := List.take_of_length_le (by have := HN.out; omega)
      rw [he] at ho
      clear he
      go_wp2
      go_ret
      exact ⟨_, rfl, ho, hb⟩

theorem parts1 (w : World) (va : Value) (a : List UInt8) (t : TypeId) (ha : Rd w w.heap.size va a) :
    Parts (w.alloc (.cells #[va] t)) (w.alloc (.cells #[va] t)).heap.size (.slice (some ⟨w.heap.size, 0, none⟩) 1 1) [a] := by
  have hbw : Below w.heap.size w (w.alloc (.cells #[va] t)) := (Below.refl _ _).alloc (Nat.le_refl _) _
  have hg := heap_alloc_new w (.cells #[va] t)
  refine ⟨_, 1, rfl, fun _ => ⟨w.heap.size, 0, rfl, by simp, fun j hj => ?_⟩⟩
  rw [show (0 + j) = j by omega, blk_cell hg]
  rcases j with _ | j
  · exact ⟨va, rfl, ha.up (Nat.le_refl _) hbw⟩
  · exact absurd hj (by simp)

def valsWord : ByteArray := ⟨#[118, 97, 108, 115]⟩
set_option maxHeartbeats 1000000 in
theorem hashV_any (v : Value) (l : List VD) (w : World) (hv : ValsAt w w.heap.size v l) (hl : l.length ≤ 1048576) (fr : TypeId × Nat × Nat) (hk : w.heap[0]? = some (.cells kVals fr.1 fr.2)) :
    Calls Tryz.prog 18 #[v] w fun e w' => ∃ v', e = .returned v' ∧ Own w' w.heap.size v' (shaSum (formB (strBytes valsWord) ++ formBs [bytesV l])) ∧ Below w.heap.size w w' := by
  have hn0 := blk_lt hk
  obtain ⟨L, hL⟩ : ∃ L, L = bytesV l := ⟨_, rfl⟩
  have hB := bytesV_any v l w hv hl
  rw [← hL] at hB ⊢
  clear hL
  have HB := Lib.hid hB
  clear hB
  obtain ⟨A, c, rfl⟩ := hv.form
  go_enter Tryz.func18, Tryz.ntmps18
  go_wp2_with fail
  refine HB.out.mono ?_
  rintro e w1 ⟨v1, rfl, ho1, hb1⟩
  obtain ⟨A1, c1, rfl⟩ := ho1.form
  go_wp2_with fail
  have hp := parts1 w1 _ L 32 ho1.rd
  have hbx : Below w.heap.size w (w1.alloc (.cells #[.slice A1 L.length c1] 32)) := hb1.alloc hb1.size _
  generalize w1.alloc (.cells #[.slice A1 L.length c1] 32) = w2 at *
  refine (tagged_any valsWord _ [L] w2 hp (by unfold maxLen valsWord; decide) (by simp) fr ((hbx.block _ hn0).trans hk)).mono ?_
  rintro e w3 ⟨v3, rfl, ho3, hb3⟩
  go_wp2_with fail
  go_ret
  exact ⟨_, rfl, ho3.more hbx.size, below_chain hbx hbx.size hb3⟩
end Go.Proofs.YtmphegeiclgjbaaGreatDoor
namespace Go.Proofs.YtmphegeiclgjbaaGreatDoor
set_option maxRecDepth 100000
open Go Go.RowKit
set_option linter.unusedVariables false

structure OrdV where
  t : ByteArray
  d : ByteArray
  x : U4
def OrdV.cells (o : OrdV) : Array Value := #[.string o.t, .string o.d, .int .u64 (o.x.a : Int), .int .u64 (o.x.b : Int), .int .u64 (o.x.c : Int), .int .u64 (o.x.d : Int)]
def OrdsAt (W : World) (v : Value) (l : List OrdV) : Prop := ∃ A c, v = .slice A l.length c ∧ (0 < l.length → ∃ b o, A = some ⟨b, o, none⟩ ∧ b < W.heap.size ∧
  ∀ (j : Nat) (h : j < l.length) (i : Nat) (u : Value), i < 6 → l[j].cells[i]? = some u → W.cell? ⟨b, o + j * 6 + i, none⟩ = some u)
theorem OrdsAt.keptX {W W' : World} {v : Value} {l : List OrdV} (h : OrdsAt W v l) (hk : Kept W W') : OrdsAt W' v l := by
  obtain ⟨A, c, rfl, hc⟩ := h
  refine ⟨A, c, rfl, fun h0 => ?_⟩
  obtain ⟨b, o, rfl, hb1, hcell⟩ := hc h0
  have hs : W.heap.size ≤ W'.heap.size := by obtain ⟨F, h1, _⟩ := hk; exact h1.size
  exact ⟨b, o, rfl, Nat.lt_of_lt_of_le hb1 hs, fun j hj i u hi hu => hk.cell (hcell j hj i u hi hu)⟩
end Go.Proofs.YtmphegeiclgjbaaGreatDoor
