
/- Sets of validators as lists: which list is one, who voted, with what power: plain mathematics. Lists of validators and of texts, as they lie in memory. -/
import Derived.Test.YtmphegeiclgjbaaGreatDoorNameI1
import Derived.Test.YtmphegeiclgjbaaGreatDoorInfo1
namespace Go.Proofs.YtmphegeiclgjbaaGreatDoor
set_option maxRecDepth 100000
open Go

structure VD where
  name : ByteArray
  power : Nat

def VD.key (x : VD) : List UInt8 := x.name.data.toList
def okV (x : VD) : Bool := identL x.key && decide (1 ≤ x.power) && decide (x.power ≤ 4294967296)
def lessV (x y : VD) : Bool := Op.bytesLess x.name.toList y.name.toList
/-- is what stands at a place as it must be? -/
def goodAt (l : List VD) : Nat → Bool
  | 0 => (l[0]?).any okV
  | j + 1 => (l[j + 1]?).any fun x => okV x && (l[j]?).any fun y => lessV y x
def rightB (l : List VD) : Bool := decide (1 ≤ l.length) && decide (l.length ≤ 8) && (List.range l.length).all (goodAt l)

theorem okV_name {x : VD} (h : identL x.key = false) : okV x = false := by simp [okV, h]
theorem okV_low {x : VD} (h : x.power < 1) : okV x = false := by simp [okV, show ¬ 1 ≤ x.power by omega]
theorem okV_high {x : VD} (h : 4294967296 < x.power) : okV x = false := by simp [okV, show ¬ x.power ≤ 4294967296 by omega]
theorem okV_yes {x : VD} (h : identL x.key = true) (h1 : ¬ x.power < 1) (h2 : ¬ 4294967296 < x.power) : okV x = true := by simp [okV, h, show 1 ≤ x.power by omega, show x.power ≤ 4294967296 by omega]
theorem good_okV {l : List VD} {i : Nat} (hi : i < l.length) (h : goodAt l i = true) : okV l[i] = true := by
  cases i with
  | zero => simp only [goodAt, List.getElem?_eq_getElem hi, Option.any_some] at h; exact h
  | succ j => simp only [goodAt, List.getElem?_eq_getElem hi, Option.any_some, Bool.and_eq_true] at h; exact h.1
theorem good_zero {l : List VD} (hi : 0 < l.length) : goodAt l 0 = okV l[0] := by
  simp only [goodAt, List.getElem?_eq_getElem hi, Option.any_some]
theorem good_succ {l : List VD} {j : Nat} (hi : j + 1 < l.length) : goodAt l (j + 1) = (okV l[j + 1] && lessV l[j] l[j + 1]) := by
  simp only [goodAt, List.getElem?_eq_getElem hi, List.getElem?_eq_getElem (show j < l.length by omega), Option.any_some]
theorem rightB_parts {l : List VD} (h : rightB l = true) : 1 ≤ l.length ∧ l.length ≤ 8 ∧ ∀ i, i < l.length → goodAt l i = true := by
  simp only [rightB, Bool.and_eq_true, decide_eq_true_eq, List.all_eq_true, List.mem_range] at h
  exact ⟨h.1.1, h.1.2, h.2⟩
theorem rightB_yes {l : List VD} (h1 : 1 ≤ l.length) (h2 : l.length ≤ 8) (h : ∀ i, i < l.length → goodAt l i = true) : rightB l = true := by
  simp only [rightB, Bool.and_eq_true, decide_eq_true_eq, List.all_eq_true, List.mem_range]
  exact ⟨⟨h1, h2⟩, h⟩
theorem rightB_short {l : List VD} (h : l.length < 1 ∨ 8 < l.length) : rightB l = false := by
  rw [Bool.eq_false_iff]
  intro h2
  have := rightB_parts h2
  omega
theorem rightB_bad {l : List VD} {i : Nat} (hi : i < l.length) (h : goodAt l i = false) : rightB l = false := by
  rw [Bool.eq_false_iff]
  intro h2
  have := (rightB_parts h2).2.2 i hi
  rw [h] at this
  cases this

theorem rightB_not {l : List VD} {i : Nat} (hi : i < l.length) (h : okV l[i] = false) : rightB l = false := by
  refine rightB_bad hi ?_
  cases i with
  | zero => rw [good_zero hi]; exact h
  | succ j => rw [good_succ hi, h]; rfl
theorem rightB_order {l : List VD} {j : Nat} (hi : j + 1 < l.length) (h : lessV l[j] l[j + 1] = false) : rightB l = false :=
  rightB_bad hi (by rw [good_succ hi, h]; simp)

/-- the power of those whose name has a property -/
def vsum (p : List UInt8 → Bool) (l : List VD) : Nat := (l.map fun x => if p x.key = true then x.power else 0).sum
def powerN (l : List VD) : Nat := vsum (fun _ => true) l
def votedN (l : List VD) (votes : List (List UInt8)) : Nat := vsum (fun k => votes.contains k) l

theorem vsum_take (p : List UInt8 → Bool) (l : List VD) (k : Nat) (h : k < l.length) : vsum p (l.take (k + 1)) = vsum p (l.take k) + if p l[k].key = true then l[k].power else 0 := by
  unfold vsum
  rw [List.take_succ_eq_append_getElem h, List.map_append, List.sum_append]
  simp
theorem vsum_mono {p q : List UInt8 → Bool} (h : ∀ k, p k = true → q k = true) (l : List VD) : vsum p l ≤ vsum q l := by
  induction l with
  | nil => simp [vsum]
  | cons x l ih =>
    simp only [vsum, List.map_cons, List.sum_cons] at ih ⊢
    have : (if p x.key = true then x.power else 0) ≤ (if q x.key = true then x.power else 0) := by
      by_cases hp : p x.key = true
      · rw [if_pos hp, if_pos (h _ hp)]; exact Nat.le_refl _
      · rw [if_neg hp]; omega
    omega
theorem vsum_le_power (p : List UInt8 → Bool) (l : List VD) : vsum p l ≤ powerN l := vsum_mono (fun _ _ => rfl) l
theorem power_bound (l : List VD) (h : ∀ x ∈ l, x.power ≤ 4294967296) : powerN l ≤ l.length * 4294967296 := by
  induction l with
  | nil => simp [powerN, vsum]
  | cons x l ih =>
    have h1 := ih fun y hy => h y (List.mem_cons_of_mem _ hy)
    have h2 := h x List.mem_cons_self
    simp only [powerN, vsum, List.map_cons, List.sum_cons, if_true, List.length_cons] at h1 ⊢
    omega
theorem power_le {l : List VD} (h : rightB l = true) : powerN l ≤ 34359738368 := by
  obtain ⟨_, h2, h3⟩ := rightB_parts h
  have := power_bound l fun x hx => by
    obtain ⟨i, hi, rfl⟩ := List.mem_iff_getElem.1 hx
    have := good_okV hi (h3 i hi)
    simp only [okV, Bool.and_eq_true, decide_eq_true_eq] at this
    exact this.2
  omega

def quorumB (l : List VD) (votes : List (List UInt8)) : Bool := rightB l && decide (2 * powerN l < 3 * votedN l votes)
def thirdB (l : List VD) (votes : List (List UInt8)) : Bool := rightB l && decide (powerN l < 3 * votedN l votes)

theorem voted_le {l : List VD} (a : List (List UInt8)) : votedN l a ≤ powerN l := vsum_le_power _ l
end Go.Proofs.YtmphegeiclgjbaaGreatDoor
namespace Go.Proofs.YtmphegeiclgjbaaGreatDoor
set_option maxRecDepth 100000
open Go Go.RowKit

def VD.fits (x : VD) : Prop := x.name.size ≤ maxLen ∧ x.power < 18446744073709551616
def ValAt (w : World) (b o : Nat) (x : VD) : Prop := w.cell? ⟨b, o, none⟩ = some (.string x.name) ∧ w.cell? ⟨b, o + 1, none⟩ = some (.int .u64 (x.power : Int))
/-- the slice value v reads as the validators l, in blocks below B -/
def ValsAt (w : World) (B : Nat) (v : Value) (l : List VD) : Prop :=
  ∃ A c, v = .slice A l.length c ∧ l.length ≤ c ∧ c ≤ maxLen ∧ (∀ x ∈ l, x.fits) ∧
    (0 < l.length → ∃ b o, A = some ⟨b, o, none⟩ ∧ b < B ∧ ∀ j (h : j < l.length), ValAt w b (o + j * 2) l[j])
/-- the slice value v reads as the texts l, in blocks below B -/
def StrsAt (w : World) (B : Nat) (v : Value) (l : List ByteArray) : Prop :=
  ∃ A c, v = .slice A l.length c ∧ l.length ≤ c ∧ c ≤ maxLen ∧ (∀ x ∈ l, x.size ≤ maxLen) ∧
    (0 < l.length → ∃ b o, A = some ⟨b, o, none⟩ ∧ b < B ∧ ∀ j (h : j < l.length), w.cell? ⟨b, o + j, none⟩ = some (.string l[j]))

section
variable {w w' : World} {B B' : Nat} {v : Value}
theorem ValsAt.below {l : List VD} (h : ValsAt w B v l) (hk : Below B w w') : ValsAt w' B v l := by
  obtain ⟨A, c, hv, hc, hm, hf, hp⟩ := h
  refine ⟨A, c, hv, hc, hm, hf, fun h0 => ?_⟩
  obtain ⟨b, o, hA, hb, ha⟩ := hp h0
  exact ⟨b, o, hA, hb, fun j hj => ⟨(hk.cell (p := ⟨b, o + j * 2, none⟩) hb).trans (ha j hj).1, (hk.cell (p := ⟨b, o + j * 2 + 1, none⟩) hb).trans (ha j hj).2⟩⟩
theorem ValsAt.more {l : List VD} (h : ValsAt w B v l) (hB : B ≤ B') : ValsAt w B' v l := by
  obtain ⟨A, c, hv, hc, hm, hf, hp⟩ := h
  refine ⟨A, c, hv, hc, hm, hf, fun h0 => ?_⟩
  obtain ⟨b, o, hA, hb, ha⟩ := hp h0
  exact ⟨b, o, hA, by omega, ha⟩
theorem ValsAt.up {l : List VD} (h : ValsAt w B v l) (hB : B ≤ w.heap.size) (hb : Below w.heap.size w w') : ValsAt w' w'.heap.size v l := ((h.more hB).below hb).more hb.size
theorem StrsAt.below {l : List ByteArray} (h : StrsAt w B v l) (hk : Below B w w') : StrsAt w' B v l := by
  obtain ⟨A, c, hv, hc, hm, hf, hp⟩ := h
  refine ⟨A, c, hv, hc, hm, hf, fun h0 => ?_⟩
  obtain ⟨b, o, hA, hb, ha⟩ := hp h0
  exact ⟨b, o, hA, hb, fun j hj => (hk.cell (p := ⟨b, o + j, none⟩) hb).trans (ha j hj)⟩
theorem StrsAt.more {l : List ByteArray} (h : StrsAt w B v l) (hB : B ≤ B') : StrsAt w B' v l := by
  obtain ⟨A, c, hv, hc, hm, hf, hp⟩ := h
  refine ⟨A, c, hv, hc, hm, hf, fun h0 => ?_⟩
  obtain ⟨b, o, hA, hb, ha⟩ := hp h0
  exact ⟨b, o, hA, by omega, ha⟩
theorem StrsAt.up {l : List ByteArray} (h : StrsAt w B v l) (hB : B ≤ w.heap.size) (hb : Below w.heap.size w w') : StrsAt w' w'.heap.size v l := ((h.more hB).below hb).more hb.size
theorem StrsAt.nil (w : World) (B : Nat) : StrsAt w B (.slice none 0 0) [] := ⟨none, 0, rfl, Nat.le_refl _, Nat.zero_le _, fun _ h => absurd h (by simp), fun h => absurd h (by simp)⟩
theorem StrsAt.form {l : List ByteArray} (h : StrsAt w B v l) : ∃ A c, v = .slice A l.length c := by obtain ⟨A, c, h, _⟩ := h; exact ⟨A, c, h⟩
theorem ValsAt.form {l : List VD} (h : ValsAt w B v l) : ∃ A c, v = .slice A l.length c := by obtain ⟨A, c, h, _⟩ := h; exact ⟨A, c, h⟩
end

/-- a round's box of a validator -/
theorem val_box {w wr : World} (hb : Below w.heap.size w wr) (x : VD) : Below w.heap.size w (wr.alloc (.cells #[.string x.name, .int .u64 (x.power : Int)] 151)) := hb.alloc hb.size _

def keysOf (l : List ByteArray) : List (List UInt8) := l.map fun s => s.data.toList
theorem u64_add (a b : Nat) : IntKind.u64.wrap ((a % 18446744073709551616 : Nat) + (b : Int)) = ((a + b) % 18446744073709551616 : Nat) := by
  simp only [IntKind.wrap, IntKind.bits, IntKind.signed]
  simp
theorem u64_add' (a b : Nat) : IntKind.u64.wrap ((a : Int) % 18446744073709551616 + (b : Int)) = ((a + b) % 18446744073709551616 : Nat) := by
  rw [← u64_add]
  simp
end Go.Proofs.YtmphegeiclgjbaaGreatDoor
