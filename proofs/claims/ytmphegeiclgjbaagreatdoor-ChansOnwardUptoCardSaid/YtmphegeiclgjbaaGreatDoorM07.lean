/- Texts joined: MerkH0, StoM0, LimbS0, LimbA0, NameI1, BankM0, PrX. -/
import Derived.Test.YtmphegeiclgjbaaGreatDoorM06
import Derived.Test.YtmphegeiclgjbaaGreatDoorM01
import Derived.Test.YtmphegeiclgjbaaGreatDoorM05
import Derived.Deep.RegionHeldLaw
import Derived.Shelf.Spec.BitsCarry
import Derived.Stop.BytesEq
import Derived.Lib.Bytealg
import Derived.Lib.Strings
import Derived.Test.YtmphegeiclgjbaaGreatDoorProg
import Derived.WalkKit
import Derived.WalkSpells
import Derived.Deep.QuietTactic
import Derived.BigQuiet
import Derived.Deep.Draws
import Derived.Lib.Hide
import Derived.LoopTactic
import Derived.Laws.Externs
import Derived.Lib.CutLaws
import Derived.Lib.Walk
import Derived.Laws.Strings3
import Derived.Test.YtmphegeiclgjbaaGreatDoorM04
namespace Go.Proofs.YtmphegeiclgjbaaGreatDoor
set_option maxRecDepth 100000
open Go Go.RowKit
set_option linter.unusedVariables false
variable {w w' : World} {B : Nat}

def absentB (root : List UInt8) (key : ByteArray) (p : Pf) : Bool := keyB key && match p.ls with
  | [] => decide (p.n = 0) && sameB root rootE
  | [l] => ((decide (l.at_ = 0) && !(ltS l.key key || l.key.toList == key.toList)) || (decide (l.at_ = IntKind.i64.wrap (p.n - 1)) && ltS l.key key)) && holdsB root p.n l
  | [a, b] => (decide (IntKind.i64.wrap (a.at_ + 1) = b.at_) && (ltS a.key key && ltS key b.key)) && (holdsB root p.n a && holdsB root p.n b)
  | _ => false
end Go.Proofs.YtmphegeiclgjbaaGreatDoor
namespace Go.Proofs.YtmphegeiclgjbaaGreatDoor
set_option maxRecDepth 100000
open Go Go.RowKit
set_option linter.unusedVariables false
variable {w w' : World} {B : Nat}

/-- the hashes beside a leaf's way in the first k rows -/
def wayK (L : List (List UInt8)) (i : Nat) : Nat → List (List UInt8)
  | 0 => []
  | k + 1 => wayK L i k ++ (if ((i / 2 ^ k) ^^^ 1) < (upN k L).length then [(upN k L).getD ((i / 2 ^ k) ^^^ 1) []] else [])
end Go.Proofs.YtmphegeiclgjbaaGreatDoor
namespace Go.Proofs.YtmphegeiclgjbaaGreatDoor
set_option maxRecDepth 100000
open Go Go.RowKit
set_option linter.unusedVariables false

theorem bl_irrefl : ∀ a : List UInt8, Op.bytesLess a a = false
  | [] => rfl
  | a :: l => by
    have : ¬ a < a := by rw [UInt8.lt_iff_toNat_lt]; omega
    simp [Op.bytesLess, bl_irrefl l, this]
theorem bl_cons (a b : UInt8) (l m : List UInt8) : Op.bytesLess (a :: l) (b :: m) = true ↔ a < b ∨ (a = b ∧ Op.bytesLess l m = true) := by
  simp [Op.bytesLess]
theorem bl_trans : ∀ a b c : List UInt8, Op.bytesLess a b = true → Op.bytesLess b c = true → Op.bytesLess a c = true
  | _, _, [], _, h => by simp [Op.bytesLess] at h
  | _, [], _ :: _, h, _ => by cases ‹List UInt8› <;> simp [Op.bytesLess] at h
  | [], b :: l, c :: m, h1, h2 => rfl
  | a :: k, b :: l, c :: m, h1, h2 => by
    rw [bl_cons] at h1 h2 ⊢
    simp only [UInt8.lt_iff_toNat_lt, ← UInt8.toNat_inj] at h1 h2 ⊢
    rcases h1 with h1 | ⟨h1, h1'⟩ <;> rcases h2 with h2 | ⟨h2, h2'⟩
    · left; omega
    · left; omega
    · left; omega
    · right; exact ⟨by omega, bl_trans k l m h1' h2'⟩
theorem bl_tri : ∀ a b : List UInt8, Op.bytesLess a b = false → a ≠ b → Op.bytesLess b a = true
  | [], [], _, h => absurd rfl h
  | [], _ :: _, h, _ => by simp [Op.bytesLess] at h
  | _ :: _, [], _, _ => rfl
  | a :: l, b :: m, h, hne => by
    rw [bl_cons]
    have h' : ¬ (a < b ∨ (a = b ∧ Op.bytesLess l m = true)) := by rw [← bl_cons, h]; simp
    simp only [UInt8.lt_iff_toNat_lt, ← UInt8.toNat_inj] at h' ⊢
    by_cases hab : a.toNat = b.toNat
    · right
      refine ⟨hab.symm, bl_tri l m ?_ fun e => hne ?_⟩
      · cases hlm : Op.bytesLess l m with
        | false => rfl
        | true => exact absurd (Or.inr ⟨hab, hlm⟩) h'
      · rw [UInt8.toNat_inj.1 hab, e]
    · left
      by_cases hlt : a.toNat < b.toNat
      · exact absurd (Or.inl hlt) h'
      · omega
theorem toList_inj {a b : ByteArray} (h : a.toList = b.toList) : a = b := by
  rw [ByteArray.toList_eq, ByteArray.toList_eq] at h
  exact ByteArray.ext (Array.toList_inj.1 h)
theorem ltS_irrefl (a : ByteArray) : ltS a a = false := bl_irrefl _
theorem ltS_trans {a b c : ByteArray} (h : ltS a b = true) (k : ltS b c = true) : ltS a c = true := bl_trans _ _ _ h k
theorem ltS_tri {a b : ByteArray} (h : ltS a b = false) (k : a ≠ b) : ltS b a = true := bl_tri _ _ h fun e => k (toList_inj e)
theorem ltS_ne {a b : ByteArray} (h : ltS a b = true) : a ≠ b := fun e => by rw [e, ltS_irrefl] at h; cases h
theorem ltS_asym {a b : ByteArray} (h : ltS a b = true) : ltS b a = false := by
  cases hb : ltS b a with
  | false => rfl
  | true => have := ltS_trans h hb; rw [ltS_irrefl] at this; cases this

def hitB (ps : List Pr) (key : ByteArray) : Bool := match ps[placeM key ps]? with | some p => p.1.toList == key.toList | none => false
def leavesP (ps : List Pr) (key : ByteArray) : List Lf := if hitB ps key = true then [leafM ps (placeM key ps)] else
  (if 0 < placeM key ps then [leafM ps (placeM key ps - 1)] else []) ++ (if placeM key ps < ps.length then [leafM ps (placeM key ps)] else [])
/-- the proof about a key, or the error -/
def proveM (ps : List Pr) (key : ByteArray) : Pf × Int := if ordB ps = true ∧ keyB key = true then (⟨(ps.length : Int), leavesP ps key⟩, 0) else (⟨0, []⟩, 60)
end Go.Proofs.YtmphegeiclgjbaaGreatDoor
namespace Go.Proofs.YtmphegeiclgjbaaGreatDoor
set_option maxRecDepth 100000
open Go Go.RowKit
set_option linter.unusedVariables false
variable {w w' : World} {B : Nat}

/-- what a leaf's four cells say -/
def LfC (w : World) (c : List Value) (l : Lf) : Prop := ∃ sv pv, c = [.int .i64 l.at_, .string l.key, sv, pv] ∧ RdS w 0 sv l.val ∧ RowS w 0 pv l.path ∧ l.key.size ≤ maxLen ∧ -9223372036854775808 ≤ l.at_ ∧ l.at_ ≤ 9223372036854775807
theorem LfC.grow {c : List Value} {l : Lf} {E : TypeId} (h : LfC w c l) (hg : Grow w 0 E w') (h1 : 5 ≠ E) (h2 : 32 ≠ E) : LfC w' c l := by
  obtain ⟨sv, pv, e, q1, q2, q3⟩ := h
  exact ⟨sv, pv, e, q1.grow hg h1, q2.grow hg h1 h2, q3⟩
theorem LfC.up {c : List Value} {l : Lf} (h : LfC w c l) (hb : Below w.heap.size w w') : LfC w' c l := by
  obtain ⟨sv, pv, e, q1, q2, q3⟩ := h
  exact ⟨sv, pv, e, q1.up hb, q2.up hb, q3⟩
theorem LfC.len {c : List Value} {l : Lf} (h : LfC w c l) : c.length = 4 := by obtain ⟨sv, pv, e, _⟩ := h; rw [e]; rfl
theorem LfC.one {c : List Value} {l : Lf} (h : LfC w c l) : ∀ u ∈ c, u.oneCell' = true := by
  obtain ⟨sv, pv, e, q1, q2, _⟩ := h
  obtain ⟨A1, c1, rfl⟩ := q1.1.form
  obtain ⟨A2, c2, rfl⟩ := q2.form
  subst e
  intro u hu
  simp only [List.mem_cons, List.not_mem_nil, or_false] at hu
  rcases hu with rfl | rfl | rfl | rfl <;> rfl
abbrev OwnL (w : World) (B : Nat) (v : Value) (ls : List Lf) : Prop := OwnX 111 4 LfC w B v ls
theorem OwnL.up {v : Value} {ls : List Lf} (h : OwnL w B v ls) (hb : Below w.heap.size w w') : OwnL w' B v ls := OwnX.up h hb fun c a hc => hc.up hb
theorem OwnL.grow {v : Value} {ls : List Lf} {E : TypeId} (h : OwnL w B v ls) (hg : Grow w 0 E w') (h0 : 111 ≠ E) (h1 : 5 ≠ E) (h2 : 32 ≠ E) : OwnL w' B v ls := OwnX.grow h hg h0 fun c a hc => hc.grow hg h1 h2
/-- a proof of the call's own -/
def ProofN (w : World) (B : Nat) (v : Value) (p : Pf) : Prop := ∃ lv, v = .agg #[.int .i64 p.n, lv] ∧ OwnL w B lv p.ls
theorem ProofN.up {v : Value} {p : Pf} (h : ProofN w B v p) (hb : Below w.heap.size w w') : ProofN w' B v p := by
  obtain ⟨lv, rfl, hl⟩ := h
  exact ⟨lv, rfl, OwnL.up hl hb⟩
theorem ProofN.more {B' : Nat} {v : Value} {p : Pf} (h : ProofN w B v p) (hB : B' ≤ B) : ProofN w B' v p := by
  obtain ⟨lv, rfl, hl⟩ := h
  exact ⟨lv, rfl, OwnX.more hl hB⟩
/-- a leaf made, as cells -/
theorem LeafN.cells {v : Value} {l : Lf} (h : LeafN w 0 B v l) (hk : l.key.size ≤ maxLen) (h1 : -9223372036854775808 ≤ l.at_) (h2 : l.at_ ≤ 9223372036854775807) : ∃ A1 n1 c1 A2 n2 c2, v = .agg #[.int .i64 l.at_, .string l.key, .slice A1 n1 c1, .slice A2 n2 c2] ∧ LfC w [.int .i64 l.at_, .string l.key, .slice A1 n1 c1, .slice A2 n2 c2] l := by
  obtain ⟨sv, pv, rfl, q1, q2⟩ := h
  obtain ⟨A1, c1, rfl⟩ := q1.form
  obtain ⟨A2, c2, rfl⟩ := q2.form
  exact ⟨A1, _, c1, A2, _, c2, rfl, _, _, rfl, q1.rdS, q2.rowS, hk, h1, h2⟩

/-- the leaves that are told of places -/
def selM (ps : List Pr) (T : List Int) : List Lf := (T.filter fun i => decide (0 ≤ i ∧ i < (ps.length : Int))).map fun i => leafM ps i.toNat
end Go.Proofs.YtmphegeiclgjbaaGreatDoor
namespace Go.Proofs.YtmphegeiclgjbaaGreatDoor
set_option maxRecDepth 100000
open Go
set_option linter.unusedVariables false

/-- by rising keys -/
def Rise (l : List Pr) : Prop := l.Pairwise (fun p q => ltS p.1 q.1 = true)
/-- a key set, or gone -/
abbrev Chn := ByteArray × Option (List UInt8)
/-- what lies under a key -/
def getL : List Pr → ByteArray → Option (List UInt8)
  | [], _ => none
  | p :: l, s => if p.1 = s then some p.2 else getL l s
/-- the document's put, as its loop goes -/
def putG (c : Chn) : Bool → List Pr → List Pr
  | done, [] => if done then [] else [(c.1, c.2.getD [])]
  | done, p :: r => (if !done && !ltS p.1 c.1 then [(c.1, c.2.getD [])] else []) ++ (if p.1 = c.1 then [] else [p]) ++ putG c (done || (!done && !ltS p.1 c.1)) r
def putL (c : Chn) (l : List Pr) : List Pr := putG c c.2.isNone l

theorem getL_cons (p : Pr) (l : List Pr) (s : ByteArray) : getL (p :: l) s = if p.1 = s then some p.2 else getL l s := rfl
theorem getL_append (l l' : List Pr) (s : ByteArray) : getL (l ++ l') s = (getL l s).or (getL l' s) := by
  induction l with
  | nil => rfl
  | cons p l ih =>
    show getL (p :: (l ++ l')) s = _
    rw [getL_cons, getL_cons, ih]
    by_cases h : p.1 = s <;> simp [h]
theorem getL_mem {l : List Pr} {s : ByteArray} {v : List UInt8} (h : getL l s = some v) : (s, v) ∈ l := by
  induction l with
  | nil => cases h
  | cons p l ih =>
    unfold getL at h
    by_cases e : p.1 = s
    · rw [if_pos e] at h
      have : p = (s, v) := by rw [← e, ← Option.some.inj h]
      simp [this]
    · rw [if_neg e] at h
      exact List.mem_cons_of_mem _ (ih h)
theorem getL_none {l : List Pr} {s : ByteArray} : getL l s = none ↔ ∀ p ∈ l, p.1 ≠ s := by
  induction l with
  | nil => simp [getL]
  | cons p l ih =>
    unfold getL
    by_cases e : p.1 = s
    · simp [e]
    · simp [e, ih]
theorem Rise.get {l : List Pr} (h : Rise l) {p : Pr} (hp : p ∈ l) : getL l p.1 = some p.2 := by
  induction l with
  | nil => cases hp
  | cons q l ih =>
    obtain ⟨h1, h2⟩ := List.pairwise_cons.1 h
    unfold getL
    rcases List.mem_cons.1 hp with rfl | hp
    · simp
    · rw [if_neg (ltS_ne (h1 p hp))]
      exact ih h2 hp
theorem Rise.ext {l l' : List Pr} (h : Rise l) (h' : Rise l') (e : ∀ s, getL l s = getL l' s) : l = l' := by
  induction l generalizing l' with
  | nil =>
    cases l' with
    | nil => rfl
    | cons q l' => have := e q.1; simp [getL] at this
  | cons p l ih =>
    cases l' with
    | nil => have := e p.1; simp [getL] at this
    | cons q l' =>
      obtain ⟨h1, h2⟩ := List.pairwise_cons.1 h
      obtain ⟨g1, g2⟩ := List.pairwise_cons.1 h'
      have hpq : p.1 = q.1 := by
        refine Decidable.byContradiction fun hne => ?_
        have a1 := (e p.1).symm.trans (h.get (List.mem_cons_self ..))
        have a2 := (e q.1).trans (h'.get (List.mem_cons_self ..))
        have b1 := getL_mem a1
        have b2 := getL_mem a2
        rcases List.mem_cons.1 b1 with c1 | c1
        · exact hne (by rw [← c1])
        · rcases List.mem_cons.1 b2 with c2 | c2
          · exact hne (by rw [← c2])
          · have d1 := g1 _ c1
            have d2 := h1 _ c2
            rw [ltS_asym d1] at d2
            cases d2
      have hp2 : p.2 = q.2 := by
        have a1 := (h.get (List.mem_cons_self ..)).symm.trans (e p.1)
        rw [hpq, h'.get (List.mem_cons_self ..)] at a1
        exact Option.some.inj a1
      have hp : p = q := Prod.ext hpq hp2
      subst hp
      congr 1
      refine ih h2 g2 fun s => ?_
      have := e s
      unfold getL at this
      by_cases es : p.1 = s
      · rw [getL_none.2 fun x hx => ?_, getL_none.2 fun x hx => ?_]
        · exact fun k => ltS_ne (g1 x hx) (es.trans k.symm)
        · exact fun k => ltS_ne (h1 x hx) (es.trans k.symm)
      · simpa [es] using this

theorem putG_true (c : Chn) (l : List Pr) : putG c true l = l.filter (fun p => !decide (p.1 = c.1)) := by
  induction l with
  | nil => simp [putG]
  | cons p l ih =>
    unfold putG
    by_cases e : p.1 = c.1 <;> simp [e, ih]
theorem getL_strike (l : List Pr) (k s : ByteArray) : getL (l.filter (fun p => !decide (p.1 = k))) s = if s = k then none else getL l s := by
  induction l with
  | nil => simp [getL]
  | cons p l ih =>
    by_cases e : p.1 = k
    · rw [List.filter_cons_of_neg (by simp [e]), ih]
      by_cases es : s = k
      · simp [es]
      · rw [if_neg es, if_neg es, getL_cons, if_neg (fun h => es (h.symm.trans e))]
    · rw [List.filter_cons_of_pos (by simp [e])]
      rw [getL_cons, getL_cons, ih]
      by_cases es : p.1 = s
      · rw [if_pos es, if_pos es, if_neg (fun h => e (es.trans h))]
      · rw [if_neg es, if_neg es]
theorem getL_putF (c : Chn) (l : List Pr) (s : ByteArray) : getL (putG c false l) s = if s = c.1 then some (c.2.getD []) else getL l s := by
  induction l with
  | nil =>
    by_cases e : s = c.1
    · simp [putG, getL, e]
    · have : ¬ c.1 = s := fun h => e h.symm
      simp [putG, getL, e, this]
  | cons p l ih =>
    unfold putG
    cases hl : ltS p.1 c.1 with
    | true =>
      have hne := ltS_ne hl
      simp only [hne, Bool.not_true, Bool.and_false, Bool.or_false, if_false, Bool.false_eq_true, List.nil_append, List.singleton_append]
      rw [show getL (p :: putG c false l) s = if p.1 = s then some p.2 else getL (putG c false l) s from rfl, ih, show getL (p :: l) s = if p.1 = s then some p.2 else getL l s from rfl]
      by_cases es : p.1 = s
      · rw [if_pos es, if_pos es, if_neg (fun h => hne (es.trans h))]
      · rw [if_neg es, if_neg es]
    | false =>
      simp only [Bool.not_false, Bool.and_true, Bool.or_true, if_true, List.singleton_append, List.cons_append]
      rw [show ∀ t, getL ((c.1, c.2.getD []) :: t) s = if c.1 = s then some (c.2.getD []) else getL t s from fun _ => rfl]
      by_cases es : c.1 = s
      · simp [es]
      · have es' : ¬ s = c.1 := fun h => es h.symm
        rw [if_neg es, if_neg es', getL_append, putG_true, getL_strike, if_neg es']
        rw [show getL (p :: l) s = if p.1 = s then some p.2 else getL l s from rfl]
        by_cases e : p.1 = c.1
        · rw [if_pos e, if_neg (fun h => es' (h.symm.trans e))]; rfl
        · rw [if_neg e]
          rw [List.nil_append, getL_cons]
          by_cases ep : p.1 = s <;> simp [ep, getL_cons, show getL [] s = none from rfl]
theorem getL_putL (c : Chn) (l : List Pr) (s : ByteArray) : getL (putL c l) s = if s = c.1 then c.2 else getL l s := by
  unfold putL
  cases h : c.2 with
  | none => simp only [Option.isNone_none]; rw [putG_true, getL_strike]
  | some v => simp only [Option.isNone_some]; rw [getL_putF, h]; rfl

theorem mem_putF {c : Chn} {l : List Pr} {p : Pr} (h : p ∈ putG c false l) : p.1 = c.1 ∨ p ∈ l := by
  induction l with
  | nil => simp [putG] at h; exact .inl (by rw [h])
  | cons q l ih =>
    unfold putG at h
    cases hl : ltS q.1 c.1 with
    | true =>
      simp only [hl, Bool.not_true, Bool.and_false, Bool.or_false, if_false, Bool.false_eq_true, List.nil_append, List.mem_append] at h
      rcases h with h | h
      · split at h
        · cases h
        · exact .inr (by simp at h; simp [h])
      · rcases ih h with h | h
        · exact .inl h
        · exact .inr (List.mem_cons_of_mem _ h)
    | false =>
      simp only [hl, Bool.not_false, Bool.and_true, Bool.or_true, if_true, List.mem_append] at h
      rcases h with (h | h) | h
      · simp at h; exact .inl (by rw [h])
      · split at h
        · cases h
        · exact .inr (by simp at h; simp [h])
      · rw [putG_true] at h
        exact .inr (List.mem_cons_of_mem _ (List.mem_filter.1 h).1)
theorem Rise.putF {l : List Pr} (h : Rise l) (c : Chn) : Rise (putG c false l) := by
  induction l with
  | nil => simp [putG, Rise]
  | cons p l ih =>
    obtain ⟨h1, h2⟩ := List.pairwise_cons.1 h
    unfold putG
    cases hl : ltS p.1 c.1 with
    | true =>
      simp only [ltS_ne hl, Bool.not_true, Bool.and_false, Bool.or_false, if_false, Bool.false_eq_true, List.nil_append, List.singleton_append]
      refine List.pairwise_cons.2 ⟨fun q hq => ?_, ih h2⟩
      rcases mem_putF hq with e | hq
      · rw [e]; exact hl
      · exact h1 q hq
    | false =>
      simp only [Bool.not_false, Bool.and_true, Bool.or_true, if_true, List.singleton_append, List.cons_append]
      rw [putG_true]
      have hr : Rise (l.filter (fun p => !decide (p.1 = c.1))) := List.Pairwise.sublist List.filter_sublist h2
      by_cases e : p.1 = c.1
      · rw [if_pos e, List.nil_append]
        exact List.pairwise_cons.2 ⟨fun q hq => by rw [← e]; exact h1 q (List.mem_filter.1 hq).1, hr⟩
      · rw [if_neg e]
        have hc := ltS_tri hl e
        show Rise ((c.1, c.2.getD []) :: p :: l.filter (fun p => !decide (p.1 = c.1)))
        refine List.pairwise_cons.2 ⟨fun q hq => ?_, List.pairwise_cons.2 ⟨fun q hq => h1 q (List.mem_filter.1 hq).1, hr⟩⟩
        rcases List.mem_cons.1 hq with rfl | hq
        · exact hc
        · exact ltS_trans hc (h1 q (List.mem_filter.1 hq).1)
theorem Rise.put {l : List Pr} (h : Rise l) (c : Chn) : Rise (putL c l) := by
  unfold putL
  cases c.2 with
  | none => simp only [Option.isNone_none]; rw [putG_true]; exact List.Pairwise.sublist List.filter_sublist h
  | some v => simp only [Option.isNone_some]; exact h.putF c

/-! ### a branch's changes -/
/-- what a list of changes says of a key: nothing, gone, or a value -/
def getC : List Chn → ByteArray → Option (Option (List UInt8))
  | [], _ => none
  | c :: l, s => if c.1 = s then some c.2 else getC l s
/-- no key twice -/
def ApartC (l : List Chn) : Prop := l.Pairwise (fun p q => p.1 ≠ q.1)
/-- one more change, as the document's do has it -/
def doC (l : List Chn) (c : Chn) : List Chn := l.filter (fun x => !decide (x.1 = c.1)) ++ [c]
/-- the pairs as a branch sees them -/
def allM (l : List Pr) (cs : List Chn) : List Pr := cs.foldl (fun l c => putL c l) l

theorem getC_cons (c : Chn) (l : List Chn) (s : ByteArray) : getC (c :: l) s = if c.1 = s then some c.2 else getC l s := rfl
theorem ApartC.get {l : List Chn} (h : ApartC l) {c : Chn} (hc : c ∈ l) : getC l c.1 = some c.2 := by
  induction l with
  | nil => cases hc
  | cons d l ih =>
    obtain ⟨h1, h2⟩ := List.pairwise_cons.1 h
    rw [getC_cons]
    rcases List.mem_cons.1 hc with rfl | hc
    · simp
    · rw [if_neg (h1 c hc)]
      exact ih h2 hc
theorem ApartC.do {l : List Chn} (h : ApartC l) (c : Chn) : ApartC (doC l c) := by
  unfold doC
  refine List.pairwise_append.2 ⟨List.Pairwise.sublist List.filter_sublist h, by simp, fun a ha b hb => ?_⟩
  rw [List.mem_singleton.1 hb]
  simpa using (List.mem_filter.1 ha).2
theorem Rise.all {l : List Pr} (h : Rise l) (cs : List Chn) : Rise (allM l cs) := by
  induction cs generalizing l with
  | nil => exact h
  | cons c cs ih => exact ih (h.put c)
/-! ### pairs gathered in any order, then put in order; those of a prefix -/
theorem Rise.of_sorted {l : List Pr} (hs : l.Pairwise (fun p q => ltS q.1 p.1 = false)) (hd : l.Pairwise (fun p q => p.1 ≠ q.1)) : Rise l :=
  (hs.and hd).imp fun {p q} h => ltS_tri h.1 h.2.symm
theorem Rise.eq_of_mem {l l' : List Pr} (h : Rise l) (h' : Rise l') (e : ∀ p, p ∈ l ↔ p ∈ l') : l = l' := by
  refine h.ext h' fun s => ?_
  cases hs : getL l s with
  | some v => exact (h'.get ((e _).1 (getL_mem hs))).symm
  | none =>
    cases hs' : getL l' s with
    | none => rfl
    | some v => exact absurd (h.get ((e _).2 (getL_mem hs'))) (by rw [hs]; simp)
theorem Rise.filter {l : List Pr} (h : Rise l) (b : Pr → Bool) : Rise (l.filter b) := List.Pairwise.sublist List.filter_sublist h
theorem getL_filter (l : List Pr) (b : ByteArray → Bool) (s : ByteArray) : getL (l.filter (fun p => b p.1)) s = if b s = true then getL l s else none := by
  induction l with
  | nil => simp [getL]
  | cons p l ih =>
    by_cases e : b p.1 = true
    · rw [List.filter_cons_of_pos (by simpa using e), getL_cons, getL_cons, ih]
      by_cases es : p.1 = s
      · rw [if_pos es, if_pos es, if_pos (es ▸ e)]
      · rw [if_neg es, if_neg es]
    · rw [List.filter_cons_of_neg (by simpa using e), ih, getL_cons]
      by_cases es : p.1 = s
      · have : ¬ b s = true := es ▸ e
        rw [if_neg this, if_neg this]
      · rw [if_neg es]
theorem Rise.mem {l : List Pr} (h : Rise l) (p : Pr) : p ∈ l ↔ getL l p.1 = some p.2 := ⟨fun hp => h.get hp, fun hp => getL_mem hp⟩
theorem putG_length (c : Chn) (d : Bool) (l : List Pr) : (putG c d l).length ≤ l.length + 1 := by
  induction l generalizing d with
  | nil => cases d <;> simp [putG]
  | cons p l ih =>
    cases d with
    | true => rw [putG_true]; exact Nat.le_succ_of_le (List.length_filter_le _ _)
    | false =>
      unfold putG
      cases hl : ltS p.1 c.1 with
      | true =>
        have := ih false
        simp [ltS_ne hl]; omega
      | false =>
        have hf : (putG c true l).length ≤ l.length := by rw [putG_true]; exact List.length_filter_le _ _
        by_cases e : p.1 = c.1 <;> simp [e] <;> omega
end Go.Proofs.YtmphegeiclgjbaaGreatDoor
namespace Go.Proofs.YtmphegeiclgjbaaGreatDoor
set_option maxRecDepth 100000
open Go Go.RowKit
set_option linter.unusedVariables false

/-- the blocks that F names are maps -/
def AllMaps (w : World) (F : Nat → Prop) : Prop := ∀ k, F k → ∃ es c, w.heap[k]? = some (.map es c)

section
variable {w w' : World} {F : Nat → Prop} {B : Nat} {v : Value} {l : List UInt8}
theorem cell_map {p : Addr} {es : Array MapEntry} {c : Nat} (h : w.heap[p.block]? = some (.map es c)) : w.cell? p = none := by
  simp [World.cell?, h]
/-- bytes stay where maps alone have turned -/
theorem Rd.chg (h : Rd w B v l) (hc : Chg w w' F) (hF : AllMaps w F) (hB : B ≤ w.heap.size) : Rd w' B v l := by
  obtain ⟨A, c, hv, h1, h2, hp⟩ := h
  refine ⟨A, c, hv, h1, h2, fun h0 => ?_⟩
  obtain ⟨b, o, hA, hb, hcell⟩ := hp h0
  refine ⟨b, o, hA, hb, fun j hj => ?_⟩
  have h3 := hcell j hj
  have hn : ¬ F b := fun k => by
    obtain ⟨es, c, e⟩ := hF b k
    rw [cell_map (p := ⟨b, o + j, none⟩) e] at h3
    cases h3
  rw [cell_same (hc.block b (by omega) hn)]
  exact h3

/-- what an entry says: a value that reads as the bytes, or 'gone' -/
def EntryIs (w : World) (e : Value) : Option (List UInt8) → Prop
  | none => e = .agg #[.slice none 0 0, .bool true]
  | some l => ∃ sl, e = .agg #[sl, .bool false] ∧ Rd w w.heap.size sl l
theorem EntryIs.chg {e : Value} {x : Option (List UInt8)} (h : EntryIs w e x) (hc : Chg w w' F) (hF : AllMaps w F) : EntryIs w' e x := by
  cases x with
  | none => exact h
  | some l =>
    obtain ⟨sl, h1, h2⟩ := h
    exact ⟨sl, h1, (h2.chg hc hF (Nat.le_refl _)).more hc.size⟩
/-- what a layer's map says: nothing of a key, or an entry -/
def SaysF (w : World) (g : ByteArray → Option Value) (f : ByteArray → Option (Option (List UInt8))) : Prop :=
  ∀ s : ByteArray, s.size ≤ maxLen → (g s = none ∧ f s = none) ∨ ∃ e x, g s = some e ∧ f s = some x ∧ EntryIs w e x
theorem SaysF.chg {g : ByteArray → Option Value} {f : ByteArray → Option (Option (List UInt8))} (h : SaysF w g f) (hc : Chg w w' F) (hF : AllMaps w F) : SaysF w' g f := by
  intro s hs
  rcases h s hs with h | ⟨e, x, h1, h2, h3⟩
  · exact .inl h
  · exact .inr ⟨e, x, h1, h2, h3.chg hc hF⟩
theorem SaysF.put {g : ByteArray → Option Value} {f : ByteArray → Option (Option (List UInt8))} (h : SaysF w g f) (key : ByteArray) {e : Value} {x : Option (List UInt8)} (he : EntryIs w e x) :
    SaysF w (fun s => if s = key then some e else g s) (fun s => if s = key then some x else f s) := by
  intro s hs
  by_cases k : s = key
  · exact .inr ⟨e, x, by simp [k], by simp [k], he⟩
  · simpa [k] using h s hs
theorem SaysF.del {g : ByteArray → Option Value} {f : ByteArray → Option (Option (List UInt8))} (h : SaysF w g f) (key : ByteArray) :
    SaysF w (fun s => if s = key then none else g s) (fun s => if s = key then none else f s) := by
  intro s hs
  by_cases k : s = key
  · exact .inl (by simp [k])
  · simpa [k] using h s hs
end
/-- maps alone have turned -/
def Kept (w w' : World) : Prop := ∃ F, Chg w w' F ∧ AllMaps w F
section
variable {w w' w1 w2 : World}
theorem Kept.cell (h : Kept w w') {p : Addr} {v : Value} (e : w.cell? p = some v) : w'.cell? p = some v := by
  obtain ⟨F, h1, h2⟩ := h
  have hn : ¬ F p.block := fun k => by
    obtain ⟨es, c, e'⟩ := h2 _ k
    rw [cell_map e'] at e; cases e
  rw [cell_same (h1.block p.block (World.block_lt_of_cell? w p e) hn)]
  exact e
theorem Kept.rd {v : Value} {l : List UInt8} (h : Kept w w') (hr : Rd w w.heap.size v l) : Rd w' w'.heap.size v l := by
  obtain ⟨F, h1, h2⟩ := h
  exact (hr.chg h1 h2 (Nat.le_refl _)).more h1.size
theorem Kept.refl (w : World) : Kept w w := ⟨fun _ => False, Chg.refl _ _, fun _ h => h.elim⟩
theorem Kept.drew (w : World) : Kept w w.drew := ⟨fun _ => False, Chg.drew _ _, fun _ h => h.elim⟩
end
end Go.Proofs.YtmphegeiclgjbaaGreatDoor
namespace Go.Proofs.YtmphegeiclgjbaaGreatDoor
set_option maxRecDepth 100000

/-- four numbers of 64 bits, the lowest first -/
structure U4 where
  a : Nat
  b : Nat
  c : Nat
  d : Nat

namespace U4
def ok (x : U4) : Prop := x.a < 18446744073709551616 ∧ x.b < 18446744073709551616 ∧ x.c < 18446744073709551616 ∧ x.d < 18446744073709551616
/-- the number that they are -/
def nat (x : U4) : Nat := x.a + 18446744073709551616 * x.b + 340282366920938463463374607431768211456 * x.c + 6277101735386680763835789423207666416102355444464034512896 * x.d
def zero : U4 := ⟨0, 0, 0, 0⟩
end U4
/-- the first number that doesn't fit -/
def top : Nat := 115792089237316195423570985008687907853269984665640564039457584007913129639936
def ofN (n : Nat) : U4 := ⟨n % 18446744073709551616, n / 18446744073709551616 % 18446744073709551616, n / 340282366920938463463374607431768211456 % 18446744073709551616, n / 6277101735386680763835789423207666416102355444464034512896 % 18446744073709551616⟩

/-- adding: what is there and what is carried behind k steps -/
def addSt (x y : U4) : Nat → U4 × Nat
  | 0 => (⟨0, 0, 0, 0⟩, 0)
  | 1 => (⟨(x.a + y.a + 0) % 18446744073709551616, 0, 0, 0⟩, (x.a + y.a + 0) / 18446744073709551616)
  | 2 => (⟨(addSt x y 1).1.a, (x.b + y.b + (addSt x y 1).2) % 18446744073709551616, 0, 0⟩, (x.b + y.b + (addSt x y 1).2) / 18446744073709551616)
  | 3 => (⟨(addSt x y 2).1.a, (addSt x y 2).1.b, (x.c + y.c + (addSt x y 2).2) % 18446744073709551616, 0⟩, (x.c + y.c + (addSt x y 2).2) / 18446744073709551616)
  | 4 => (⟨(addSt x y 3).1.a, (addSt x y 3).1.b, (addSt x y 3).1.c, (x.d + y.d + (addSt x y 3).2) % 18446744073709551616⟩, (x.d + y.d + (addSt x y 3).2) / 18446744073709551616)
  | _ => (⟨0, 0, 0, 0⟩, 0)
/-- the sum, and whether it fits -/
def addU (x y : U4) : U4 × Bool := if x.nat + y.nat < top then (ofN (x.nat + y.nat), true) else (U4.zero, false)
/-- taking away -/
def subSt (x y : U4) : Nat → U4 × Nat
  | 0 => (⟨0, 0, 0, 0⟩, 0)
  | 1 => (⟨(x.a + 18446744073709551616 - y.a - 0) % 18446744073709551616, 0, 0, 0⟩, if x.a < y.a + 0 then 1 else 0)
  | 2 => (⟨(subSt x y 1).1.a, (x.b + 18446744073709551616 - y.b - (subSt x y 1).2) % 18446744073709551616, 0, 0⟩, if x.b < y.b + (subSt x y 1).2 then 1 else 0)
  | 3 => (⟨(subSt x y 2).1.a, (subSt x y 2).1.b, (x.c + 18446744073709551616 - y.c - (subSt x y 2).2) % 18446744073709551616, 0⟩, if x.c < y.c + (subSt x y 2).2 then 1 else 0)
  | 4 => (⟨(subSt x y 3).1.a, (subSt x y 3).1.b, (subSt x y 3).1.c, (x.d + 18446744073709551616 - y.d - (subSt x y 3).2) % 18446744073709551616⟩, if x.d < y.d + (subSt x y 3).2 then 1 else 0)
  | _ => (⟨0, 0, 0, 0⟩, 0)
def subU (x y : U4) : U4 × Bool := if y.nat ≤ x.nat then (ofN (x.nat - y.nat), true) else (U4.zero, false)
/-- times a number of 64 bits -/
def mulSt (x : U4) (k : Nat) : Nat → U4 × Nat
  | 0 => (⟨0, 0, 0, 0⟩, 0)
  | 1 => (⟨(x.a * k + 0) % 18446744073709551616, 0, 0, 0⟩, (x.a * k + 0) / 18446744073709551616)
  | 2 => (⟨(mulSt x k 1).1.a, (x.b * k + (mulSt x k 1).2) % 18446744073709551616, 0, 0⟩, (x.b * k + (mulSt x k 1).2) / 18446744073709551616)
  | 3 => (⟨(mulSt x k 2).1.a, (mulSt x k 2).1.b, (x.c * k + (mulSt x k 2).2) % 18446744073709551616, 0⟩, (x.c * k + (mulSt x k 2).2) / 18446744073709551616)
  | 4 => (⟨(mulSt x k 3).1.a, (mulSt x k 3).1.b, (mulSt x k 3).1.c, (x.d * k + (mulSt x k 3).2) % 18446744073709551616⟩, (x.d * k + (mulSt x k 3).2) / 18446744073709551616)
  | _ => (⟨0, 0, 0, 0⟩, 0)
def mulU (x : U4) (k : Nat) : U4 × Bool := if x.nat * k < top then (ofN (x.nat * k), true) else (U4.zero, false)
end Go.Proofs.YtmphegeiclgjbaaGreatDoor
namespace Go.Proofs.YtmphegeiclgjbaaGreatDoor
set_option maxRecDepth 100000

def byL (n : Nat) : Nat → List Nat
  | 0 => []
  | k + 1 => byL n k ++ [n / 256 ^ k % 256]
def valL : List Nat → Nat
  | [] => 0
  | d :: r => d + 256 * valL r
theorem byL_length (n k : Nat) : (byL n k).length = k := by induction k <;> simp [byL, *]
theorem byL_lt (n k : Nat) : ∀ d ∈ byL n k, d < 256 := by
  induction k with
  | zero => intro d hd; simp [byL] at hd
  | succ k ih =>
    intro d hd
    rw [byL, List.mem_append] at hd
    rcases hd with hd | hd
    · exact ih d hd
    · simp only [List.mem_cons, List.not_mem_nil, or_false] at hd; subst hd; exact Nat.mod_lt _ (by decide)
theorem valL_snoc (l : List Nat) (d : Nat) : valL (l ++ [d]) = valL l + 256 ^ l.length * d := by
  induction l with
  | nil => simp [valL]
  | cons x r ih =>
    simp only [List.cons_append, valL, ih, List.length_cons, Nat.pow_succ, Nat.mul_add]
    rw [show 256 * (256 ^ r.length * d) = 256 ^ r.length * 256 * d by rw [← Nat.mul_assoc, Nat.mul_comm 256]]
    omega
theorem valL_byL (n k : Nat) : valL (byL n k) = n % 256 ^ k := by
  induction k with
  | zero => simp [byL, valL, Nat.mod_one]
  | succ k ih => rw [byL, valL_snoc, ih, byL_length, Nat.pow_succ, Nat.mod_mul]
theorem valL_lt (l : List Nat) (h : ∀ d ∈ l, d < 256) : valL l < 256 ^ l.length := by
  induction l with
  | nil => simp [valL]
  | cons x r ih =>
    have h1 := ih fun d hd => h d (List.mem_cons_of_mem _ hd)
    have h2 := h x (List.mem_cons_self ..)
    simp only [valL, List.length_cons, Nat.pow_succ]
    omega
theorem valL_inj : ∀ (l m : List Nat), l.length = m.length → (∀ d ∈ l, d < 256) → (∀ d ∈ m, d < 256) → valL l = valL m → l = m
  | [], [], _, _, _, _ => rfl
  | [], y :: s, h, _, _, _ => by simp at h
  | x :: r, [], h, _, _, _ => by simp at h
  | x :: r, y :: s, h, hl, hm, hv => by
    have h1 := hl x (List.mem_cons_self ..)
    have h2 := hm y (List.mem_cons_self ..)
    simp only [valL] at hv
    have hxy : x = y := by omega
    subst hxy
    rw [valL_inj r s (by simpa using h) (fun d hd => hl d (List.mem_cons_of_mem _ hd)) (fun d hd => hm d (List.mem_cons_of_mem _ hd)) (by omega)]
theorem byL_valL (l : List Nat) (h : ∀ d ∈ l, d < 256) : byL (valL l) l.length = l :=
  valL_inj _ _ (byL_length _ _) (byL_lt _ _) h (by rw [valL_byL, Nat.mod_eq_of_lt (valL_lt l h)])
def U4.at' (x : U4) : Nat → Nat
  | 0 => x.a
  | 1 => x.b
  | 2 => x.c
  | _ => x.d
end Go.Proofs.YtmphegeiclgjbaaGreatDoor
namespace Go.Proofs.YtmphegeiclgjbaaGreatDoor
set_option maxRecDepth 100000

theorem be_byL (n : Nat) : ∀ k, be n k = ((byL n k).map UInt8.ofNat).reverse
  | 0 => rfl
  | k + 1 => by
    have e : UInt8.ofNat (n / 2 ^ (8 * k)) = UInt8.ofNat (n / 256 ^ k % 256) := by
      rw [show 2 ^ (8 * k) = 256 ^ k by rw [Nat.pow_mul]]
      apply UInt8.toNat_inj.1
      simp
    rw [be, byL, List.map_append, List.reverse_append, be_byL n k, e]
    rfl
/-- the number that bytes are, the highest first -/
def valB (b : List UInt8) : Nat := valL (b.reverse.map UInt8.toNat)
theorem be_valB (b : List UInt8) : be (valB b) b.length = b := by
  have h := byL_valL (b.reverse.map UInt8.toNat) (fun d hd => by
    simp only [List.mem_map] at hd
    obtain ⟨x, -, rfl⟩ := hd
    exact x.toNat_lt)
  rw [List.length_map, List.length_reverse] at h
  rw [be_byL, valB, h, List.map_map]
  have : (b.reverse).map (UInt8.ofNat ∘ UInt8.toNat) = b.reverse := by
    rw [List.map_congr_left (g := id)]
    · simp
    · intro d _; simp
  rw [this, List.reverse_reverse]
end Go.Proofs.YtmphegeiclgjbaaGreatDoor
namespace Go.Proofs.YtmphegeiclgjbaaGreatDoor
set_option maxRecDepth 100000
open Go Go.RowKit

/-- what 32 bytes are as a number; anything else is refused -/
def fromU (l : List UInt8) : U4 × Int := if l.length = 32 then (ofN (valB l), 0) else (U4.zero, 21)
end Go.Proofs.YtmphegeiclgjbaaGreatDoor
namespace Go.Proofs.YtmphegeiclgjbaaGreatDoor
set_option maxRecDepth 100000
open Go.RowKit

def U4.cells (x : U4) : Array Value := #[.int .u64 (x.a : Int), .int .u64 (x.b : Int), .int .u64 (x.c : Int), .int .u64 (x.d : Int)]
def U4.val (x : U4) : Value := .agg x.cells

def LBlk (w : World) (g : Nat) (cs : Array Value) : Prop := w.heap[g]? = some (.cells cs 31 (0, 0))

/-- the number at a place -/
def U4.at (x : U4) : Nat → Nat
  | 0 => x.a
  | 1 => x.b
  | 2 => x.c
  | _ => x.d
theorem LBlk.cell {w : World} {g : Nat} {cs : Array Value} (h : LBlk w g cs) (i : Nat) : w.cell? ⟨g, i, none⟩ = cs[i]? := blk_cell h i
theorem LBlk.free {w : World} {g : Nat} {cs : Array Value} (h : LBlk w g cs) (i : Nat) : w.frozen? ⟨g, i, none⟩ = false := blk_free h i
theorem LBlk.new (w : World) (cs : Array Value) : LBlk (w.alloc (.cells cs 31)) w.heap.size cs := heap_alloc_new w _
theorem LBlk.lt {w : World} {g : Nat} {cs : Array Value} (h : LBlk w g cs) : g < w.heap.size := blk_lt h
theorem LBlk.alloc {w : World} {g : Nat} {cs : Array Value} (h : LBlk w g cs) (o : Obj) : LBlk (w.alloc o) g cs := (Below.heap_alloc w o g h.lt).trans h
theorem LBlk.drew {w : World} {g : Nat} {cs : Array Value} (h : LBlk w g cs) : LBlk w.drew g cs := h
theorem LBlk.far {w : World} {g g' : Nat} {cs : Array Value} (h : LBlk w g cs) (hne : g ≠ g') (i : Nat) (u : Value) : LBlk (w.setCell ⟨g', i, none⟩ u) g cs := (Below.heap_setCell w ⟨g', i, none⟩ u g hne).trans h
theorem LBlk.below {w w' : World} {g B : Nat} {cs : Array Value} (h : LBlk w g cs) (hb : Below B w w') (hg : g < B) : LBlk w' g cs := (hb.block g hg).trans h
theorem four (w : World) (X Y Z S : Array Value) : LBlk ((((w.alloc (.cells X 31)).alloc (.cells Y 31)).alloc (.cells Z 31)).alloc (.cells S 31)) w.heap.size X ∧
    LBlk ((((w.alloc (.cells X 31)).alloc (.cells Y 31)).alloc (.cells Z 31)).alloc (.cells S 31)) (w.heap.size + 1) Y ∧
    LBlk ((((w.alloc (.cells X 31)).alloc (.cells Y 31)).alloc (.cells Z 31)).alloc (.cells S 31)) (w.heap.size + 1 + 1) Z ∧
    LBlk ((((w.alloc (.cells X 31)).alloc (.cells Y 31)).alloc (.cells Z 31)).alloc (.cells S 31)) (w.heap.size + 1 + 1 + 1) S ∧
    Below w.heap.size w ((((w.alloc (.cells X 31)).alloc (.cells Y 31)).alloc (.cells Z 31)).alloc (.cells S 31)) := by
  refine ⟨(((LBlk.new w X).alloc _).alloc _).alloc _, ?_, ?_, ?_, ((((Below.refl _ _).alloc (Nat.le_refl _) _).alloc (by simp) _).alloc (by simp; omega) _).alloc (by simp; omega) _⟩
  · have := ((LBlk.new (w.alloc (.cells X 31)) Y).alloc (.cells Z 31)).alloc (.cells S 31)
    simpa using this
  · have := (LBlk.new ((w.alloc (.cells X 31)).alloc (.cells Y 31)) Z).alloc (.cells S 31)
    simpa using this
  · have := LBlk.new (((w.alloc (.cells X 31)).alloc (.cells Y 31)).alloc (.cells Z 31)) S
    simpa using this
/-- all four cells of a block -/
theorem LBlk.all {w : World} {g : Nat} {s : U4} (h : LBlk w g s.cells) : w.cell? ⟨g, 0, none⟩ = some (.int .u64 (s.a : Int)) ∧ w.cell? ⟨g, 1, none⟩ = some (.int .u64 (s.b : Int)) ∧ w.cell? ⟨g, 2, none⟩ = some (.int .u64 (s.c : Int)) ∧ w.cell? ⟨g, 3, none⟩ = some (.int .u64 (s.d : Int)) :=
  ⟨h.cell 0, h.cell 1, h.cell 2, h.cell 3⟩

end Go.Proofs.YtmphegeiclgjbaaGreatDoor
namespace Go.Proofs.YtmphegeiclgjbaaGreatDoor
set_option maxRecDepth 100000
open Go.RowKit

end Go.Proofs.YtmphegeiclgjbaaGreatDoor
namespace Go.Proofs.YtmphegeiclgjbaaGreatDoor
set_option maxRecDepth 100000
open Go Go.RowKit

/-- are they the same? -/
def eqB (x y : U4) : Bool := decide (x.a = y.a) && (decide (x.b = y.b) && (decide (x.c = y.c) && decide (x.d = y.d)))
end Go.Proofs.YtmphegeiclgjbaaGreatDoor
namespace Go.Proofs.YtmphegeiclgjbaaGreatDoor
set_option maxRecDepth 100000
open Go Go.RowKit

/-- what Cmp answers -/
def cmpN (m n : Nat) : Int := if m = n then 0 else if n < m then 1 else -1

end Go.Proofs.YtmphegeiclgjbaaGreatDoor
namespace Go.Proofs.YtmphegeiclgjbaaGreatDoor
set_option maxRecDepth 100000
open Go

def smB (c : UInt8) : Bool := decide (97 ≤ c.toNat ∧ c.toNat ≤ 122)
def dgB (c : UInt8) : Bool := decide (48 ≤ c.toNat ∧ c.toNat ≤ 57)
def okB (c : UInt8) : Bool := smB c || dgB c || decide (c.toNat = 45) || decide (c.toNat = 46)
/-- is it an identifier? -/
def identL : List UInt8 → Bool
  | [] => false
  | c :: r => decide (r.length ≤ 31) && smB c && r.all okB
/-- what stands ahead of each hop -/
def trL : List UInt8 := [116, 114, 97, 110, 115, 102, 101, 114, 47]
def splitL (l : List UInt8) : Option (List UInt8 × List UInt8) :=
  if Lib.hasPrefix l trL = true then
    if Lib.indexByte (l.drop 9) 47 = -1 then none
    else if identL ((l.drop 9).take (Lib.indexByte (l.drop 9) 47).toNat) = true then
      some ((l.drop 9).take (Lib.indexByte (l.drop 9) 47).toNat, (l.drop 9).drop ((Lib.indexByte (l.drop 9) 47).toNat + 1))
    else none
  else none

/-- the base, and how many hops stand ahead of it -/
def baseN : Nat → List UInt8 → List UInt8 × Nat
  | 0, l => (l, 0)
  | n + 1, l => match splitL l with
    | none => (l, 0)
    | some (_, r) => ((baseN n r).1, (baseN n r).2 + 1)
def baseL (l : List UInt8) : List UInt8 := (baseN l.length l).1
def hopsL (l : List UInt8) : Nat := (baseN l.length l).2
def denomL (l : List UInt8) : Bool := decide (l.length ≤ 160) && identL (baseL l)

/-- one hop more -/
def overL (hop s : List UInt8) : List UInt8 × Int :=
  if identL hop = true then
    if denomL s = true ∧ hop.length + s.length + 10 ≤ 160 then (trL ++ hop ++ 47 :: s, 0) else ([], 41)
  else ([], 40)
end Go.Proofs.YtmphegeiclgjbaaGreatDoor
namespace Go.Proofs.YtmphegeiclgjbaaGreatDoor
set_option maxRecDepth 100000
open Go Go.RowKit

theorem small_any (c : UInt8) (w : World) : Calls Tryz.prog 97 #[.int .u8 (c.toNat : Int)] w fun e w' => e = .returned (.bool (smB c)) ∧ w = w' := by
  have hc := c.toNat_lt
  unfold smB
  by_cases h1 : 97 ≤ c.toNat
  · by_cases h2 : c.toNat ≤ 122
    · rw [decide_eq_true ⟨h1, h2⟩]
      have i1 : (97 : Int) ≤ (c.toNat : Int) := by omega
      have i2 : (c.toNat : Int) ≤ 122 := by omega
      go_enter Tryz.func97, Tryz.ntmps97
      go_wp2
      go_ret
      exact ⟨rfl, rfl⟩
    · rw [decide_eq_false (fun h => h2 h.2)]
      have i1 : (97 : Int) ≤ (c.toNat : Int) := by omega
      have i2 : ¬ (c.toNat : Int) ≤ 122 := by omega
      go_enter Tryz.func97, Tryz.ntmps97
      go_wp2
      go_ret
      exact ⟨rfl, rfl⟩
  · rw [decide_eq_false (fun h => h1 h.1)]
    have i1 : ¬ (97 : Int) ≤ (c.toNat : Int) := by omega
    go_enter Tryz.func97, Tryz.ntmps97
    go_wp2
    go_ret
    exact ⟨rfl, rfl⟩
theorem digit_any (c : UInt8) (w : World) : Calls Tryz.prog 98 #[.int .u8 (c.toNat : Int)] w fun e w' => e = .returned (.bool (dgB c)) ∧ w = w' := by
  have hc := c.toNat_lt
  unfold dgB
  by_cases h1 : 48 ≤ c.toNat
  · by_cases h2 : c.toNat ≤ 57
    · rw [decide_eq_true ⟨h1, h2⟩]
      have i1 : (48 : Int) ≤ (c.toNat : Int) := by omega
      have i2 : (c.toNat : Int) ≤ 57 := by omega
      go_enter Tryz.func98, Tryz.ntmps98
      go_wp2
      go_ret
      exact ⟨rfl, rfl⟩
    · rw [decide_eq_false (fun h => h2 h.2)]
      have i1 : (48 : Int) ≤ (c.toNat : Int) := by omega
      have i2 : ¬ (c.toNat : Int) ≤ 57 := by omega
      go_enter Tryz.func98, Tryz.ntmps98
      go_wp2
      go_ret
      exact ⟨rfl, rfl⟩
  · rw [decide_eq_false (fun h => h1 h.1)]
    have i1 : ¬ (48 : Int) ≤ (c.toNat : Int) := by omega
    go_enter Tryz.func98, Tryz.ntmps98
    go_wp2
    go_ret
    exact ⟨rfl, rfl⟩
end Go.Proofs.YtmphegeiclgjbaaGreatDoor
namespace Go.Proofs.YtmphegeiclgjbaaGreatDoor
set_option maxRecDepth 100000
open Go Go.RowKit

theorem identL_of (l : List UInt8) (h0 : 0 < l.length) (h32 : l.length ≤ 32) (hs : smB (l.getD 0 0) = true) : identL l = (l.drop 1).all okB := by
  cases l with
  | nil => simp at h0
  | cons c r =>
    simp only [List.length_cons] at h32
    simp only [List.getD_cons_zero] at hs
    simp only [identL, hs, List.drop_one, List.tail_cons, Bool.and_true]
    rw [decide_eq_true (by omega)]
    rfl
theorem identL_no (l : List UInt8) (h : l.length = 0 ∨ 32 < l.length ∨ smB (l.getD 0 0) = false) : identL l = false := by
  cases l with
  | nil => rfl
  | cons c r =>
    simp only [List.length_cons, List.getD_cons_zero] at h
    show (decide (r.length ≤ 31) && smB c && r.all okB) = false
    rcases h with h | h | h
    · omega
    · rw [decide_eq_false (by omega)]; rfl
    · rw [h]; simp
theorem data_get (s : ByteArray) (k : Nat) (h : k < s.size) : s.data.toList.getD k 0 = s[k] := by
  have hl : k < s.data.toList.length := by have := Lib.size_eq s; omega
  rw [List.getD_eq_getElem?_getD, List.getElem?_eq_getElem hl]; rfl
theorem all_more (l : List UInt8) (k : Nat) (h1 : 1 ≤ k) (h : k < l.length) : ((l.take (k + 1)).drop 1).all okB = (((l.take k).drop 1).all okB && okB (l.getD k 0)) := by
  have e : l.getD k 0 = l[k] := by rw [List.getD_eq_getElem?_getD, List.getElem?_eq_getElem h]; rfl
  rw [List.take_succ_eq_append_getElem h, List.drop_append_of_le_length (by rw [List.length_take]; omega), List.all_append, e]
  simp
theorem all_stop (l : List UInt8) (k : Nat) (h1 : 1 ≤ k) (h : k < l.length) (hn : okB (l.getD k 0) = false) : (l.drop 1).all okB = false := by
  have e : l.getD k 0 = l[k] := by rw [List.getD_eq_getElem?_getD, List.getElem?_eq_getElem h]; rfl
  rw [List.all_eq_false]
  refine ⟨l[k], ?_, by rw [← e, hn]; simp⟩
  rw [List.mem_iff_getElem?]
  exact ⟨k - 1, by rw [List.getElem?_drop, show 1 + (k - 1) = k by omega, List.getElem?_eq_getElem h]⟩

set_option maxHeartbeats 1000000 in
theorem ident_any (s : ByteArray) (w : World) (hs : s.size ≤ maxLen) : Calls Tryz.prog 49 #[.string s] w fun e w' => e = .returned (.bool (identL s.data.toList)) ∧ w = w' := by
  unfold maxLen at hs
  have hsz := Lib.size_eq s
  by_cases h0 : s.size = 0
  · have hl : s.data.toList = [] := List.eq_nil_of_length_eq_zero (by omega)
    have hl2 : s.toList = [] := by rw [Lib.toList_data]; exact hl
    rw [identL_no s.data.toList (.inl (by omega))]
    have H0 := Lib.hid h0
    clear h0 hsz
    go_enter Tryz.func49, Tryz.ntmps49
    go_wp2_with fail
    go_ret
    exact ⟨rfl, rfl⟩
  · have hne : ¬ s.toList = [] := by
      intro e
      rw [Lib.toList_data] at e
      rw [e] at hsz
      exact h0 hsz
    have hne2 : (!s.toList.isEmpty) = true := by
      cases h : s.toList with
      | nil => exact absurd h hne
      | cons a r => rfl
    have hne3 : (s.toList == []) = false := by simpa using hne
    by_cases h32 : s.size ≤ 32
    · have hpos : 0 < s.size := Nat.pos_of_ne_zero h0
      have g0 := data_get s 0 hpos
      cases hsm : smB s[0] with
      | false =>
        rw [identL_no s.data.toList (.inr (.inr (by rw [g0]; exact hsm)))]
        have H1 := Lib.hid g0
        have H2 := Lib.hid hsz
        clear g0 hsz
        go_enter Tryz.func49, Tryz.ntmps49
        go_wp2_with (go_at_call 97; refine (small_any _ _).mono ?_; rintro e w' ⟨rfl, rfl⟩)
        go_ret
        exact ⟨rfl, rfl⟩
      | true =>
        rw [identL_of s.data.toList (by omega) (by omega) (by rw [g0]; exact hsm)]
        have H1 := Lib.hid g0
        have H2 := Lib.hid hsz
        clear g0 hsz
        go_enter Tryz.func49, Tryz.ntmps49
        go_wp2_with (go_at_call 97; refine (small_any _ _).mono ?_; rintro e w' ⟨rfl, rfl⟩)
        clear hne hne2 hne3 hsm
        go_loop [3] (fun i => ∃ k : Nat, 1 ≤ k ∧ k ≤ s.size ∧ i = .int .i64 k ∧ ((s.data.toList.take k).drop 1).all okB = true) (fun i => s.size - (intOf i).toNat)
        case atStart => exact ⟨1, by omega, by omega, rfl, by rw [List.drop_of_length_le (by rw [List.length_take]; omega)]; rfl⟩
        case round =>
          obtain ⟨k, hk1, hk, rfl, hall⟩ := hrel
          have HA := Lib.hid hall
          clear hall
          by_cases hlt : k < s.size
          · have HG := Lib.hid (data_get s k hlt)
            have HM := Lib.hid (all_more s.data.toList k hk1 (by have := H2.out; omega))
            cases e1 : smB s[k] with
            | true =>
              go_wp2_with (first | (go_at_call 97; refine (small_any _ _).mono ?_; rintro e w' ⟨rfl, rfl⟩) | (go_at_call 98; refine (digit_any _ _).mono ?_; rintro e w' ⟨rfl, rfl⟩))
              go_round
              case rel => exact ⟨k + 1, by omega, by omega, by go_num, by rw [HM.out, HA.out, HG.out]; unfold okB; rw [e1]; rfl⟩
              case measure => simp [intOf]; omega
            | false =>
              cases e2 : dgB s[k] with
              | true =>
                go_wp2_with (first | (go_at_call 97; refine (small_any _ _).mono ?_; rintro e w' ⟨rfl, rfl⟩) | (go_at_call 98; refine (digit_any _ _).mono ?_; rintro e w' ⟨rfl, rfl⟩))
                go_round
                case rel => exact ⟨k + 1, by omega, by omega, by go_num, by rw [HM.out, HA.out, HG.out]; unfold okB; rw [e2]; cases smB s[k] <;> rfl⟩
                case measure => simp [intOf]; omega
              | false =>
                by_cases c45 : s[k].toNat = 45
                · have b1 : ((s[k].toNat : Int) == 45) = true := by rw [c45]; rfl
                  have b2 : ((s[k].toNat : Int) != 45) = false := by rw [c45]; rfl
                  have HC := Lib.hid c45
                  clear c45
                  go_wp2_with (first | (go_at_call 97; refine (small_any _ _).mono ?_; rintro e w' ⟨rfl, rfl⟩) | (go_at_call 98; refine (digit_any _ _).mono ?_; rintro e w' ⟨rfl, rfl⟩))
                  go_round
                  case rel => exact ⟨k + 1, by omega, by omega, by go_num, by rw [HM.out, HA.out, HG.out]; unfold okB; rw [HC.out]; cases smB s[k] <;> cases dgB s[k] <;> rfl⟩
                  case measure => simp [intOf]; omega
                · have b1 : ((s[k].toNat : Int) == 45) = false := by rw [beq_eq_false_iff_ne]; omega
                  have b2 : ((s[k].toNat : Int) != 45) = true := by rw [bne_iff_ne]; omega
                  by_cases c46 : s[k].toNat = 46
                  · have b3 : ((s[k].toNat : Int) == 46) = true := by rw [c46]; rfl
                    have b4 : ((s[k].toNat : Int) != 46) = false := by rw [c46]; rfl
                    have HC := Lib.hid c46
                    clear c46
                    go_wp2_with (first | (go_at_call 97; refine (small_any _ _).mono ?_; rintro e w' ⟨rfl, rfl⟩) | (go_at_call 98; refine (digit_any _ _).mono ?_; rintro e w' ⟨rfl, rfl⟩))
                    go_round
                    case rel => exact ⟨k + 1, by omega, by omega, by go_num, by rw [HM.out, HA.out, HG.out]; unfold okB; rw [HC.out]; cases smB s[k] <;> cases dgB s[k] <;> rfl⟩
                    case measure => simp [intOf]; omega
                  · have b3 : ((s[k].toNat : Int) == 46) = false := by rw [beq_eq_false_iff_ne]; omega
                    have b4 : ((s[k].toNat : Int) != 46) = true := by rw [bne_iff_ne]; omega
                    have HS := Lib.hid (all_stop s.data.toList k hk1 (by have := H2.out; omega) (by rw [HG.out]; unfold okB; rw [e1, e2, decide_eq_false c45, decide_eq_false c46]; rfl))
                    clear c45 c46
                    go_wp2_with (first | (go_at_call 97; refine (small_any _ _).mono ?_; rintro e w' ⟨rfl, rfl⟩) | (go_at_call 98; refine (digit_any _ _).mono ?_; rintro e w' ⟨rfl, rfl⟩))
                    go_ret
                    refine ⟨?_, rfl⟩
                    rw [HS.out]
                    rfl
          · have hk2 : k = s.size := by omega
            have HK := Lib.hid hk2
            clear hk2
            go_wp2
            go_ret
            refine ⟨?_, rfl⟩
            have := HA.out
            rw [List.take_of_length_le (by have := H2.out; have := HK.out; omega)] at this
            rw [List.drop_one] at this
            rw [this]
            rfl
    · rw [identL_no s.data.toList (.inr (.inl (by omega)))]
      have H2 := Lib.hid hsz
      clear hsz
      go_enter Tryz.func49, Tryz.ntmps49
      go_wp2_with fail
      go_ret
      exact ⟨rfl, rfl⟩
end Go.Proofs.YtmphegeiclgjbaaGreatDoor
namespace Go.Proofs.YtmphegeiclgjbaaGreatDoor
set_option maxRecDepth 100000
open Go Go.RowKit

/-- what Cut hands back at a slash -/
def cutL (l : List UInt8) : List UInt8 × List UInt8 × Bool :=
  if Lib.indexByte l 47 = -1 then (l, [], false) else (l.take (Lib.indexByte l 47).toNat, l.drop ((Lib.indexByte l 47).toNat + 1), true)

/-- what split hands back -/
def splitV (l : List UInt8) : Value := match splitL l with
  | some (h, r) => .tuple #[.string ⟨h.toArray⟩, .string ⟨r.toArray⟩, .bool true]
  | none => .tuple #[.string ByteArray.empty, .string ByteArray.empty, .bool false]
end Go.Proofs.YtmphegeiclgjbaaGreatDoor
namespace Go.Proofs.YtmphegeiclgjbaaGreatDoor
set_option maxRecDepth 100000
open Go Go.RowKit

/-- the base is an identifier -/
def endsB (l : List UInt8) : Bool := identL (baseL l)

end Go.Proofs.YtmphegeiclgjbaaGreatDoor
namespace Go.Proofs.YtmphegeiclgjbaaGreatDoor
set_option maxRecDepth 100000
open Go
set_option linter.unusedVariables false

def balP : ByteArray := ⟨#[98, 97, 108, 47]⟩
def supP : ByteArray := ⟨#[115, 117, 112, 47]⟩
def slB : ByteArray := ⟨#[47]⟩
def kBal (a d : ByteArray) : ByteArray := ((balP ++ a) ++ slB) ++ d
def kSup (d : ByteArray) : ByteArray := supP ++ d
def identB (s : ByteArray) : Bool := identL s.data.toList
def denomB (s : ByteArray) : Bool := denomL s.data.toList
/-- the amount under a key -/
def amtU (R : List Pr) (key : ByteArray) : U4 := (fromU ((getL R key).getD [])).1
/-- an amount kept under a key; 0 is not kept -/
def keepL (key : ByteArray) (x : U4) (R : List Pr) : List Pr := putL (key, if eqB x U4.zero = true then none else some (be x.nat 32)) R

section
variable {R : List Pr} {key k : ByteArray} {x : U4}
theorem getL_keep : getL (keepL key x R) k = if k = key then (if eqB x U4.zero = true then none else some (be x.nat 32)) else getL R k := by
  unfold keepL
  rw [getL_putL]
theorem Rise.keep (h : Rise R) : Rise (keepL key x R) := h.put _
end

/-- what an address has -/
def balM (R : List Pr) (a d : ByteArray) : U4 := if (identB a && denomB d) = true then amtU R (kBal a d) else U4.zero
/-- how much there is -/
def supM (R : List Pr) (d : ByteArray) : U4 := if denomB d = true then amtU R (kSup d) else U4.zero
/-- the error of an address, a denomination and an amount -/
def rightM (a d : ByteArray) (x : U4) : Int := if identB a = true then (if denomB d = true then (if eqB x U4.zero = true then 70 else 0) else 41) else 40
/-- Mint and Burn: the supply and a balance, reckoned on -/
def changeM (op : U4 → U4 → U4 × Bool) (unfit : Int) (R : List Pr) (a d : ByteArray) (x : U4) : Int × List Pr :=
  if rightM a d x = 0 then
    if ((op (supM R d) x).2 && (op (balM R a d) x).2) = true then (0, keepL (kBal a d) (op (balM R a d) x).1 (keepL (kSup d) (op (supM R d) x).1 R)) else (unfit, R)
  else (rightM a d x, R)
def mintM := changeM addU 10
def burnM := changeM subU 71
def sendM (R : List Pr) (a b d : ByteArray) (x : U4) : Int × List Pr :=
  if rightM a d x = 0 then
    if identB b = true then
      if (subU (balM R a d) x).2 = true then
        if a = b then (0, R)
        else if (addU (balM R b d) x).2 = true then (0, keepL (kBal b d) (addU (balM R b d) x).1 (keepL (kBal a d) (subU (balM R a d) x).1 R))
        else (10, R)
      else (71, R)
    else (40, R)
  else (rightM a d x, R)
section
variable {R : List Pr} {a b d : ByteArray} {x : U4} {op : U4 → U4 → U4 × Bool} {u : Int}
theorem Rise.change (h : Rise R) : Rise (changeM op u R a d x).2 := by
  unfold changeM
  split
  · split
    · exact h.keep.keep
    · exact h
  · exact h
end
end Go.Proofs.YtmphegeiclgjbaaGreatDoor
namespace Go.Proofs.YtmphegeiclgjbaaGreatDoor
set_option maxRecDepth 100000
open Go
set_option linter.unusedVariables false

section
variable {R : List Pr} {a b c d e key k : ByteArray} {x y : U4} {op : U4 → U4 → U4 × Bool} {u : Int}
end

/-! ### a key put into a list in order, as a permutation -/
theorem putG_perm (c : Chn) (v : List UInt8) (hv : c.2.getD [] = v) : ∀ (l : List Pr), (putG c false l).Perm ((c.1, v) :: l.filter (fun p => !decide (p.1 = c.1)))
  | [] => by simp [putG, hv]
  | p :: l => by
    unfold putG
    cases hl : ltS p.1 c.1 with
    | true =>
      have hne := ltS_ne hl
      simp only [hne, Bool.not_true, Bool.and_false, Bool.or_false, if_false, Bool.false_eq_true, List.nil_append, List.singleton_append]
      rw [List.filter_cons_of_pos (by simp [hne])]
      exact ((putG_perm c v hv l).cons p).trans (List.Perm.swap _ _ _)
    | false =>
      simp only [Bool.not_false, Bool.and_true, Bool.or_true, if_true, List.singleton_append, List.cons_append]
      rw [putG_true, hv]
      by_cases e : p.1 = c.1
      · rw [if_pos e, List.filter_cons_of_neg (by simp [e])]; exact List.Perm.refl _
      · rw [if_neg e, List.filter_cons_of_pos (by simp [e])]; exact List.Perm.refl _
theorem putL_perm (key : ByteArray) (o : Option (List UInt8)) (l : List Pr) : (putL (key, o) l).Perm ((match o with | none => [] | some v => [(key, v)]) ++ l.filter (fun p => !decide (p.1 = key))) := by
  unfold putL
  cases o with
  | none => simp only [Option.isNone_none]; rw [putG_true]; exact List.Perm.refl _
  | some v => exact putG_perm (key, some v) v rfl l
/-! ### sums -/
/-- the sum of the numbers under the keys that f takes -/
def sumF (f : ByteArray → Bool) (l : List Pr) : Nat := ((l.filter (fun p => f p.1)).map (fun p => (fromU p.2).1.nat)).sum
def oneF (f : ByteArray → Bool) (key : ByteArray) (o : Option (List UInt8)) : Nat := match o with | none => 0 | some v => if f key = true then (fromU v).1.nat else 0
/-! ### what the bank alone has written -/
/-- each value is the 32 bytes of a number that is not 0 -/
def CanonL (l : List Pr) : Prop := ∀ p ∈ l, ∃ x : U4, x.ok ∧ eqB x U4.zero = false ∧ p.2 = be x.nat 32
theorem CanonL.keep {l : List Pr} (h : CanonL l) (key : ByteArray) {x : U4} (hx : x.ok) : CanonL (keepL key x l) := by
  intro p hp
  unfold keepL at hp
  have hp2 := (putL_perm key _ l).mem_iff.1 hp
  rcases List.mem_append.1 hp2 with hp | hp
  · by_cases h0 : eqB x U4.zero = true
    · rw [if_pos h0] at hp; cases hp
    · rw [if_neg h0] at hp
      rw [List.mem_singleton.1 hp]
      exact ⟨x, hx, by simpa using h0, rfl⟩
  · exact h p (List.mem_filter.1 hp).1
end Go.Proofs.YtmphegeiclgjbaaGreatDoor
namespace Go.Proofs.YtmphegeiclgjbaaGreatDoor
set_option maxRecDepth 100000
open Go Go.RowKit
set_option linter.unusedVariables false
variable {w w' : World} {B B0 : Nat}

theorem Tryz.infoPairL : (Tryz.prog.info? 74).map (fun i => (i.zero, i.size, i.bytes)) = some (some (.agg #[.string ⟨#[]⟩, .slice none 0 0]), 2, 40) := by kernel_rfl
/-- what a pair's two cells say -/
def PrC (B0 : Nat) (w : World) (c : List Value) (p : Pr) : Prop := ∃ v, c = [.string p.1, v] ∧ RdS w B0 v p.2
theorem PrC.grow {c : List Value} {p : Pr} {E : TypeId} (h : PrC B0 w c p) (hg : Grow w B0 E w') (h1 : 5 ≠ E) : PrC B0 w' c p := by
  obtain ⟨v, e, q⟩ := h
  exact ⟨v, e, q.grow hg h1⟩
theorem PrC.up {c : List Value} {p : Pr} (h : PrC B0 w c p) (hb : Below w.heap.size w w') : PrC B0 w' c p := by
  obtain ⟨v, e, q⟩ := h
  exact ⟨v, e, q.up hb⟩
theorem PrC.len {c : List Value} {p : Pr} (h : PrC B0 w c p) : c.length = 2 := by obtain ⟨v, e, _⟩ := h; rw [e]; rfl
theorem PrC.one {c : List Value} {p : Pr} (h : PrC B0 w c p) : ∀ u ∈ c, u.oneCell' = true := by
  obtain ⟨v, e, q⟩ := h
  obtain ⟨A, k, rfl⟩ := q.1.form
  subst e
  intro u hu
  simp only [List.mem_cons, List.not_mem_nil, or_false] at hu
  rcases hu with rfl | rfl <;> rfl
/-- pairs of the call's own -/
abbrev OwnP (B0 : Nat) (w : World) (B : Nat) (v : Value) (ps : List Pr) : Prop := OwnX 74 2 (PrC B0) w B v ps
theorem OwnP.up {v : Value} {ps : List Pr} (h : OwnP B0 w B v ps) (hb : Below w.heap.size w w') : OwnP B0 w' B v ps := OwnX.up h hb fun c a hc => hc.up hb
theorem OwnP.rdP {v : Value} {ps : List Pr} (h : OwnP B0 w B v ps) : RdP w w.heap.size v ps := by
  obtain ⟨A, c, rfl⟩ := h.form
  by_cases h0 : ps.length = 0
  · obtain ⟨cs, hr, _⟩ := h
    rcases hr.2 with ⟨e, _⟩ | ⟨g, cap, cur, hv, hb, hg, hn, hm, hs, ht⟩
    · injection e with _ _ e3
      exact ⟨A, c, rfl, by omega, by subst e3; simp [maxLen], fun h => by omega⟩
    · injection hv with _ _ e3
      exact ⟨A, c, rfl, by omega, by omega, fun h => by omega⟩
  · obtain ⟨b, cs, rfl, -, h1, h2, -, hlt, -⟩ := h.at_ 0 (by omega)
    refine ⟨_, _, rfl, h1, h2, fun _ => ⟨b, 0, rfl, hlt, fun j hj => ?_⟩⟩
    obtain ⟨b', cs', e, -, -, -, -, hlt', -, hcell, v, he, q⟩ := h.at_ j hj
    injection e with e
    injection e with e _
    subst e; subst he
    have c0 := hcell 0 (by omega)
    have c1 := hcell 1 (by omega)
    rw [Nat.zero_add]
    exact ⟨by simpa using c0, v, by simpa using c1, q.1⟩
theorem pairCells_get {W : World} {g : Nat} {x0 x1 : Value} {E : TypeId} (h : W.heap[g]? = some (.cells #[x0, x1] E (0, 0))) (j : Nat) (hj : j < 2) : W.cell? ⟨g, j, none⟩ = [x0, x1][j]? := by
  rw [blk_cell h j]
  simp
end Go.Proofs.YtmphegeiclgjbaaGreatDoor
