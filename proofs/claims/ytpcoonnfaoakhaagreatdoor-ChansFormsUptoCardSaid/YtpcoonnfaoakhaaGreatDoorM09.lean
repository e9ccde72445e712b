/- Texts joined: MerkH0, StoM0, NameI1. -/
import Derived.Test.YtpcoonnfaoakhaaGreatDoorM08
import Derived.Test.YtpcoonnfaoakhaaGreatDoorM01
import Derived.Test.YtpcoonnfaoakhaaGreatDoorM07
import Derived.Lib.Bytealg
import Derived.Lib.Strings
import Derived.Test.YtpcoonnfaoakhaaGreatDoorProg
import Derived.WalkKit
import Derived.WalkSpells
import Derived.Deep.QuietTactic
import Derived.BigQuiet
import Derived.Deep.Draws
import Derived.Lib.Hide
import Derived.LoopTactic
import Derived.Laws.Externs
import Derived.Lib.CutLaws
import Derived.Lib.Walk
import Derived.Laws.Strings3
namespace Go.Proofs.YtpcoonnfaoakhaaGreatDoor
set_option maxRecDepth 100000
open Go Go.RowKit
set_option linter.unusedVariables false
variable {w w' : World} {B : Nat}

def absentB (root : List UInt8) (key : ByteArray) (p : Pf) : Bool := keyB key && match p.ls with
  | [] => decide (p.n = 0) && sameB root rootE
  | [l] => ((decide (l.at_ = 0) && !(ltS l.key key || l.key.toList == key.toList)) || (decide (l.at_ = IntKind.i64.wrap (p.n - 1)) && ltS l.key key)) && holdsB root p.n l
  | [a, b] => (decide (IntKind.i64.wrap (a.at_ + 1) = b.at_) && (ltS a.key key && ltS key b.key)) && (holdsB root p.n a && holdsB root p.n b)
  | _ => false
end Go.Proofs.YtpcoonnfaoakhaaGreatDoor
namespace Go.Proofs.YtpcoonnfaoakhaaGreatDoor
set_option maxRecDepth 100000
open Go Go.RowKit
set_option linter.unusedVariables false
variable {w w' : World} {B : Nat}

/-- the hashes beside a leaf's way in the first k rows -/
def wayK (L : List (List UInt8)) (i : Nat) : Nat → List (List UInt8)
  | 0 => []
  | k + 1 => wayK L i k ++ (if ((i / 2 ^ k) ^^^ 1) < (upN k L).length then [(upN k L).getD ((i / 2 ^ k) ^^^ 1) []] else [])
end Go.Proofs.YtpcoonnfaoakhaaGreatDoor
namespace Go.Proofs.YtpcoonnfaoakhaaGreatDoor
set_option maxRecDepth 100000
open Go Go.RowKit
set_option linter.unusedVariables false

theorem bl_irrefl : ∀ a : List UInt8, Op.bytesLess a a = false
  | [] => rfl
  | a :: l => by
    have : ¬ a < a := by rw [UInt8.lt_iff_toNat_lt]; omega
    simp [Op.bytesLess, bl_irrefl l, this]
theorem bl_cons (a b : UInt8) (l m : List UInt8) : Op.bytesLess (a :: l) (b :: m) = true ↔ a < b ∨ (a = b ∧ Op.bytesLess l m = true) := by
  simp [Op.bytesLess]
theorem bl_trans : ∀ a b c : List UInt8, Op.bytesLess a b = true → Op.bytesLess b c = true → Op.bytesLess a c = true
  | _, _, [], _, h => by simp [Op.bytesLess] at h
  | _, [], _ :: _, h, _ => by cases ‹List UInt8› <;> simp [Op.bytesLess] at h
  | [], b :: l, c :: m, h1, h2 => rfl
  | a :: k, b :: l, c :: m, h1, h2 => by
    rw [bl_cons] at h1 h2 ⊢
    simp only [UInt8.lt_iff_toNat_lt, ← UInt8.toNat_inj] at h1 h2 ⊢
    rcases h1 with h1 | ⟨h1, h1'⟩ <;> rcases h2 with h2 | ⟨h2, h2'⟩
    · left; omega
    · left; omega
    · left; omega
    · right; exact ⟨by omega, bl_trans k l m h1' h2'⟩
theorem bl_tri : ∀ a b : List UInt8, Op.bytesLess a b = false → a ≠ b → Op.bytesLess b a = true
  | [], [], _, h => absurd rfl h
  | [], _ :: _, h, _ => by simp [Op.bytesLess] at h
  | _ :: _, [], _, _ => rfl
  | a :: l, b :: m, h, hne => by
    rw [bl_cons]
    have h' : ¬ (a < b ∨ (a = b ∧ Op.bytesLess l m = true)) := by rw [← bl_cons, h]; simp
    simp only [UInt8.lt_iff_toNat_lt, ← UInt8.toNat_inj] at h' ⊢
    by_cases hab : a.toNat = b.toNat
    · right
      refine ⟨hab.symm, bl_tri l m ?_ fun e => hne ?_⟩
      · cases hlm : Op.bytesLess l m with
        | false => rfl
        | true => exact absurd (Or.inr ⟨hab, hlm⟩) h'
      · rw [UInt8.toNat_inj.1 hab, e]
    · left
      by_cases hlt : a.toNat < b.toNat
      · exact absurd (Or.inl hlt) h'
      · omega
theorem toList_inj {a b : ByteArray} (h : a.toList = b.toList) : a = b := by
  rw [ByteArray.toList_eq, ByteArray.toList_eq] at h
  exact ByteArray.ext (Array.toList_inj.1 h)
theorem ltS_irrefl (a : ByteArray) : ltS a a = false := bl_irrefl _
theorem ltS_trans {a b c : ByteArray} (h : ltS a b = true) (k : ltS b c = true) : ltS a c = true := bl_trans _ _ _ h k
theorem ltS_tri {a b : ByteArray} (h : ltS a b = false) (k : a ≠ b) : ltS b a = true := bl_tri _ _ h fun e => k (toList_inj e)
theorem ltS_ne {a b : ByteArray} (h : ltS a b = true) : a ≠ b := fun e => by rw [e, ltS_irrefl] at h; cases h
theorem ltS_asym {a b : ByteArray} (h : ltS a b = true) : ltS b a = false := by
  cases hb : ltS b a with
  | false => rfl
  | true => have := ltS_trans h hb; rw [ltS_irrefl] at this; cases this

def hitB (ps : List Pr) (key : ByteArray) : Bool := match ps[placeM key ps]? with | some p => p.1.toList == key.toList | none => false
def leavesP (ps : List Pr) (key : ByteArray) : List Lf := if hitB ps key = true then [leafM ps (placeM key ps)] else
  (if 0 < placeM key ps then [leafM ps (placeM key ps - 1)] else []) ++ (if placeM key ps < ps.length then [leafM ps (placeM key ps)] else [])
/-- the proof about a key, or the error -/
def proveM (ps : List Pr) (key : ByteArray) : Pf × Int := if ordB ps = true ∧ keyB key = true then (⟨(ps.length : Int), leavesP ps key⟩, 0) else (⟨0, []⟩, 60)
end Go.Proofs.YtpcoonnfaoakhaaGreatDoor
namespace Go.Proofs.YtpcoonnfaoakhaaGreatDoor
set_option maxRecDepth 100000
open Go Go.RowKit
set_option linter.unusedVariables false
variable {w w' : World} {B : Nat}

/-- what a leaf's four cells say -/
def LfC (w : World) (c : List Value) (l : Lf) : Prop := ∃ sv pv, c = [.int .i64 l.at_, .string l.key, sv, pv] ∧ RdS w 0 sv l.val ∧ RowS w 0 pv l.path ∧ l.key.size ≤ maxLen ∧ -9223372036854775808 ≤ l.at_ ∧ l.at_ ≤ 9223372036854775807
theorem LfC.grow {c : List Value} {l : Lf} {E : TypeId} (h : LfC w c l) (hg : Grow w 0 E w') (h1 : 5 ≠ E) (h2 : 27 ≠ E) : LfC w' c l := by
  obtain ⟨sv, pv, e, q1, q2, q3⟩ := h
  exact ⟨sv, pv, e, q1.grow hg h1, q2.grow hg h1 h2, q3⟩
theorem LfC.up {c : List Value} {l : Lf} (h : LfC w c l) (hb : Below w.heap.size w w') : LfC w' c l := by
  obtain ⟨sv, pv, e, q1, q2, q3⟩ := h
  exact ⟨sv, pv, e, q1.up hb, q2.up hb, q3⟩
theorem LfC.len {c : List Value} {l : Lf} (h : LfC w c l) : c.length = 4 := by obtain ⟨sv, pv, e, _⟩ := h; rw [e]; rfl
theorem LfC.one {c : List Value} {l : Lf} (h : LfC w c l) : ∀ u ∈ c, u.oneCell' = true := by
  obtain ⟨sv, pv, e, q1, q2, _⟩ := h
  obtain ⟨A1, c1, rfl⟩ := q1.1.form
  obtain ⟨A2, c2, rfl⟩ := q2.form
  subst e
  intro u hu
  simp only [List.mem_cons, List.not_mem_nil, or_false] at hu
  rcases hu with rfl | rfl | rfl | rfl <;> rfl
abbrev OwnL (w : World) (B : Nat) (v : Value) (ls : List Lf) : Prop := OwnX 245 4 LfC w B v ls
theorem OwnL.up {v : Value} {ls : List Lf} (h : OwnL w B v ls) (hb : Below w.heap.size w w') : OwnL w' B v ls := OwnX.up h hb fun c a hc => hc.up hb
theorem OwnL.grow {v : Value} {ls : List Lf} {E : TypeId} (h : OwnL w B v ls) (hg : Grow w 0 E w') (h0 : 245 ≠ E) (h1 : 5 ≠ E) (h2 : 27 ≠ E) : OwnL w' B v ls := OwnX.grow h hg h0 fun c a hc => hc.grow hg h1 h2
/-- a proof of the call's own -/
def ProofN (w : World) (B : Nat) (v : Value) (p : Pf) : Prop := ∃ lv, v = .agg #[.int .i64 p.n, lv] ∧ OwnL w B lv p.ls
theorem ProofN.up {v : Value} {p : Pf} (h : ProofN w B v p) (hb : Below w.heap.size w w') : ProofN w' B v p := by
  obtain ⟨lv, rfl, hl⟩ := h
  exact ⟨lv, rfl, OwnL.up hl hb⟩
theorem ProofN.more {B' : Nat} {v : Value} {p : Pf} (h : ProofN w B v p) (hB : B' ≤ B) : ProofN w B' v p := by
  obtain ⟨lv, rfl, hl⟩ := h
  exact ⟨lv, rfl, OwnX.more hl hB⟩
/-- a leaf made, as cells -/
theorem LeafN.cells {v : Value} {l : Lf} (h : LeafN w 0 B v l) (hk : l.key.size ≤ maxLen) (h1 : -9223372036854775808 ≤ l.at_) (h2 : l.at_ ≤ 9223372036854775807) : ∃ A1 n1 c1 A2 n2 c2, v = .agg #[.int .i64 l.at_, .string l.key, .slice A1 n1 c1, .slice A2 n2 c2] ∧ LfC w [.int .i64 l.at_, .string l.key, .slice A1 n1 c1, .slice A2 n2 c2] l := by
  obtain ⟨sv, pv, rfl, q1, q2⟩ := h
  obtain ⟨A1, c1, rfl⟩ := q1.form
  obtain ⟨A2, c2, rfl⟩ := q2.form
  exact ⟨A1, _, c1, A2, _, c2, rfl, _, _, rfl, q1.rdS, q2.rowS, hk, h1, h2⟩

/-- the leaves that are told of places -/
def selM (ps : List Pr) (T : List Int) : List Lf := (T.filter fun i => decide (0 ≤ i ∧ i < (ps.length : Int))).map fun i => leafM ps i.toNat
end Go.Proofs.YtpcoonnfaoakhaaGreatDoor
namespace Go.Proofs.YtpcoonnfaoakhaaGreatDoor
set_option maxRecDepth 100000
open Go
set_option linter.unusedVariables false

/-- by rising keys -/
def Rise (l : List Pr) : Prop := l.Pairwise (fun p q => ltS p.1 q.1 = true)
/-- a key set, or gone -/
abbrev Chn := ByteArray × Option (List UInt8)
/-- what lies under a key -/
def getL : List Pr → ByteArray → Option (List UInt8)
  | [], _ => none
  | p :: l, s => if p.1 = s then some p.2 else getL l s
/-- the document's put, as its loop goes -/
def putG (c : Chn) : Bool → List Pr → List Pr
  | done, [] => if done then [] else [(c.1, c.2.getD [])]
  | done, p :: r => (if !done && !ltS p.1 c.1 then [(c.1, c.2.getD [])] else []) ++ (if p.1 = c.1 then [] else [p]) ++ putG c (done || (!done && !ltS p.1 c.1)) r
def putL (c : Chn) (l : List Pr) : List Pr := putG c c.2.isNone l

theorem getL_cons (p : Pr) (l : List Pr) (s : ByteArray) : getL (p :: l) s = if p.1 = s then some p.2 else getL l s := rfl
theorem getL_append (l l' : List Pr) (s : ByteArray) : getL (l ++ l') s = (getL l s).or (getL l' s) := by
  induction l with
  | nil => rfl
  | cons p l ih =>
    show getL (p :: (l ++ l')) s = _
    rw [getL_cons, getL_cons, ih]
    by_cases h : p.1 = s <;> simp [h]
theorem getL_mem {l : List Pr} {s : ByteArray} {v : List UInt8} (h : getL l s = some v) : (s, v) ∈ l := by
  induction l with
  | nil => cases h
  | cons p l ih =>
    unfold getL at h
    by_cases e : p.1 = s
    · rw [if_pos e] at h
      have : p = (s, v) := by rw [← e, ← Option.some.inj h]
      simp [this]
    · rw [if_neg e] at h
      exact List.mem_cons_of_mem _ (ih h)
theorem getL_none {l : List Pr} {s : ByteArray} : getL l s = none ↔ ∀ p ∈ l, p.1 ≠ s := by
  induction l with
  | nil => simp [getL]
  | cons p l ih =>
    unfold getL
    by_cases e : p.1 = s
    · simp [e]
    · simp [e, ih]
theorem Rise.get {l : List Pr} (h : Rise l) {p : Pr} (hp : p ∈ l) : getL l p.1 = some p.2 := by
  induction l with
  | nil => cases hp
  | cons q l ih =>
    obtain ⟨h1, h2⟩ := List.pairwise_cons.1 h
    unfold getL
    rcases List.mem_cons.1 hp with rfl | hp
    · simp
    · rw [if_neg (ltS_ne (h1 p hp))]
      exact ih h2 hp
theorem Rise.ext {l l' : List Pr} (h : Rise l) (h' : Rise l') (e : ∀ s, getL l s = getL l' s) : l = l' := by
  induction l generalizing l' with
  | nil =>
    cases l' with
    | nil => rfl
    | cons q l' => have := e q.1; simp [getL] at this
  | cons p l ih =>
    cases l' with
    | nil => have := e p.1; simp [getL] at this
    | cons q l' =>
      obtain ⟨h1, h2⟩ := List.pairwise_cons.1 h
      obtain ⟨g1, g2⟩ := List.pairwise_cons.1 h'
      have hpq : p.1 = q.1 := by
        refine Decidable.byContradiction fun hne => ?_
        have a1 := (e p.1).symm.trans (h.get (List.mem_cons_self ..))
        have a2 := (e q.1).trans (h'.get (List.mem_cons_self ..))
        have b1 := getL_mem a1
        have b2 := getL_mem a2
        rcases List.mem_cons.1 b1 with c1 | c1
        · exact hne (by rw [← c1])
        · rcases List.mem_cons.1 b2 with c2 | c2
          · exact hne (by rw [← c2])
          · have d1 := g1 _ c1
            have d2 := h1 _ c2
            rw [ltS_asym d1] at d2
            cases d2
      have hp2 : p.2 = q.2 := by
        have a1 := (h.get (List.mem_cons_self ..)).symm.trans (e p.1)
        rw [hpq, h'.get (List.mem_cons_self ..)] at a1
        exact Option.some.inj a1
      have hp : p = q := Prod.ext hpq hp2
      subst hp
      congr 1
      refine ih h2 g2 fun s => ?_
      have := e s
      unfold getL at this
      by_cases es : p.1 = s
      · rw [getL_none.2 fun x hx => ?_, getL_none.2 fun x hx => ?_]
        · exact fun k => ltS_ne (g1 x hx) (es.trans k.symm)
        · exact fun k => ltS_ne (h1 x hx) (es.trans k.symm)
      · simpa [es] using this

theorem putG_true (c : Chn) (l : List Pr) : putG c true l = l.filter (fun p => !decide (p.1 = c.1)) := by
  induction l with
  | nil => simp [putG]
  | cons p l ih =>
    unfold putG
    by_cases e : p.1 = c.1 <;> simp [e, ih]
theorem getL_strike (l : List Pr) (k s : ByteArray) : getL (l.filter (fun p => !decide (p.1 = k))) s = if s = k then none else getL l s := by
  induction l with
  | nil => simp [getL]
  | cons p l ih =>
    by_cases e : p.1 = k
    · rw [List.filter_cons_of_neg (by simp [e]), ih]
      by_cases es : s = k
      · simp [es]
      · rw [if_neg es, if_neg es, getL_cons, if_neg (fun h => es (h.symm.trans e))]
    · rw [List.filter_cons_of_pos (by simp [e])]
      rw [getL_cons, getL_cons, ih]
      by_cases es : p.1 = s
      · rw [if_pos es, if_pos es, if_neg (fun h => e (es.trans h))]
      · rw [if_neg es, if_neg es]
theorem getL_putF (c : Chn) (l : List Pr) (s : ByteArray) : getL (putG c false l) s = if s = c.1 then some (c.2.getD []) else getL l s := by
  induction l with
  | nil =>
    by_cases e : s = c.1
    · simp [putG, getL, e]
    · have : ¬ c.1 = s := fun h => e h.symm
      simp [putG, getL, e, this]
  | cons p l ih =>
    unfold putG
    cases hl : ltS p.1 c.1 with
    | true =>
      have hne := ltS_ne hl
      simp only [hne, Bool.not_true, Bool.and_false, Bool.or_false, if_false, Bool.false_eq_true, List.nil_append, List.singleton_append]
      rw [show getL (p :: putG c false l) s = if p.1 = s then some p.2 else getL (putG c false l) s from rfl, ih, show getL (p :: l) s = if p.1 = s then some p.2 else getL l s from rfl]
      by_cases es : p.1 = s
      · rw [if_pos es, if_pos es, if_neg (fun h => hne (es.trans h))]
      · rw [if_neg es, if_neg es]
    | false =>
      simp only [Bool.not_false, Bool.and_true, Bool.or_true, if_true, List.singleton_append, List.cons_append]
      rw [show ∀ t, getL ((c.1, c.2.getD []) :: t) s = if c.1 = s then some (c.2.getD []) else getL t s from fun _ => rfl]
      by_cases es : c.1 = s
      · simp [es]
      · have es' : ¬ s = c.1 := fun h => es h.symm
        rw [if_neg es, if_neg es', getL_append, putG_true, getL_strike, if_neg es']
        rw [show getL (p :: l) s = if p.1 = s then some p.2 else getL l s from rfl]
        by_cases e : p.1 = c.1
        · rw [if_pos e, if_neg (fun h => es' (h.symm.trans e))]; rfl
        · rw [if_neg e]
          rw [List.nil_append, getL_cons]
          by_cases ep : p.1 = s <;> simp [ep, getL_cons, show getL [] s = none from rfl]
theorem getL_putL (c : Chn) (l : List Pr) (s : ByteArray) : getL (putL c l) s = if s = c.1 then c.2 else getL l s := by
  unfold putL
  cases h : c.2 with
  | none => simp only [Option.isNone_none]; rw [putG_true, getL_strike]
  | some v => simp only [Option.isNone_some]; rw [getL_putF, h]; rfl

theorem mem_putF {c : Chn} {l : List Pr} {p : Pr} (h : p ∈ putG c false l) : p.1 = c.1 ∨ p ∈ l := by
  induction l with
  | nil => simp [putG] at h; exact .inl (by rw [h])
  | cons q l ih =>
    unfold putG at h
    cases hl : ltS q.1 c.1 with
    | true =>
      simp only [hl, Bool.not_true, Bool.and_false, Bool.or_false, if_false, Bool.false_eq_true, List.nil_append, List.mem_append] at h
      rcases h with h | h
      · split at h
        · cases h
        · exact .inr (by simp at h; simp [h])
      · rcases ih h with h | h
        · exact .inl h
        · exact .inr (List.mem_cons_of_mem _ h)
    | false =>
      simp only [hl, Bool.not_false, Bool.and_true, Bool.or_true, if_true, List.mem_append] at h
      rcases h with (h | h) | h
      · simp at h; exact .inl (by rw [h])
      · split at h
        · cases h
        · exact .inr (by simp at h; simp [h])
      · rw [putG_true] at h
        exact .inr (List.mem_cons_of_mem _ (List.mem_filter.1 h).1)
theorem Rise.putF {l : List Pr} (h : Rise l) (c : Chn) : Rise (putG c false l) := by
  induction l with
  | nil => simp [putG, Rise]
  | cons p l ih =>
    obtain ⟨h1, h2⟩ := List.pairwise_cons.1 h
    unfold putG
    cases hl : ltS p.1 c.1 with
    | true =>
      simp only [ltS_ne hl, Bool.not_true, Bool.and_false, Bool.or_false, if_false, Bool.false_eq_true, List.nil_append, List.singleton_append]
      refine List.pairwise_cons.2 ⟨fun q hq => ?_, ih h2⟩
      rcases mem_putF hq with e | hq
      · rw [e]; exact hl
      · exact h1 q hq
    | false =>
      simp only [Bool.not_false, Bool.and_true, Bool.or_true, if_true, List.singleton_append, List.cons_append]
      rw [putG_true]
      have hr : Rise (l.filter (fun p => !decide (p.1 = c.1))) := List.Pairwise.sublist List.filter_sublist h2
      by_cases e : p.1 = c.1
      · rw [if_pos e, List.nil_append]
        exact List.pairwise_cons.2 ⟨fun q hq => by rw [← e]; exact h1 q (List.mem_filter.1 hq).1, hr⟩
      · rw [if_neg e]
        have hc := ltS_tri hl e
        show Rise ((c.1, c.2.getD []) :: p :: l.filter (fun p => !decide (p.1 = c.1)))
        refine List.pairwise_cons.2 ⟨fun q hq => ?_, List.pairwise_cons.2 ⟨fun q hq => h1 q (List.mem_filter.1 hq).1, hr⟩⟩
        rcases List.mem_cons.1 hq with rfl | hq
        · exact hc
        · exact ltS_trans hc (h1 q (List.mem_filter.1 hq).1)
theorem Rise.put {l : List Pr} (h : Rise l) (c : Chn) : Rise (putL c l) := by
  unfold putL
  cases c.2 with
  | none => simp only [Option.isNone_none]; rw [putG_true]; exact List.Pairwise.sublist List.filter_sublist h
  | some v => simp only [Option.isNone_some]; exact h.putF c

/-! ### a branch's changes -/
/-- what a list of changes says of a key: nothing, gone, or a value -/
def getC : List Chn → ByteArray → Option (Option (List UInt8))
  | [], _ => none
  | c :: l, s => if c.1 = s then some c.2 else getC l s
/-- no key twice -/
def ApartC (l : List Chn) : Prop := l.Pairwise (fun p q => p.1 ≠ q.1)
/-- one more change, as the document's do has it -/
def doC (l : List Chn) (c : Chn) : List Chn := l.filter (fun x => !decide (x.1 = c.1)) ++ [c]
/-- the pairs as a branch sees them -/
def allM (l : List Pr) (cs : List Chn) : List Pr := cs.foldl (fun l c => putL c l) l

theorem getC_cons (c : Chn) (l : List Chn) (s : ByteArray) : getC (c :: l) s = if c.1 = s then some c.2 else getC l s := rfl
theorem ApartC.get {l : List Chn} (h : ApartC l) {c : Chn} (hc : c ∈ l) : getC l c.1 = some c.2 := by
  induction l with
  | nil => cases hc
  | cons d l ih =>
    obtain ⟨h1, h2⟩ := List.pairwise_cons.1 h
    rw [getC_cons]
    rcases List.mem_cons.1 hc with rfl | hc
    · simp
    · rw [if_neg (h1 c hc)]
      exact ih h2 hc
theorem ApartC.do {l : List Chn} (h : ApartC l) (c : Chn) : ApartC (doC l c) := by
  unfold doC
  refine List.pairwise_append.2 ⟨List.Pairwise.sublist List.filter_sublist h, by simp, fun a ha b hb => ?_⟩
  rw [List.mem_singleton.1 hb]
  simpa using (List.mem_filter.1 ha).2
theorem Rise.all {l : List Pr} (h : Rise l) (cs : List Chn) : Rise (allM l cs) := by
  induction cs generalizing l with
  | nil => exact h
  | cons c cs ih => exact ih (h.put c)
/-! ### pairs gathered in any order, then put in order; those of a prefix -/
theorem Rise.of_sorted {l : List Pr} (hs : l.Pairwise (fun p q => ltS q.1 p.1 = false)) (hd : l.Pairwise (fun p q => p.1 ≠ q.1)) : Rise l :=
  (hs.and hd).imp fun {p q} h => ltS_tri h.1 h.2.symm
theorem Rise.eq_of_mem {l l' : List Pr} (h : Rise l) (h' : Rise l') (e : ∀ p, p ∈ l ↔ p ∈ l') : l = l' := by
  refine h.ext h' fun s => ?_
  cases hs : getL l s with
  | some v => exact (h'.get ((e _).1 (getL_mem hs))).symm
  | none =>
    cases hs' : getL l' s with
    | none => rfl
    | some v => exact absurd (h.get ((e _).2 (getL_mem hs'))) (by rw [hs]; simp)
theorem Rise.filter {l : List Pr} (h : Rise l) (b : Pr → Bool) : Rise (l.filter b) := List.Pairwise.sublist List.filter_sublist h
theorem getL_filter (l : List Pr) (b : ByteArray → Bool) (s : ByteArray) : getL (l.filter (fun p => b p.1)) s = if b s = true then getL l s else none := by
  induction l with
  | nil => simp [getL]
  | cons p l ih =>
    by_cases e : b p.1 = true
    · rw [List.filter_cons_of_pos (by simpa using e), getL_cons, getL_cons, ih]
      by_cases es : p.1 = s
      · rw [if_pos es, if_pos es, if_pos (es ▸ e)]
      · rw [if_neg es, if_neg es]
    · rw [List.filter_cons_of_neg (by simpa using e), ih, getL_cons]
      by_cases es : p.1 = s
      · have : ¬ b s = true := es ▸ e
        rw [if_neg this, if_neg this]
      · rw [if_neg es]
theorem Rise.mem {l : List Pr} (h : Rise l) (p : Pr) : p ∈ l ↔ getL l p.1 = some p.2 := ⟨fun hp => h.get hp, fun hp => getL_mem hp⟩
theorem putG_length (c : Chn) (d : Bool) (l : List Pr) : (putG c d l).length ≤ l.length + 1 := by
  induction l generalizing d with
  | nil => cases d <;> simp [putG]
  | cons p l ih =>
    cases d with
    | true => rw [putG_true]; exact Nat.le_succ_of_le (List.length_filter_le _ _)
    | false =>
      unfold putG
      cases hl : ltS p.1 c.1 with
      | true =>
        have := ih false
        simp [ltS_ne hl]; omega
      | false =>
        have hf : (putG c true l).length ≤ l.length := by rw [putG_true]; exact List.length_filter_le _ _
        by_cases e : p.1 = c.1 <;> simp [e] <;> omega
end Go.Proofs.YtpcoonnfaoakhaaGreatDoor
namespace Go.Proofs.YtpcoonnfaoakhaaGreatDoor
set_option maxRecDepth 100000
open Go Go.RowKit
set_option linter.unusedVariables false

/-- the blocks that F names are maps -/
def AllMaps (w : World) (F : Nat → Prop) : Prop := ∀ k, F k → ∃ es c, w.heap[k]? = some (.map es c)

section
variable {w w' : World} {F : Nat → Prop} {B : Nat} {v : Value} {l : List UInt8}
theorem cell_map {p : Addr} {es : Array MapEntry} {c : Nat} (h : w.heap[p.block]? = some (.map es c)) : w.cell? p = none := by
  simp [World.cell?, h]
/-- bytes stay where maps alone have turned -/
theorem Rd.chg (h : Rd w B v l) (hc : Chg w w' F) (hF : AllMaps w F) (hB : B ≤ w.heap.size) : Rd w' B v l := by
  obtain ⟨A, c, hv, h1, h2, hp⟩ := h
  refine ⟨A, c, hv, h1, h2, fun h0 => ?_⟩
  obtain ⟨b, o, hA, hb, hcell⟩ := hp h0
  refine ⟨b, o, hA, hb, fun j hj => ?_⟩
  have h3 := hcell j hj
  have hn : ¬ F b := fun k => by
    obtain ⟨es, c, e⟩ := hF b k
    rw [cell_map (p := ⟨b, o + j, none⟩) e] at h3
    cases h3
  rw [cell_same (hc.block b (by omega) hn)]
  exact h3

/-- what an entry says: a value that reads as the bytes, or 'gone' -/
def EntryIs (w : World) (e : Value) : Option (List UInt8) → Prop
  | none => e = .agg #[.slice none 0 0, .bool true]
  | some l => ∃ sl, e = .agg #[sl, .bool false] ∧ Rd w w.heap.size sl l
theorem EntryIs.chg {e : Value} {x : Option (List UInt8)} (h : EntryIs w e x) (hc : Chg w w' F) (hF : AllMaps w F) : EntryIs w' e x := by
  cases x with
  | none => exact h
  | some l =>
    obtain ⟨sl, h1, h2⟩ := h
    exact ⟨sl, h1, (h2.chg hc hF (Nat.le_refl _)).more hc.size⟩
/-- what a layer's map says: nothing of a key, or an entry -/
def SaysF (w : World) (g : ByteArray → Option Value) (f : ByteArray → Option (Option (List UInt8))) : Prop :=
  ∀ s : ByteArray, s.size ≤ maxLen → (g s = none ∧ f s = none) ∨ ∃ e x, g s = some e ∧ f s = some x ∧ EntryIs w e x
theorem SaysF.chg {g : ByteArray → Option Value} {f : ByteArray → Option (Option (List UInt8))} (h : SaysF w g f) (hc : Chg w w' F) (hF : AllMaps w F) : SaysF w' g f := by
  intro s hs
  rcases h s hs with h | ⟨e, x, h1, h2, h3⟩
  · exact .inl h
  · exact .inr ⟨e, x, h1, h2, h3.chg hc hF⟩
theorem SaysF.put {g : ByteArray → Option Value} {f : ByteArray → Option (Option (List UInt8))} (h : SaysF w g f) (key : ByteArray) {e : Value} {x : Option (List UInt8)} (he : EntryIs w e x) :
    SaysF w (fun s => if s = key then some e else g s) (fun s => if s = key then some x else f s) := by
  intro s hs
  by_cases k : s = key
  · exact .inr ⟨e, x, by simp [k], by simp [k], he⟩
  · simpa [k] using h s hs
theorem SaysF.del {g : ByteArray → Option Value} {f : ByteArray → Option (Option (List UInt8))} (h : SaysF w g f) (key : ByteArray) :
    SaysF w (fun s => if s = key then none else g s) (fun s => if s = key then none else f s) := by
  intro s hs
  by_cases k : s = key
  · exact .inl (by simp [k])
  · simpa [k] using h s hs
end
/-- maps alone have turned -/
def Kept (w w' : World) : Prop := ∃ F, Chg w w' F ∧ AllMaps w F
section
variable {w w' w1 w2 : World}
theorem Kept.cell (h : Kept w w') {p : Addr} {v : Value} (e : w.cell? p = some v) : w'.cell? p = some v := by
  obtain ⟨F, h1, h2⟩ := h
  have hn : ¬ F p.block := fun k => by
    obtain ⟨es, c, e'⟩ := h2 _ k
    rw [cell_map e'] at e; cases e
  rw [cell_same (h1.block p.block (World.block_lt_of_cell? w p e) hn)]
  exact e
theorem Kept.rd {v : Value} {l : List UInt8} (h : Kept w w') (hr : Rd w w.heap.size v l) : Rd w' w'.heap.size v l := by
  obtain ⟨F, h1, h2⟩ := h
  exact (hr.chg h1 h2 (Nat.le_refl _)).more h1.size
theorem Kept.refl (w : World) : Kept w w := ⟨fun _ => False, Chg.refl _ _, fun _ h => h.elim⟩
theorem Kept.drew (w : World) : Kept w w.drew := ⟨fun _ => False, Chg.drew _ _, fun _ h => h.elim⟩
end
end Go.Proofs.YtpcoonnfaoakhaaGreatDoor
namespace Go.Proofs.YtpcoonnfaoakhaaGreatDoor
set_option maxRecDepth 100000
open Go

def smB (c : UInt8) : Bool := decide (97 ≤ c.toNat ∧ c.toNat ≤ 122)
def dgB (c : UInt8) : Bool := decide (48 ≤ c.toNat ∧ c.toNat ≤ 57)
def okB (c : UInt8) : Bool := smB c || dgB c || decide (c.toNat = 45) || decide (c.toNat = 46)
/-- is it an identifier? -/
def identL : List UInt8 → Bool
  | [] => false
  | c :: r => decide (r.length ≤ 31) && smB c && r.all okB
/-- what stands ahead of each hop -/
def trL : List UInt8 := [116, 114, 97, 110, 115, 102, 101, 114, 47]
def splitL (l : List UInt8) : Option (List UInt8 × List UInt8) :=
  if Lib.hasPrefix l trL = true then
    if Lib.indexByte (l.drop 9) 47 = -1 then none
    else if identL ((l.drop 9).take (Lib.indexByte (l.drop 9) 47).toNat) = true then
      some ((l.drop 9).take (Lib.indexByte (l.drop 9) 47).toNat, (l.drop 9).drop ((Lib.indexByte (l.drop 9) 47).toNat + 1))
    else none
  else none

theorem okB_of_sm {c : UInt8} (h : smB c = true) : okB c = true := by simp [okB, h]
theorem okB_47 : okB 47 = false := by decide
theorem identL_all {l : List UInt8} (h : identL l = true) : ∀ c ∈ l, okB c = true := by
  cases l with
  | nil => cases h
  | cons a r =>
    simp only [identL, Bool.and_eq_true, List.all_eq_true] at h
    intro c hc
    rcases List.mem_cons.1 hc with rfl | hc
    · exact okB_of_sm h.1.2
    · exact h.2 c hc
theorem identL_no47 {l : List UInt8} (h : identL l = true) : (47 : UInt8) ∉ l := by
  intro hc
  have := identL_all h 47 hc
  rw [okB_47] at this
  cases this
theorem indexByte_miss {l : List UInt8} {c : UInt8} : Lib.indexByte l c = -1 ↔ c ∉ l := by
  induction l with
  | nil => simp [Lib.indexByte]
  | cons b l ih =>
    have hg := Lib.indexByte_ge l c
    unfold Lib.indexByte
    by_cases hb : b = c
    · subst hb; simp
    · have hb' : (b == c) = false := by simpa using hb
      rw [hb']
      simp only [Bool.false_eq_true, if_false, List.mem_cons, not_or]
      by_cases hi : Lib.indexByte l c = -1
      · rw [hi]
        simp only [beq_self_eq_true, if_true, true_iff]
        exact ⟨fun e => hb e.symm, ih.1 hi⟩
      · have h2 : (Lib.indexByte l c == -1) = false := by simpa using hi
        rw [h2]
        simp only [Bool.false_eq_true, if_false]
        constructor
        · intro h; omega
        · rintro ⟨_, h⟩; exact absurd (ih.2 h) hi
theorem indexByte_app {h r : List UInt8} {c : UInt8} (hc : c ∉ h) : Lib.indexByte (h ++ c :: r) c = h.length := by
  induction h with
  | nil => simp [Lib.indexByte]
  | cons b l ih =>
    have h1 : ¬ c = b := fun e => hc (by simp [e])
    have h2 : c ∉ l := fun e => hc (by simp [e])
    have hb' : (b == c) = false := by simpa using fun e => h1 e.symm
    have ih := ih h2
    simp only [List.cons_append]
    unfold Lib.indexByte
    rw [hb', ih]
    have h3 : (((l.length : Nat) : Int) == -1) = false := by rw [beq_eq_false_iff_ne]; omega
    rw [h3]
    simp
/-- where a byte is found: the bytes ahead of it and behind it -/
theorem indexByte_hit {l : List UInt8} {c : UInt8} (h : Lib.indexByte l c ≠ -1) :
    l = l.take (Lib.indexByte l c).toNat ++ c :: l.drop ((Lib.indexByte l c).toNat + 1) ∧ c ∉ l.take (Lib.indexByte l c).toNat ∧ (Lib.indexByte l c).toNat < l.length := by
  have hm : c ∈ l := Classical.byContradiction fun hn => h (indexByte_miss.2 hn)
  obtain ⟨a, b, rfl, hn⟩ : ∃ a b, l = a ++ c :: b ∧ c ∉ a := by
    clear h
    induction l with
    | nil => cases hm
    | cons x l ih =>
      by_cases e : c = x
      · exact ⟨[], l, by rw [e]; rfl, by simp⟩
      · rcases List.mem_cons.1 hm with h | h
        · exact absurd h e
        · obtain ⟨a, b, rfl, hn⟩ := ih h
          exact ⟨x :: a, b, rfl, by simp [e, hn]⟩
  rw [indexByte_app hn]
  simp [hn]

theorem hasPrefix_iff {l p : List UInt8} : Lib.hasPrefix l p = true ↔ ∃ r, l = p ++ r := by
  unfold Lib.hasPrefix
  rw [List.isPrefixOf_iff_prefix]
  constructor
  · rintro ⟨r, h⟩; exact ⟨r, h.symm⟩
  · rintro ⟨r, h⟩; exact ⟨r, h.symm⟩

theorem trL_len : trL.length = 9 := rfl
theorem splitL_iff {l h r : List UInt8} : splitL l = some (h, r) ↔ l = trL ++ h ++ 47 :: r ∧ identL h = true := by
  constructor
  · intro e
    unfold splitL at e
    split at e
    case isFalse => cases e
    case isTrue hp =>
      obtain ⟨t, rfl⟩ := hasPrefix_iff.1 hp
      have ht : (trL ++ t).drop 9 = t := by rw [← trL_len]; simp
      rw [ht] at e
      split at e
      · cases e
      · rename_i hne
        split at e
        case isFalse => cases e
        case isTrue hid =>
          obtain ⟨h1, h2, h3⟩ := indexByte_hit hne
          simp only [Option.some.injEq, Prod.mk.injEq] at e
          rw [e.1, e.2] at h1
          rw [e.1] at hid
          exact ⟨by rw [List.append_assoc, ← h1], hid⟩
  · rintro ⟨rfl, hid⟩
    unfold splitL
    have hp : Lib.hasPrefix (trL ++ h ++ 47 :: r) trL = true := hasPrefix_iff.2 ⟨h ++ 47 :: r, by rw [List.append_assoc]⟩
    have ht : (trL ++ h ++ 47 :: r).drop 9 = h ++ 47 :: r := by rw [List.append_assoc, ← trL_len]; simp
    rw [if_pos hp, ht, indexByte_app (identL_no47 hid), if_neg (by omega)]
    simp [hid]

/-- the base, and how many hops stand ahead of it -/
def baseN : Nat → List UInt8 → List UInt8 × Nat
  | 0, l => (l, 0)
  | n + 1, l => match splitL l with
    | none => (l, 0)
    | some (_, r) => ((baseN n r).1, (baseN n r).2 + 1)
def baseL (l : List UInt8) : List UInt8 := (baseN l.length l).1
def hopsL (l : List UInt8) : Nat := (baseN l.length l).2
def denomL (l : List UInt8) : Bool := decide (l.length ≤ 160) && identL (baseL l)

theorem splitL_len {l h r : List UInt8} (e : splitL l = some (h, r)) : l.length = 9 + h.length + 1 + r.length := by
  obtain ⟨rfl, _⟩ := splitL_iff.1 e
  simp [trL_len]; omega
theorem baseN_more : ∀ (n : Nat) (l : List UInt8), l.length ≤ n → baseN n l = baseN l.length l
  | 0, l, h => by
    obtain rfl : l = [] := List.eq_nil_of_length_eq_zero (by omega)
    rfl
  | n + 1, l, h => by
    cases l with
    | nil => rfl
    | cons a m =>
      simp only [List.length_cons, baseN]
      cases hs : splitL (a :: m) with
      | none => rfl
      | some p =>
        obtain ⟨x, r⟩ := p
        have hl := splitL_len hs
        simp only [List.length_cons] at hl h
        simp only
        rw [baseN_more n r (by omega), baseN_more m.length r (by omega)]
theorem base_none {l : List UInt8} (h : splitL l = none) : baseL l = l ∧ hopsL l = 0 := by
  unfold baseL hopsL
  cases l with
  | nil => exact ⟨rfl, rfl⟩
  | cons a m => simp [List.length_cons, baseN, h]
theorem base_some {l x r : List UInt8} (h : splitL l = some (x, r)) : baseL l = baseL r ∧ hopsL l = hopsL r + 1 := by
  have hl := splitL_len h
  unfold baseL hopsL
  cases l with
  | nil => simp at hl; omega
  | cons a m =>
    simp only [List.length_cons] at hl
    simp only [List.length_cons, baseN, h]
    rw [baseN_more m.length r (by omega)]
    exact ⟨rfl, rfl⟩
/-- one hop more -/
def overL (hop s : List UInt8) : List UInt8 × Int :=
  if identL hop = true then
    if denomL s = true ∧ hop.length + s.length + 10 ≤ 160 then (trL ++ hop ++ 47 :: s, 0) else ([], 41)
  else ([], 40)
end Go.Proofs.YtpcoonnfaoakhaaGreatDoor
namespace Go.Proofs.YtpcoonnfaoakhaaGreatDoor
set_option maxRecDepth 100000
open Go Go.RowKit

theorem small_any (c : UInt8) (w : World) : Calls Tryz.prog 127 #[.int .u8 (c.toNat : Int)] w fun e w' => e = .returned (.bool (smB c)) ∧ w = w' := by
  have hc := c.toNat_lt
  unfold smB
  by_cases h1 : 97 ≤ c.toNat
  · by_cases h2 : c.toNat ≤ 122
    · rw [decide_eq_true ⟨h1, h2⟩]
      have i1 : (97 : Int) ≤ (c.toNat : Int) := by omega
      have i2 : (c.toNat : Int) ≤ 122 := by omega
      go_enter Tryz.func127, Tryz.ntmps127
      go_wp2
      go_ret
      exact ⟨rfl, rfl⟩
    · rw [decide_eq_false (fun h => h2 h.2)]
      have i1 : (97 : Int) ≤ (c.toNat : Int) := by omega
      have i2 : ¬ (c.toNat : Int) ≤ 122 := by omega
      go_enter Tryz.func127, Tryz.ntmps127
      go_wp2
      go_ret
      exact ⟨rfl, rfl⟩
  · rw [decide_eq_false (fun h => h1 h.1)]
    have i1 : ¬ (97 : Int) ≤ (c.toNat : Int) := by omega
    go_enter Tryz.func127, Tryz.ntmps127
    go_wp2
    go_ret
    exact ⟨rfl, rfl⟩
theorem digit_any (c : UInt8) (w : World) : Calls Tryz.prog 128 #[.int .u8 (c.toNat : Int)] w fun e w' => e = .returned (.bool (dgB c)) ∧ w = w' := by
  have hc := c.toNat_lt
  unfold dgB
  by_cases h1 : 48 ≤ c.toNat
  · by_cases h2 : c.toNat ≤ 57
    · rw [decide_eq_true ⟨h1, h2⟩]
      have i1 : (48 : Int) ≤ (c.toNat : Int) := by omega
      have i2 : (c.toNat : Int) ≤ 57 := by omega
      go_enter Tryz.func128, Tryz.ntmps128
      go_wp2
      go_ret
      exact ⟨rfl, rfl⟩
    · rw [decide_eq_false (fun h => h2 h.2)]
      have i1 : (48 : Int) ≤ (c.toNat : Int) := by omega
      have i2 : ¬ (c.toNat : Int) ≤ 57 := by omega
      go_enter Tryz.func128, Tryz.ntmps128
      go_wp2
      go_ret
      exact ⟨rfl, rfl⟩
  · rw [decide_eq_false (fun h => h1 h.1)]
    have i1 : ¬ (48 : Int) ≤ (c.toNat : Int) := by omega
    go_enter Tryz.func128, Tryz.ntmps128
    go_wp2
    go_ret
    exact ⟨rfl, rfl⟩
end Go.Proofs.YtpcoonnfaoakhaaGreatDoor
namespace Go.Proofs.YtpcoonnfaoakhaaGreatDoor
set_option maxRecDepth 100000
open Go Go.RowKit

theorem identL_of (l : List UInt8) (h0 : 0 < l.length) (h32 : l.length ≤ 32) (hs : smB (l.getD 0 0) = true) : identL l = (l.drop 1).all okB := by
  cases l with
  | nil => simp at h0
  | cons c r =>
    simp only [List.length_cons] at h32
    simp only [List.getD_cons_zero] at hs
    simp only [identL, hs, List.drop_one, List.tail_cons, Bool.and_true]
    rw [decide_eq_true (by omega)]
    rfl
theorem identL_no (l : List UInt8) (h : l.length = 0 ∨ 32 < l.length ∨ smB (l.getD 0 0) = false) : identL l = false := by
  cases l with
  | nil => rfl
  | cons c r =>
    simp only [List.length_cons, List.getD_cons_zero] at h
    show (decide (r.length ≤ 31) && smB c && r.all okB) = false
    rcases h with h | h | h
    · omega
    · rw [decide_eq_false (by omega)]; rfl
    · rw [h]; simp
theorem data_get (s : ByteArray) (k : Nat) (h : k < s.size) : s.data.toList.getD k 0 = s[k] := by
  have hl : k < s.data.toList.length := by have := Lib.size_eq s; omega
  rw [List.getD_eq_getElem?_getD, List.getElem?_eq_getElem hl]; rfl
theorem all_more (l : List UInt8) (k : Nat) (h1 : 1 ≤ k) (h : k < l.length) : ((l.take (k + 1)).drop 1).all okB = (((l.take k).drop 1).all okB && okB (l.getD k 0)) := by
  have e : l.getD k 0 = l[k] := by rw [List.getD_eq_getElem?_getD, List.getElem?_eq_getElem h]; rfl
  rw [List.take_succ_eq_append_getElem h, List.drop_append_of_le_length (by rw [List.length_take]; omega), List.all_append, e]
  simp
theorem all_stop (l : List UInt8) (k : Nat) (h1 : 1 ≤ k) (h : k < l.length) (hn : okB (l.getD k 0) = false) : (l.drop 1).all okB = false := by
  have e : l.getD k 0 = l[k] := by rw [List.getD_eq_getElem?_getD, List.getElem?_eq_getElem h]; rfl
  rw [List.all_eq_false]
  refine ⟨l[k], ?_, by rw [← e, hn]; simp⟩
  rw [List.mem_iff_getElem?]
  exact ⟨k - 1, by rw [List.getElem?_drop, show 1 + (k - 1) = k by omega, List.getElem?_eq_getElem h]⟩

set_option maxHeartbeats 1000000 in
theorem ident_any (s : ByteArray) (w : World) (hs : s.size ≤ maxLen) : Calls Tryz.prog 59 #[.string s] w fun e w' => e = .returned (.bool (identL s.data.toList)) ∧ w = w' := by
  unfold maxLen at hs
  have hsz := Lib.size_eq s
  by_cases h0 : s.size = 0
  · have hl : s.data.toList = [] := List.eq_nil_of_length_eq_zero (by omega)
    have hl2 : s.toList = [] := by rw [Lib.toList_data]; exact hl
    rw [identL_no s.data.toList (.inl (by omega))]
    have H0 := Lib.hid h0
    clear h0 hsz
    go_enter Tryz.func59, Tryz.ntmps59
    go_wp2_with fail
    go_ret
    exact ⟨rfl, rfl⟩
  · have hne : ¬ s.toList = [] := by
      intro e
      rw [Lib.toList_data] at e
      rw [e] at hsz
      exact h0 hsz
    have hne2 : (!s.toList.isEmpty) = true := by
      cases h : s.toList with
      | nil => exact absurd h hne
      | cons a r => rfl
    have hne3 : (s.toList == []) = false := by simpa using hne
    by_cases h32 : s.size ≤ 32
    · have hpos : 0 < s.size := Nat.pos_of_ne_zero h0
      have g0 := data_get s 0 hpos
      cases hsm : smB s[0] with
      | false =>
        rw [identL_no s.data.toList (.inr (.inr (by rw [g0]; exact hsm)))]
        have H1 := Lib.hid g0
        have H2 := Lib.hid hsz
        clear g0 hsz
        go_enter Tryz.func59, Tryz.ntmps59
        go_wp2_with (go_at_call 127; refine (small_any _ _).mono ?_; rintro e w' ⟨rfl, rfl⟩)
        go_ret
        exact ⟨rfl, rfl⟩
      | true =>
        rw [identL_of s.data.toList (by omega) (by omega) (by rw [g0]; exact hsm)]
        have H1 := Lib.hid g0
        have H2 := Lib.hid hsz
        clear g0 hsz
        go_enter Tryz.func59, Tryz.ntmps59
        go_wp2_with (go_at_call 127; refine (small_any _ _).mono ?_; rintro e w' ⟨rfl, rfl⟩)
        clear hne hne2 hne3 hsm
        go_loop [3] (fun i => ∃ k : Nat, 1 ≤ k ∧ k ≤ s.size ∧ i = .int .i64 k ∧ ((s.data.toList.take k).drop 1).all okB = true) (fun i => s.size - (intOf i).toNat)
        case atStart => exact ⟨1, by omega, by omega, rfl, by rw [List.drop_of_length_le (by rw [List.length_take]; omega)]; rfl⟩
        case round =>
          obtain ⟨k, hk1, hk, rfl, hall⟩ := hrel
          have HA := Lib.hid hall
          clear hall
          by_cases hlt : k < s.size
          · have HG := Lib.hid (data_get s k hlt)
            have HM := Lib.hid (all_more s.data.toList k hk1 (by have := H2.out; omega))
            cases e1 : smB s[k] with
            | true =>
              go_wp2_with (first | (go_at_call 127; refine (small_any _ _).mono ?_; rintro e w' ⟨rfl, rfl⟩) | (go_at_call 128; refine (digit_any _ _).mono ?_; rintro e w' ⟨rfl, rfl⟩))
              go_round
              case rel => exact ⟨k + 1, by omega, by omega, by go_num, by rw [HM.out, HA.out, HG.out]; unfold okB; rw [e1]; rfl⟩
              case measure => simp [intOf]; omega
            | false =>
              cases e2 : dgB s[k] with
              | true =>
                go_wp2_with (first | (go_at_call 127; refine (small_any _ _).mono ?_; rintro e w' ⟨rfl, rfl⟩) | (go_at_call 128; refine (digit_any _ _).mono ?_; rintro e w' ⟨rfl, rfl⟩))
                go_round
                case rel => exact ⟨k + 1, by omega, by omega, by go_num, by rw [HM.out, HA.out, HG.out]; unfold okB; rw [e2]; cases smB s[k] <;> rfl⟩
                case measure => simp [intOf]; omega
              | false =>
                by_cases c45 : s[k].toNat = 45
                · have b1 : ((s[k].toNat : Int) == 45) = true := by rw [c45]; rfl
                  have b2 : ((s[k].toNat : Int) != 45) = false := by rw [c45]; rfl
                  have HC := Lib.hid c45
                  clear c45
                  go_wp2_with (first | (go_at_call 127; refine (small_any _ _).mono ?_; rintro e w' ⟨rfl, rfl⟩) | (go_at_call 128; refine (digit_any _ _).mono ?_; rintro e w' ⟨rfl, rfl⟩))
                  go_round
                  case rel => exact ⟨k + 1, by omega, by omega, by go_num, by rw [HM.out, HA.out, HG.out]; unfold okB; rw [HC.out]; cases smB s[k] <;> cases dgB s[k] <;> rfl⟩
                  case measure => simp [intOf]; omega
                · have b1 : ((s[k].toNat : Int) == 45) = false := by rw [beq_eq_false_iff_ne]; omega
                  have b2 : ((s[k].toNat : Int) != 45) = true := by rw [bne_iff_ne]; omega
                  by_cases c46 : s[k].toNat = 46
                  · have b3 : ((s[k].toNat : Int) == 46) = true := by rw [c46]; rfl
                    have b4 : ((s[k].toNat : Int) != 46) = false := by rw [c46]; rfl
                    have HC := Lib.hid c46
                    clear c46
                    go_wp2_with (first | (go_at_call 127; refine (small_any _ _).mono ?_; rintro e w' ⟨rfl, rfl⟩) | (go_at_call 128; refine (digit_any _ _).mono ?_; rintro e w' ⟨rfl, rfl⟩))
                    go_round
                    case rel => exact ⟨k + 1, by omega, by omega, by go_num, by rw [HM.out, HA.out, HG.out]; unfold okB; rw [HC.out]; cases smB s[k] <;> cases dgB s[k] <;> rfl⟩
                    case measure => simp [intOf]; omega
                  · have b3 : ((s[k].toNat : Int) == 46) = false := by rw [beq_eq_false_iff_ne]; omega
                    have b4 : ((s[k].toNat : Int) != 46) = true := by rw [bne_iff_ne]; omega
                    have HS := Lib.hid (all_stop s.data.toList k hk1 (by have := H2.out; omega) (by rw [HG.out]; unfold okB; rw [e1, e2, decide_eq_false c45, decide_eq_false c46]; rfl))
                    clear c45 c46
                    go_wp2_with (first | (go_at_call 127; refine (small_any _ _).mono ?_; rintro e w' ⟨rfl, rfl⟩) | (go_at_call 128; refine (digit_any _ _).mono ?_; rintro e w' ⟨rfl, rfl⟩))
                    go_ret
                    refine ⟨?_, rfl⟩
                    rw [HS.out]
                    rfl
          · have hk2 : k = s.size := by omega
            have HK := Lib.hid hk2
            clear hk2
            go_wp2
            go_ret
            refine ⟨?_, rfl⟩
            have := HA.out
            rw [List.take_of_length_le (by have := H2.out; have := HK.out; omega)] at this
            rw [List.drop_one] at this
            rw [this]
            rfl
    · rw [identL_no s.data.toList (.inr (.inl (by omega)))]
      have H2 := Lib.hid hsz
      clear hsz
      go_enter Tryz.func59, Tryz.ntmps59
      go_wp2_with fail
      go_ret
      exact ⟨rfl, rfl⟩
end Go.Proofs.YtpcoonnfaoakhaaGreatDoor
namespace Go.Proofs.YtpcoonnfaoakhaaGreatDoor
set_option maxRecDepth 100000
open Go Go.RowKit

set_option maxHeartbeats 1000000 in
theorem hasPrefix_any (s p : ByteArray) (w : World) :
    Calls Tryz.prog 161 #[.string s, .string p] w fun e w' => e = .returned (.bool (Lib.hasPrefix s.data.toList p.data.toList)) ∧ w = w' := by
  rw [← Lib.hasPrefix_of_take, ← Lib.size_eq, ← Lib.size_eq]
  go_enter Tryz.func161, Tryz.ntmps161
  go_wp2
  · rename_i h
    go_ret
    refine ⟨?_, rfl⟩
    show Ending.returned (Value.bool ((s.extract 0 p.size).toList == p.toList)) = _
    rw [Lib.extract_toList, Lib.toList_data]
    simp [h]
  · rename_i h
    go_ret
    refine ⟨?_, rfl⟩
    show Ending.returned (Value.bool false) = _
    simp [h]

set_option maxHeartbeats 1000000 in
theorem litecut_any (s p : ByteArray) (w : World) :
    Calls Tryz.prog 217 #[.string s, .string p] w fun e w' => e = .returned (.tuple #[.string ⟨(Lib.trimPrefix s.data.toList p.data.toList).toArray⟩, .bool (Lib.hasPrefix s.data.toList p.data.toList)]) ∧ w = w' := by
  by_cases h1 : p.size ≤ s.size
  · cases h2 : ((s.extract 0 p.size).toList == p.toList)
    · have hh : Lib.hasPrefix s.data.toList p.data.toList = false := by rw [← Lib.hasPrefix_raw, h2]; simp
      go_enter Tryz.func217, Tryz.ntmps217
      go_wp2_with (go_at_call 161; refine (hasPrefix_any _ _ _).mono ?_; rintro e w' ⟨rfl, rfl⟩; rw [hh])
      go_ret2
      refine ⟨?_, rfl⟩
      rw [Lib.trimPrefix_miss s p (by rw [h2]; simp), hh]
      rfl
    · have hh : Lib.hasPrefix s.data.toList p.data.toList = true := by rw [← Lib.hasPrefix_raw, h2]; simp [h1]
      go_enter Tryz.func217, Tryz.ntmps217
      go_wp2_with (go_at_call 161; refine (hasPrefix_any _ _ _).mono ?_; rintro e w' ⟨rfl, rfl⟩; rw [hh])
      go_ret2
      refine ⟨?_, rfl⟩
      rw [Lib.trimPrefix_hit s p h1 h2, hh]
      rfl
  · have hh : Lib.hasPrefix s.data.toList p.data.toList = false := by rw [← Lib.hasPrefix_raw]; simp [h1]
    go_enter Tryz.func217, Tryz.ntmps217
    go_wp2_with (go_at_call 161; refine (hasPrefix_any _ _ _).mono ?_; rintro e w' ⟨rfl, rfl⟩; rw [hh])
    go_ret2
    refine ⟨?_, rfl⟩
    rw [Lib.trimPrefix_miss s p (by simp [h1]), hh]
    rfl

set_option maxHeartbeats 1000000 in
theorem cutPrefix_any (s p : ByteArray) (w : World) :
    Calls Tryz.prog 179 #[.string s, .string p] w fun e w' => e = .returned (.tuple #[.string ⟨(Lib.trimPrefix s.data.toList p.data.toList).toArray⟩, .bool (Lib.hasPrefix s.data.toList p.data.toList)]) ∧ w = w' := by
  go_enter Tryz.func179, Tryz.ntmps179
  go_wp2_with (go_at_call 217; refine (litecut_any _ _ _).mono ?_; rintro e w' ⟨rfl, rfl⟩)
  go_ret2
  exact ⟨rfl, rfl⟩

set_option maxHeartbeats 1000000 in
theorem indexByte_any (s : ByteArray) (c : Int) (w : World) :
    Calls Tryz.prog 247 #[.string s, .int .u8 c] w fun e w' => e = .returned (.int .i64 (Lib.indexByte s.data.toList c.toNat.toUInt8)) ∧ w = w' := by
  go_enter Tryz.func247, Tryz.ntmps247
  go_wp2
  rw [run_callFunc_extern Tryz.func254 (by kernel_rfl) (by kernel_rfl) (by kernel_rfl) (e := Extern.BytealgIndexByte.indexByte) (by kernel_rfl), Lib.run_indexByteString]
  simp only [Result.andThen]
  rw [Oper.upon_value]
  go_wp2
  go_ret
  exact ⟨rfl, rfl⟩

set_option maxHeartbeats 1000000 in
theorem index_one_any (s : ByteArray) (w : World) :
    Calls Tryz.prog 236 #[.string s, .string ⟨#[47]⟩] w fun e w' => e = .returned (.int .i64 (Lib.indexByte s.data.toList 47)) ∧ w = w' := by
  go_enter Tryz.func236, Tryz.ntmps236
  go_wp2_with (go_at_call 247; refine (indexByte_any _ _ _).mono ?_; rintro e w' ⟨rfl, rfl⟩)
  · have h : ([47] == s.toList) = true := by assumption
    go_ret
    refine ⟨?_, rfl⟩
    have e : s.data.toList = [47] := by rw [← Lib.toList_data]; exact (beq_iff_eq.1 h).symm
    rw [e]
    rfl
  · go_ret
    exact ⟨rfl, rfl⟩

/-- what Cut hands back at a slash -/
def cutL (l : List UInt8) : List UInt8 × List UInt8 × Bool :=
  if Lib.indexByte l 47 = -1 then (l, [], false) else (l.take (Lib.indexByte l 47).toNat, l.drop ((Lib.indexByte l 47).toNat + 1), true)

set_option maxHeartbeats 2000000 in
theorem lcut_any (s : ByteArray) (w : World) (hs : s.size ≤ maxLen) :
    Calls Tryz.prog 218 #[.string s, .string ⟨#[47]⟩] w fun e w' => e = .returned (.tuple #[.string ⟨(cutL s.data.toList).1.toArray⟩, .string ⟨(cutL s.data.toList).2.1.toArray⟩, .bool (cutL s.data.toList).2.2]) ∧ ∃ n, w' = w.drewN n := by
  unfold maxLen at hs
  have hsz := Lib.size_eq s
  by_cases hm : Lib.indexByte s.data.toList 47 = -1
  · have e : cutL s.data.toList = (s.data.toList, [], false) := by unfold cutL; rw [if_pos hm]
    have HE := Lib.hid e
    have HZ := Lib.hid hsz
    clear e hsz
    go_enter Tryz.func218, Tryz.ntmps218
    go_wp2_with (go_at_call 236; refine (index_one_any _ _).mono ?_; rintro e w' ⟨rfl, rfl⟩; rw [hm])
    go_ret3
    refine ⟨?_, 0, rfl⟩
    rw [HE.out, Lib.mk_data]
    rfl
  · obtain ⟨_, _, h3⟩ := indexByte_hit hm
    have hg := Lib.indexByte_ge s.data.toList 47
    obtain ⟨i, hi⟩ : ∃ i : Nat, Lib.indexByte s.data.toList 47 = (i : Int) := ⟨(Lib.indexByte s.data.toList 47).toNat, by omega⟩
    have e : cutL s.data.toList = (s.data.toList.take i, s.data.toList.drop (i + 1), true) := by
      unfold cutL; rw [if_neg hm, hi]; rfl
    rw [hi] at h3
    have hlt : i < s.size := by omega
    have HE := Lib.hid e
    have HZ := Lib.hid hsz
    clear e hsz h3 hg hm
    have c1 : (0 : Int) ≤ (i : Int) := by omega
    have c2 : (i : Int) ≤ (s.size : Int) := by omega
    have c3 : (0 : Int) ≤ (i : Int) + 1 := by omega
    have c4 : ((i : Int) + 1) ≤ (s.size : Int) := by omega
    go_enter Tryz.func218, Tryz.ntmps218
    go_wp2_with (go_at_call 236; refine (index_one_any _ _).mono ?_; rintro e w' ⟨rfl, rfl⟩; rw [hi])
    go_quiet (fail)
    go_wp2
    go_ret3
    refine ⟨?_, _, rfl⟩
    have hz : s.data.toList.length - (i + 1) = (s.data.toList.drop (i + 1)).length := by rw [List.length_drop]
    rw [HE.out, Lib.extract_eq, Lib.extract_eq, HZ.out, hz, List.take_of_length_le (Nat.le_refl _), Nat.sub_zero, List.drop_zero]
    rfl

set_option maxHeartbeats 1000000 in
theorem cut_any (s : ByteArray) (w : World) (hs : s.size ≤ maxLen) :
    Calls Tryz.prog 180 #[.string s, .string ⟨#[47]⟩] w fun e w' => e = .returned (.tuple #[.string ⟨(cutL s.data.toList).1.toArray⟩, .string ⟨(cutL s.data.toList).2.1.toArray⟩, .bool (cutL s.data.toList).2.2]) ∧ ∃ n, w' = w.drewN n := by
  go_enter Tryz.func180, Tryz.ntmps180
  go_wp2_with (go_at_call 218; refine (lcut_any _ _ hs).mono ?_; rintro e w' ⟨rfl, n, rfl⟩)
  go_ret3
  exact ⟨rfl, n, rfl⟩

/-- what split hands back -/
def splitV (l : List UInt8) : Value := match splitL l with
  | some (h, r) => .tuple #[.string ⟨h.toArray⟩, .string ⟨r.toArray⟩, .bool true]
  | none => .tuple #[.string ByteArray.empty, .string ByteArray.empty, .bool false]
theorem splitV_miss {l : List UInt8} (h : Lib.hasPrefix l trL = false) : splitV l = .tuple #[.string ByteArray.empty, .string ByteArray.empty, .bool false] := by
  unfold splitV splitL; rw [if_neg (by rw [h]; simp)]

set_option maxHeartbeats 2000000 in
theorem split_any (s : ByteArray) (w : World) (hs : s.size ≤ maxLen) :
    Calls Tryz.prog 129 #[.string s] w fun e w' => e = .returned (splitV s.data.toList) ∧ ∃ n, w' = w.drewN n := by
  cases hp : Lib.hasPrefix s.data.toList trL with
  | false =>
    rw [splitV_miss hp]
    have hp2 : Lib.hasPrefix s.data.toList (⟨#[116, 114, 97, 110, 115, 102, 101, 114, 47]⟩ : ByteArray).data.toList = false := hp
    go_enter Tryz.func129, Tryz.ntmps129
    go_wp2_with (go_at_call 179; refine (cutPrefix_any _ _ _).mono ?_; rintro e w' ⟨rfl, rfl⟩; rw [hp2])
    go_ret3
    exact ⟨rfl, 0, rfl⟩
  | true =>
    have hp2 : Lib.hasPrefix s.data.toList (⟨#[116, 114, 97, 110, 115, 102, 101, 114, 47]⟩ : ByteArray).data.toList = true := hp
    obtain ⟨t, ht⟩ : ∃ t : ByteArray, t = (⟨(s.data.toList.drop 9).toArray⟩ : ByteArray) := ⟨_, rfl⟩
    have htl : t.data.toList = s.data.toList.drop 9 := by rw [ht]
    have hts : t.size ≤ maxLen := by rw [Lib.size_eq, htl, List.length_drop, ← Lib.size_eq]; omega
    have htr : (⟨(Lib.trimPrefix s.data.toList (⟨#[116, 114, 97, 110, 115, 102, 101, 114, 47]⟩ : ByteArray).data.toList).toArray⟩ : ByteArray) = t := by
      rw [ht]; unfold Lib.trimPrefix; rw [if_pos hp2]; rfl
    have hV : splitV s.data.toList = if (cutL t.data.toList).2.2 = true ∧ identL (cutL t.data.toList).1 = true then .tuple #[.string ⟨(cutL t.data.toList).1.toArray⟩, .string ⟨(cutL t.data.toList).2.1.toArray⟩, .bool true] else .tuple #[.string ByteArray.empty, .string ByteArray.empty, .bool false] := by
      rw [htl]
      unfold splitV splitL cutL
      rw [if_pos hp]
      by_cases h1 : Lib.indexByte (s.data.toList.drop 9) 47 = -1
      · rw [if_pos h1, if_pos h1, if_neg (by simp)]
      · rw [if_neg h1, if_neg h1]
        by_cases h2 : identL ((s.data.toList.drop 9).take (Lib.indexByte (s.data.toList.drop 9) 47).toNat) = true
        · rw [if_pos h2, if_pos ⟨rfl, h2⟩]
        · rw [if_neg h2, if_neg (fun h => h2 h.2)]
    rw [hV]
    obtain ⟨c, hc⟩ : ∃ c, c = cutL t.data.toList := ⟨_, rfl⟩
    have hcl : c.1.length ≤ maxLen := by
      rw [hc]; unfold cutL
      rw [Lib.size_eq] at hts
      split
      · exact hts
      · simp only [List.length_take]; omega
    rw [← hc]
    obtain ⟨c1, c2, c3⟩ := c
    have HT := Lib.hid htr
    have HC := Lib.hid hc
    clear htl htr hV ht hc hp
    have hid := ident_any ⟨c1.toArray⟩
    cases c3 with
    | false =>
      rw [if_neg (by simp)]
      go_enter Tryz.func129, Tryz.ntmps129
      go_wp2_with (first | (go_at_call 179; refine (cutPrefix_any _ _ _).mono ?_; rintro e w' ⟨rfl, rfl⟩; rw [hp2, HT.out]) | (go_at_call 180; refine (cut_any _ _ hts).mono ?_; rintro e w' ⟨rfl, n, rfl⟩; rw [← HC.out]))
      go_ret3
      exact ⟨rfl, n, rfl⟩
    | true =>
      cases hi : identL c1 with
      | false =>
        rw [if_neg (by simp)]
        go_enter Tryz.func129, Tryz.ntmps129
        go_wp2_with (first | (go_at_call 179; refine (cutPrefix_any _ _ _).mono ?_; rintro e w' ⟨rfl, rfl⟩; rw [hp2, HT.out]) | (go_at_call 180; refine (cut_any _ _ hts).mono ?_; rintro e w' ⟨rfl, n, rfl⟩; rw [← HC.out]) | (go_at_call 59; refine (ident_any ⟨c1.toArray⟩ _ hcl).mono ?_; rintro e w' ⟨rfl, rfl⟩; rw [hi]))
        go_ret3
        exact ⟨rfl, n, rfl⟩
      | true =>
        rw [if_pos ⟨rfl, rfl⟩]
        go_enter Tryz.func129, Tryz.ntmps129
        go_wp2_with (first | (go_at_call 179; refine (cutPrefix_any _ _ _).mono ?_; rintro e w' ⟨rfl, rfl⟩; rw [hp2, HT.out]) | (go_at_call 180; refine (cut_any _ _ hts).mono ?_; rintro e w' ⟨rfl, n, rfl⟩; rw [← HC.out]) | (go_at_call 59; refine (ident_any ⟨c1.toArray⟩ _ hcl).mono ?_; rintro e w' ⟨rfl, rfl⟩; rw [hi]))
        go_ret3
        exact ⟨rfl, n, rfl⟩
end Go.Proofs.YtpcoonnfaoakhaaGreatDoor
namespace Go.Proofs.YtpcoonnfaoakhaaGreatDoor
set_option maxRecDepth 100000
open Go Go.RowKit

theorem size_mk (l : List UInt8) : (⟨l.toArray⟩ : ByteArray).size = l.length := by rw [Lib.size_eq]
theorem splitV_some {l h r : List UInt8} (e : splitL l = some (h, r)) : splitV l = .tuple #[.string ⟨h.toArray⟩, .string ⟨r.toArray⟩, .bool true] := by unfold splitV; rw [e]
theorem splitV_none {l : List UInt8} (e : splitL l = none) : splitV l = .tuple #[.string ByteArray.empty, .string ByteArray.empty, .bool false] := by unfold splitV; rw [e]
/-- the base is an identifier -/
def endsB (l : List UInt8) : Bool := identL (baseL l)

set_option maxHeartbeats 2000000 in
theorem denom_any (s : ByteArray) (w : World) (hs : s.size ≤ maxLen) :
    Calls Tryz.prog 60 #[.string s] w fun e w' => e = .returned (.bool (denomL s.data.toList)) ∧ ∃ n, w' = w.drewN n := by
  have hsz := Lib.size_eq s
  by_cases h160 : s.size ≤ 160
  · have hd : denomL s.data.toList = endsB s.data.toList := by unfold denomL endsB; rw [decide_eq_true (by omega)]; rfl
    rw [hd]
    clear hd
    have HZ := Lib.hid hsz
    have HS := Lib.hid hs
    clear hsz hs
    go_enter Tryz.func60, Tryz.ntmps60
    go_wp2
    go_loopw [0] (fun v wr => ∃ (x : ByteArray) (n : Nat), v = .string x ∧ x.size ≤ 160 ∧ endsB x.data.toList = endsB s.data.toList ∧ wr = w.drewN n) (fun v _ => match v with | .string x => x.size | _ => 0)
    case atStart => exact ⟨s, 0, rfl, h160, rfl, rfl⟩
    case round =>
      obtain ⟨x, n, rfl, hx, he, rfl⟩ := hrel
      have HE := Lib.hid he
      clear he
      have hxm : x.size ≤ maxLen := by simp only [maxLen]; omega
      have hxz := Lib.size_eq x
      have HX := Lib.hid hxz
      clear hxz
      have HM := Lib.hid hxm
      clear hxm
      cases hsp : splitL x.data.toList with
      | none =>
        have hv := splitV_none hsp
        have HB := Lib.hid (base_none hsp)
        clear hsp
        go_wp2_with (first | (go_at_call 129; refine (split_any _ _ HM.out).mono ?_; rintro e w' ⟨rfl, m, rfl⟩; rw [hv]) | (go_at_call 59; refine (ident_any _ _ HM.out).mono ?_; rintro e w' ⟨rfl, rfl⟩))
        go_ret
        refine ⟨?_, n + m, rfl⟩
        rw [← HE.out]
        unfold endsB
        rw [HB.out.1]
        rfl
      | some p =>
        obtain ⟨h, r⟩ := p
        have hv := splitV_some hsp
        have HB := Lib.hid (base_some hsp)
        have HL := Lib.hid (splitL_len hsp)
        clear hsp
        go_wp2_with (first | (go_at_call 129; refine (split_any _ _ HM.out).mono ?_; rintro e w' ⟨rfl, m, rfl⟩; rw [hv]) | (go_at_call 59; refine (ident_any _ _ HM.out).mono ?_; rintro e w' ⟨rfl, rfl⟩))
        go_roundw
        case rel => exact ⟨⟨r.toArray⟩, n + m, rfl, by rw [size_mk]; have := HL.out; have := HX.out; omega, by rw [← HE.out]; unfold endsB; rw [HB.out.1], rfl⟩
        case measure => have := HL.out; have := HX.out; simp [size_mk]; omega
  · have hd : denomL s.data.toList = false := by unfold denomL; rw [decide_eq_false (by omega)]; rfl
    rw [hd]
    clear hsz hd
    have HS := Lib.hid hs
    clear hs
    go_enter Tryz.func60, Tryz.ntmps60
    go_wp2_with fail
    go_ret
    exact ⟨rfl, 0, rfl⟩
end Go.Proofs.YtpcoonnfaoakhaaGreatDoor
