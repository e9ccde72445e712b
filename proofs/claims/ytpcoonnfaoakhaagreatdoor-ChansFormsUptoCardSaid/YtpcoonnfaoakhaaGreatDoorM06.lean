/- Texts joined: MerkA1. -/
import Derived.Test.YtpcoonnfaoakhaaGreatDoorM01
import Derived.Test.YtpcoonnfaoakhaaGreatDoorM05
import Derived.Test.YtpcoonnfaoakhaaGreatDoorM04
import Derived.Lib.ConvBytes
import Derived.LoopTactic
import Derived.Deep.QuietTactic
import Derived.BigQuiet
namespace Go.Proofs.YtpcoonnfaoakhaaGreatDoor
set_option maxRecDepth 100000
set_option linter.unusedVariables false

theorem xor_one (a : Nat) : a ^^^ 1 = if a % 2 = 0 then a + 1 else a - 1 := by
  have h1 : (a ^^^ 1) / 2 = a / 2 := by rw [Nat.xor_div_two]; simp
  have h2 : (a ^^^ 1) % 2 = (a + 1) % 2 := by
    have h := Nat.xor_mod_two_eq_one (a := a) (b := 1)
    have : a % 2 = 0 ∨ a % 2 = 1 := by omega
    rcases this with h1 | h1
    · have : (a ^^^ 1) % 2 = 1 := h.2 (by rw [h1]; decide)
      omega
    · have : ¬ (a ^^^ 1) % 2 = 1 := fun e => h.1 e (by rw [h1])
      omega
  split <;> omega

/-- the greatest power of two below m -/
def cutM (m : Nat) : Nat := 2 ^ Nat.log2 (m - 1)
theorem cutM_lt {m : Nat} (h : 2 ≤ m) : cutM m < m ∧ m ≤ 2 * cutM m ∧ 1 ≤ cutM m := by
  unfold cutM
  have h1 := Nat.log2_self_le (n := m - 1) (by omega)
  have h2 := Nat.lt_log2_self (n := m - 1)
  rw [Nat.pow_succ] at h2
  exact ⟨by omega, by omega, Nat.one_le_two_pow⟩
theorem cutM_half {m : Nat} (h : 2 < m) : cutM m = 2 * cutM ((m + 1) / 2) := by
  unfold cutM
  have e : (m + 1) / 2 - 1 = (m - 1) / 2 := by omega
  have e2 : Nat.log2 (m - 1) = Nat.log2 ((m - 1) / 2) + 1 := by
    rw [Nat.log2_def (m - 1), if_pos (by omega)]
  rw [e, e2, Nat.pow_succ]
  omega
theorem cutM_two : cutM 2 = 1 := by decide

section
variable (N : List UInt8 → List UInt8 → List UInt8)
def pairUp : List (List UInt8) → List (List UInt8)
  | a :: b :: l => N a b :: pairUp l
  | [a] => [a]
  | [] => []
theorem pairUp_length : ∀ l : List (List UInt8), (pairUp N l).length = (l.length + 1) / 2
  | a :: b :: l => by simp only [pairUp, List.length_cons, pairUp_length l]; omega
  | [a] => by simp [pairUp]
  | [] => by simp [pairUp]
theorem pairUp_append : ∀ (a b : List (List UInt8)), a.length % 2 = 0 → pairUp N (a ++ b) = pairUp N a ++ pairUp N b
  | x :: y :: l, b, h => by simp only [List.cons_append, pairUp]; rw [pairUp_append l b (by simp only [List.length_cons] at h; omega)]
  | [x], b, h => by simp at h
  | [], b, h => rfl
/-- the hash of a row, cut at the greatest power of two -/
def rowR : Nat → List (List UInt8) → List UInt8
  | 0, l => l.headD []
  | f + 1, l => if l.length ≤ 1 then l.headD [] else N (rowR f (l.take (cutM l.length))) (rowR f (l.drop (cutM l.length)))
theorem rowR_one (f : Nat) (l : List (List UInt8)) (h : l.length ≤ 1) : rowR N f l = l.headD [] := by cases f <;> simp [rowR, h]
/-- enough is enough -/
theorem rowR_fuel : ∀ (f g : Nat) (l : List (List UInt8)), l.length ≤ f → l.length ≤ g → rowR N f l = rowR N g l := by
  intro f
  induction f with
  | zero => intro g l h _; rw [rowR_one N 0 l (by omega), rowR_one N g l (by omega)]
  | succ f ih =>
    intro g l h1 h2
    by_cases hl : l.length ≤ 1
    · rw [rowR_one N _ l hl, rowR_one N _ l hl]
    · obtain ⟨g, rfl⟩ : ∃ q, g = q + 1 := ⟨g - 1, by omega⟩
      obtain ⟨c1, c2, c3⟩ := cutM_lt (m := l.length) (by omega)
      unfold rowR
      rw [if_neg hl, if_neg hl, ih g _ (by simp; omega) (by simp; omega), ih g _ (by simp; omega) (by simp; omega)]
def rowT (l : List (List UInt8)) : List UInt8 := rowR N l.length l
theorem rowT_one (l : List (List UInt8)) (h : l.length ≤ 1) : rowT N l = l.headD [] := rowR_one N _ l h
theorem rowT_cut (l : List (List UInt8)) (h : 2 ≤ l.length) : rowT N l = N (rowT N (l.take (cutM l.length))) (rowT N (l.drop (cutM l.length))) := by
  obtain ⟨c1, c2, c3⟩ := cutM_lt h
  unfold rowT
  obtain ⟨f, hf⟩ : ∃ f, l.length = f + 1 := ⟨l.length - 1, by omega⟩
  conv => lhs; rw [hf]; unfold rowR
  rw [if_neg (by omega), rowR_fuel N f (l.take (cutM l.length)).length _ (by simp; omega) (Nat.le_refl _), rowR_fuel N f (l.drop (cutM l.length)).length _ (by simp; omega) (Nat.le_refl _)]
/-- pairing a row's hashes leaves its hash -/
theorem rowT_pair : ∀ (n : Nat) (l : List (List UInt8)), l.length = n → 2 ≤ n → rowT N (pairUp N l) = rowT N l := by
  intro n
  induction n using Nat.strongRecOn with
  | ind n ih =>
    intro l hl hn
    by_cases h2 : n = 2
    · subst h2
      match l, hl with
      | [a, b], _ =>
        rw [rowT_cut N [a, b] (by simp)]
        show _ = N (rowT N ([a, b].take (cutM 2))) (rowT N ([a, b].drop (cutM 2)))
        rw [cutM_two]
        rfl
    · obtain ⟨c1, c2, c3⟩ := cutM_lt (m := n) (by omega)
      have ch := cutM_half (m := n) (by omega)
      have hp : (pairUp N l).length = (n + 1) / 2 := by rw [pairUp_length, hl]
      obtain ⟨d1, d2, d3⟩ := cutM_lt (m := (n + 1) / 2) (by omega)
      have hsplit : pairUp N l = pairUp N (l.take (cutM n)) ++ pairUp N (l.drop (cutM n)) := by
        rw [← pairUp_append N _ _ (by simp; omega), List.take_append_drop]
      have hlt : (pairUp N (l.take (cutM n))).length = cutM ((n + 1) / 2) := by rw [pairUp_length]; simp; omega
      rw [rowT_cut N (pairUp N l) (by omega), rowT_cut N l (by omega), hp, hl, hsplit, List.take_left' hlt, List.drop_left' hlt]
      have e1 : rowT N (pairUp N (l.take (cutM n))) = rowT N (l.take (cutM n)) := ih (cutM n) c1 _ (by simp; omega) (by omega)
      have e2 : rowT N (pairUp N (l.drop (cutM n))) = rowT N (l.drop (cutM n)) := by
        by_cases h1 : n - cutM n ≤ 1
        · have hd : (l.drop (cutM n)).length = 1 := by simp; omega
          match l.drop (cutM n), hd with
          | [x], _ => rfl
        · exact ih (n - cutM n) (by omega) _ (by simp; omega) (by omega)
      rw [e1, e2]

/-- the hashes beside a leaf's way, row by row -/
def wayP : Nat → List (List UInt8) → Nat → List (List UInt8)
  | 0, _, _ => []
  | f + 1, l, i => if l.length ≤ 1 then [] else (if (i ^^^ 1) < l.length then [l.getD (i ^^^ 1) []] else []) ++ wayP f (pairUp N l) (i / 2)
def wayT (l : List (List UInt8)) (i : Nat) : List (List UInt8) := wayP N l.length l i
/-- up from a leaf, row by row; none: there aren't just as many hashes beside its way -/
def upP : Nat → List UInt8 → Nat → Nat → List (List UInt8) → Option (List UInt8)
  | 0, h, _, _, p => if p = [] then some h else none
  | f + 1, h, at_, m, p => if m ≤ 1 then (if p = [] then some h else none) else
      if m ≤ (at_ ^^^ 1) then upP f h (at_ / 2) ((m + 1) / 2) p else match p with
      | [] => none
      | x :: q => upP f (if at_ % 2 = 0 then N h x else N x h) (at_ / 2) ((m + 1) / 2) q
theorem upP_one (f : Nat) (h : List UInt8) (i m : Nat) (p : List (List UInt8)) (hm : m ≤ 1) : upP N f h i m p = if p = [] then some h else none := by cases f <;> simp [upP, hm]
theorem upP_fuel : ∀ (f g : Nat) (h : List UInt8) (i m : Nat) (p : List (List UInt8)), m ≤ f → m ≤ g → upP N f h i m p = upP N g h i m p := by
  intro f
  induction f with
  | zero => intro g h i m p h1 _; rw [upP_one N _ h i m p (by omega), upP_one N _ h i m p (by omega)]
  | succ f ih =>
    intro g h i m p h1 h2
    by_cases hm : m ≤ 1
    · rw [upP_one N _ h i m p hm, upP_one N _ h i m p hm]
    · obtain ⟨g, rfl⟩ : ∃ q, g = q + 1 := ⟨g - 1, by omega⟩
      unfold upP
      rw [if_neg hm, if_neg hm]
      split
      · exact ih g _ _ _ _ (by omega) (by omega)
      · cases p with
        | nil => rfl
        | cons x q => exact ih g _ _ _ _ (by omega) (by omega)
def upT (h : List UInt8) (i m : Nat) (p : List (List UInt8)) : Option (List UInt8) := upP N m h i m p
theorem upT_one (h : List UInt8) (i m : Nat) (p : List (List UInt8)) (hm : m ≤ 1) : upT N h i m p = if p = [] then some h else none := upP_one N _ h i m p hm
theorem upT_odd (h : List UInt8) (i m : Nat) (p : List (List UInt8)) (hm : 2 ≤ m) (hi : m ≤ (i ^^^ 1)) : upT N h i m p = upT N h (i / 2) ((m + 1) / 2) p := by
  unfold upT
  obtain ⟨f, hf⟩ : ∃ f, m = f + 1 := ⟨m - 1, by omega⟩
  conv => lhs; rw [hf]; unfold upP
  rw [← hf, if_neg (by omega), if_pos hi]
  exact upP_fuel N _ _ _ _ _ _ (by omega) (by omega)
theorem upT_nil (h : List UInt8) (i m : Nat) (hm : 2 ≤ m) (hi : (i ^^^ 1) < m) : upT N h i m [] = none := by
  unfold upT
  obtain ⟨f, hf⟩ : ∃ f, m = f + 1 := ⟨m - 1, by omega⟩
  conv => lhs; rw [hf]; unfold upP
  rw [← hf, if_neg (by omega), if_neg (by omega)]
theorem upT_cons (h : List UInt8) (i m : Nat) (x : List UInt8) (q : List (List UInt8)) (hm : 2 ≤ m) (hi : (i ^^^ 1) < m) : upT N h i m (x :: q) = upT N (if i % 2 = 0 then N h x else N x h) (i / 2) ((m + 1) / 2) q := by
  unfold upT
  obtain ⟨f, hf⟩ : ∃ f, m = f + 1 := ⟨m - 1, by omega⟩
  conv => lhs; rw [hf]; unfold upP
  rw [← hf, if_neg (by omega), if_neg (by omega)]
  exact upP_fuel N _ _ _ _ _ _ (by omega) (by omega)
end
end Go.Proofs.YtpcoonnfaoakhaaGreatDoor
namespace Go.Proofs.YtpcoonnfaoakhaaGreatDoor
set_option maxRecDepth 100000
open Go Go.RowKit
set_option linter.unusedVariables false

abbrev Pr := ByteArray × List UInt8
def keyB (s : ByteArray) : Bool := decide (1 ≤ s.size) && decide (s.size ≤ 200)
/-- texts in order -/
def ltS (a b : ByteArray) : Bool := Op.bytesLess a.toList b.toList
def pairB (p : Pr) : Bool := keyB p.1 && decide (p.2.length ≤ 65535)
def ordR : Option ByteArray → List Pr → Bool
  | _, [] => true
  | q, p :: l => pairB p && (match q with | none => true | some a => ltS a p.1) && ordR (some p.1) l
def ordB (ps : List Pr) : Bool := decide (ps.length ≤ 65536) && ordR none ps
/-- the key ahead of place k -/
def prevK (ps : List Pr) (k : Nat) : Option ByteArray := if k = 0 then none else (ps[k - 1]?).map (·.1)
theorem ordR_step (ps : List Pr) (k : Nat) (h : k < ps.length) : ordR (prevK ps k) (ps.drop k) = (pairB ps[k] && (match prevK ps k with | none => true | some a => ltS a ps[k].1) && ordR (prevK ps (k + 1)) (ps.drop (k + 1))) := by
  rw [List.drop_eq_getElem_cons h]
  have : prevK ps (k + 1) = some ps[k].1 := by unfold prevK; rw [if_neg (by omega), Nat.add_sub_cancel, List.getElem?_eq_getElem h]; rfl
  rw [this]
  rfl
theorem ordR_end (ps : List Pr) : ordR (prevK ps ps.length) (ps.drop ps.length) = true := by rw [List.drop_length]; rfl

def wLeaf : ByteArray := ⟨#[108, 101, 97, 102]⟩
def wNode : ByteArray := ⟨#[110, 111, 100, 101]⟩
def wRoot : ByteArray := ⟨#[114, 111, 111, 116]⟩
def tagH (word : ByteArray) (ps : List (List UInt8)) : List UInt8 := shaSum (formB (strBytes word) ++ formBs ps)
def leafH (k : ByteArray) (v : List UInt8) : List UInt8 := tagH wLeaf [strBytes k, v]
def nodeH (a b : List UInt8) : List UInt8 := tagH wNode [a, b]
def rootE : List UInt8 := tagH wRoot [be 0 8]
def rootH (n : Nat) (h : List UInt8) : List UInt8 := tagH wRoot [be n 8, h]
def leaves (ps : List Pr) : List (List UInt8) := ps.map fun p => leafH p.1 p.2
/-- the root of pairs, or the error -/
def rootM (ps : List Pr) : List UInt8 × Int := if ordB ps = true then (if ps = [] then rootE else rootH ps.length (rowT nodeH (leaves ps)), 0) else ([], 60)
theorem tagH_length (word : ByteArray) (ps : List (List UInt8)) : (tagH word ps).length = 32 := shaSum_length _

/-- t times paired -/
def upN : Nat → List (List UInt8) → List (List UInt8)
  | 0, l => l
  | t + 1, l => pairUp nodeH (upN t l)
/-- the rows up to the row t -/
def levN (l : List (List UInt8)) : Nat → List (List (List UInt8))
  | 0 => [upN 0 l]
  | t + 1 => levN l t ++ [upN (t + 1) l]
theorem levN_length (l : List (List UInt8)) (t : Nat) : (levN l t).length = t + 1 := by induction t <;> simp [levN, *]
theorem levN_get (l : List (List UInt8)) (t : Nat) : ∀ j, j ≤ t → (levN l t)[j]? = some (upN j l) := by
  induction t with
  | zero => intro j hj; have : j = 0 := Nat.le_zero.1 hj; subst this; rfl
  | succ t ih =>
    intro j hj
    by_cases h : j ≤ t
    · rw [levN, List.getElem?_append_left (by rw [levN_length]; omega)]; exact ih j h
    · obtain rfl : j = t + 1 := by omega
      rw [levN, List.getElem?_append_right (by rw [levN_length]; omega), levN_length]
      simp
theorem upN_len (l : List (List UInt8)) (t : Nat) : (upN (t + 1) l).length = ((upN t l).length + 1) / 2 := pairUp_length _ _
/-- the root of the row that pairs leave -/
theorem upN_root (l : List (List UInt8)) (t : Nat) (h : ∀ j, j < t → 2 ≤ (upN j l).length) (h1 : (upN t l).length ≤ 1) : (upN t l).headD [] = rowT nodeH l := by
  have key : ∀ t, (∀ j, j < t → 2 ≤ (upN j l).length) → rowT nodeH (upN t l) = rowT nodeH l := by
    intro t
    induction t with
    | zero => intro _; rfl
    | succ t ih => intro h; rw [upN, rowT_pair nodeH _ _ rfl (h t (by omega))]; exact ih fun j hj => h j (by omega)
  rw [← key t h, rowT_one _ _ h1]
theorem pairUp_more (q : Nat) (r : List (List UInt8)) (hq : q % 2 = 0) (h : q + 1 < r.length) : pairUp nodeH (r.take (q + 2)) = pairUp nodeH (r.take q) ++ [nodeH (r[q]'(by omega)) r[q + 1]] := by
  have e : r.take (q + 2) = r.take q ++ [r[q]'(by omega), r[q + 1]] := by
    have e1 := List.take_append_getElem (l := r) (i := q + 1) (by omega)
    have e2 := List.take_append_getElem (l := r) (i := q) (by omega)
    rw [show q + 2 = q + 1 + 1 by omega, ← e1, ← e2, List.append_assoc]
    rfl
  rw [e, pairUp_append _ _ _ (by rw [List.length_take]; omega)]
  rfl
theorem pairUp_odd (q : Nat) (r : List (List UInt8)) (hq : q % 2 = 0) (h : q + 1 = r.length) : pairUp nodeH r = pairUp nodeH (r.take q) ++ [r[q]'(by omega)] := by
  have e : r = r.take q ++ [r[q]'(by omega)] := by
    rw [List.take_append_getElem (l := r) (i := q) (by omega)]
    exact (List.take_of_length_le (by omega)).symm
  have := pairUp_append nodeH (r.take q) [r[q]'(by omega)] (by rw [List.length_take]; omega)
  rw [← e] at this
  exact this
theorem upN_pos (l : List (List UInt8)) (h : 0 < l.length) (t : Nat) : 0 < (upN t l).length := by
  induction t with
  | zero => exact h
  | succ t ih => rw [upN_len]; omega
/-- the number of the first pair whose key is not below that one -/
def placeM (key : ByteArray) : List Pr → Nat
  | [] => 0
  | p :: l => if ltS p.1 key = true then placeM key l + 1 else 0
theorem rootM_no {ps : List Pr} (h : ordB ps = false) : rootM ps = ([], 60) := by unfold rootM; rw [if_neg (by simp [h])]
theorem rootM_nil {ps : List Pr} (h : ordB ps = true) (h0 : ps.length = 0) : rootM ps = (rootE, 0) := by
  unfold rootM
  rw [if_pos h, if_pos (List.length_eq_zero_iff.1 h0)]
theorem rootM_some {ps : List Pr} (h : ordB ps = true) (h0 : 0 < ps.length) : rootM ps = (rootH ps.length (rowT nodeH (leaves ps)), 0) := by
  unfold rootM
  rw [if_pos h, if_neg (by intro e; rw [e] at h0; simp at h0)]
theorem ordB_len {ps : List Pr} (h : ordB ps = true) : ps.length ≤ 65536 := by
  unfold ordB at h
  simp only [Bool.and_eq_true, decide_eq_true_eq] at h
  exact h.1
end Go.Proofs.YtpcoonnfaoakhaaGreatDoor
namespace Go.Proofs.YtpcoonnfaoakhaaGreatDoor
set_option maxRecDepth 100000
open Go Go.RowKit
set_option linter.unusedVariables false
variable {w w' : World} {B : Nat}

/-- pairs handed in -/
def RdP (w : World) (B : Nat) (v : Value) (ps : List Pr) : Prop :=
  ∃ A c, v = .slice A ps.length c ∧ ps.length ≤ c ∧ c ≤ maxLen ∧ (0 < ps.length → ∃ b o, A = some ⟨b, o, none⟩ ∧ b < B ∧ ∀ j (h : j < ps.length),
    w.cell? ⟨b, o + j * 2, none⟩ = some (.string ps[j].1) ∧ ∃ x, w.cell? ⟨b, o + j * 2 + 1, none⟩ = some x ∧ Rd w B x ps[j].2)
theorem RdP.below {v : Value} {ps : List Pr} (h : RdP w B v ps) (hb : Below B w w') : RdP w' B v ps := by
  obtain ⟨A, c, rfl, h1, h2, hp⟩ := h
  refine ⟨A, c, rfl, h1, h2, fun h0 => ?_⟩
  obtain ⟨b, o, rfl, hlt, hc⟩ := hp h0
  refine ⟨b, o, rfl, hlt, fun j hj => ?_⟩
  obtain ⟨q1, x, q2, q3⟩ := hc j hj
  exact ⟨(hb.cell (p := ⟨b, o + j * 2, none⟩) hlt).trans q1, x, (hb.cell (p := ⟨b, o + j * 2 + 1, none⟩) hlt).trans q2, q3.below hb⟩
theorem RdP.more {B' : Nat} {v : Value} {ps : List Pr} (h : RdP w B v ps) (hB : B ≤ B') : RdP w B' v ps := by
  obtain ⟨A, c, rfl, h1, h2, hp⟩ := h
  refine ⟨A, c, rfl, h1, h2, fun h0 => ?_⟩
  obtain ⟨b, o, rfl, hlt, hc⟩ := hp h0
  refine ⟨b, o, rfl, by omega, fun j hj => ?_⟩
  obtain ⟨q1, x, q2, q3⟩ := hc j hj
  exact ⟨q1, x, q2, q3.more hB⟩

theorem keyFits_any (s : ByteArray) (w : World) (hs : s.size ≤ maxLen) : Calls Tryz.prog 158 #[.string s] w fun e w' => e = .returned (.bool (keyB s)) ∧ w = w' := by
  unfold maxLen at hs
  by_cases h1 : 1 ≤ s.size
  · by_cases h2 : s.size ≤ 200
    · have e : keyB s = true := by simp [keyB, h1, h2]
      have i1 : (1 : Int) ≤ (s.size : Int) := by omega
      have i2 : (s.size : Int) ≤ 200 := by omega
      rw [e]
      clear e
      go_enter Tryz.func158, Tryz.ntmps158
      go_wp2
      go_ret
      exact ⟨rfl, rfl⟩
    · have e : keyB s = false := by simp [keyB, h2]
      have i1 : (1 : Int) ≤ (s.size : Int) := by omega
      have i2 : decide ((s.size : Int) ≤ 200) = false := by simp; omega
      rw [e]
      clear e
      go_enter Tryz.func158, Tryz.ntmps158
      go_wp2
      go_ret
      exact ⟨rfl, rfl⟩
  · have e : keyB s = false := by simp [keyB, h1]
    have i1 : decide ((1 : Int) ≤ (s.size : Int)) = false := by simp; omega
    rw [e]
    clear e
    go_enter Tryz.func158, Tryz.ntmps158
    go_wp2
    go_ret
    exact ⟨rfl, rfl⟩

set_option maxHeartbeats 2000000 in
theorem ordered_any (w : World) (v : Value) (ps : List Pr) (hr : RdP w w.heap.size v ps) (hnl : ∀ p ∈ ps, p.1.size ≤ maxLen) :
    Calls Tryz.prog 100 #[v] w fun e w' => e = .returned (.bool (ordB ps)) ∧ Below w.heap.size w w' := by
  obtain ⟨A, c, rfl, hc, hm, hp⟩ := hr
  unfold maxLen at hm
  obtain ⟨n, hn⟩ : ∃ n, n = ps.length := ⟨_, rfl⟩
  rw [← hn] at hc ⊢
  have HN := Lib.hid hn
  have HP := Lib.hid hp
  have HK := Lib.hid hnl
  clear hp hnl hn
  by_cases hbig : n ≤ 65536
  · have i0 : (n : Int) ≤ 65536 := by omega
    have hE : ordB ps = ordR none ps := by unfold ordB; rw [decide_eq_true (by rw [← HN.out]; exact hbig)]; rfl
    rw [hE]
    have HO : Hid (∀ k, k ≤ n → True) := Lib.hid fun _ _ => trivial
    clear hE HO
    go_enter Tryz.func100, Tryz.ntmps100
    go_wp2_with fail
    go_loopw [3, 4, 10] (fun _ _ i wr => ∃ k : Nat, k ≤ n ∧ i = .int .i64 (k : Int) ∧ Hid (ordR none ps = ordR (prevK ps k) (ps.drop k)) ∧ Below w.heap.size w wr)
      (fun _ _ i _ => n - (intOf i).toNat)
    case atStart => exact ⟨0, Nat.zero_le _, rfl, Lib.hid rfl, Below.refl _ _⟩
    case round =>
      obtain ⟨k, hk, rfl, HR, hb⟩ := hrel
      by_cases hlt : k < n
      · have hkl : k < ps.length := by have := HN.out; omega
        obtain ⟨b, o, rfl, hbl, hcell⟩ := HP.out (by omega)
        obtain ⟨q1, x, q2, q3⟩ := hcell k hkl
        have a1 := (hb.cell (p := ⟨b, o + k * 2, none⟩) hbl).trans q1
        have a2 := (hb.cell (p := ⟨b, o + k * 2 + 1, none⟩) hbl).trans q2
        have hst := ordR_step ps k hkl
        rw [← HR.out] at hst
        have hks := HK.out _ (List.getElem_mem hkl)
        have i1 : (0 : Int) ≤ (k : Int) := by omega
        have i2 : (k : Int) < (n : Int) := by omega
        obtain ⟨Ax, cx, rfl⟩ := q3.form
        have hxl : (ps[k].2).length ≤ 9223372036854775807 := q3.len
        have hbx := hb.alloc hb.size (.cells #[.string ps[k].1, .slice Ax ps[k].2.length cx] 48)
        have hprev : ∀ (q : Nat) (hq : q + 1 = k), (wr.alloc (.cells #[.string ps[k].1, .slice Ax ps[k].2.length cx] 48)).cell? ⟨b, o + q * 2, none⟩ = some (.string (ps[q]'(by omega)).1) := fun q hq =>
          (hbx.cell (p := ⟨b, o + q * 2, none⟩) hbl).trans (hcell q (by omega)).1
        have hpk : ∀ (q : Nat) (hq : q + 1 = k), prevK ps k = some (ps[q]'(by omega)).1 := fun q hq => by
          subst hq
          unfold prevK
          rw [if_neg (by omega), Nat.add_sub_cancel, List.getElem?_eq_getElem (by omega)]
          rfl
        have hp0 : k = 0 → prevK ps k = none := fun h0 => by unfold prevK; rw [if_pos h0]
        have hpb : pairB ps[k] = (keyB ps[k].1 && decide (ps[k].2.length ≤ 65535)) := rfl
        generalize ps[k].1 = s at *
        generalize ps[k].2.length = xl at *
        have HBX := Lib.hid hbx
        have HPV := Lib.hid (And.intro hprev (And.intro hpk hp0))
        clear hprev hpk hp0 hcell q1 q2 q3 hb
        go_wp2_with fail
        refine (keyFits_any s _ hks).mono ?_
        rintro e w1 ⟨rfl, rfl⟩
        cases hkb : keyB s with
        | false =>
          have hres : Hid (ordR none ps = false) := Lib.hid (by rw [hst, hpb, hkb]; rfl)
          clear hst hpb hkb
          go_wp2_with fail
          go_ret
          exact ⟨by rw [hres.out]; rfl, HBX.out⟩
        | true =>
          by_cases hxl2 : xl ≤ 65535
          · have i3 : (xl : Int) ≤ 65535 := by omega
            have hst2 : ordR none ps = ((match prevK ps k with | none => true | some a => ltS a s) && ordR (prevK ps (k + 1)) (ps.drop (k + 1))) := by rw [hst, hpb, hkb, decide_eq_true hxl2]; rfl
            clear hst hpb hkb
            by_cases h0 : k = 0
            · have hres : Hid (ordR none ps = ordR (prevK ps (k + 1)) (ps.drop (k + 1))) := Lib.hid (by rw [hst2, HPV.out.2.2 h0]; rfl)
              subst h0
              clear hst2
              go_wp2_with fail
              go_quiet (fail)
              go_wp2_with fail
              exact ⟨⟨0 + 1, by omega, rfl, hres, below_drewN' HBX.out _⟩, by simp [intOf]; omega⟩
            · have h0' : 0 < k := by omega
              obtain ⟨q, hq⟩ : ∃ q, q + 1 = k := ⟨k - 1, by omega⟩
              have hcq := HPV.out.1 q hq
              have hst3 := hst2
              rw [HPV.out.2.1 q hq] at hst3
              dsimp only at hst3
              have j1 : (0 : Int) < (k : Int) := by omega
              have j2 : IntKind.i64.wrap ((k : Int) - 1) = (q : Int) := by rw [IntKind.wrap_i64]; omega
              have j3 : (q : Int) < (n : Int) := by omega
              have j4 : (0 : Int) ≤ (q : Int) := by omega
              have hql : q < ps.length := by omega
              generalize (ps[q]'(by omega)).1 = s0 at *
              clear hq
              cases hlt0 : ltS s0 s with
              | true =>
                have hres : Hid (ordR none ps = ordR (prevK ps (k + 1)) (ps.drop (k + 1))) := Lib.hid (by rw [hst3, hlt0]; rfl)
                have hl : Op.bytesLess s0.toList s.toList = true := hlt0
                clear hst2 hst3 hlt0
                go_wp2_with fail
                go_quiet (fail)
                go_wp2_with fail
                exact ⟨⟨k + 1, by omega, by go_num, hres, below_drewN' HBX.out _⟩, by simp [intOf]; omega⟩
              | false =>
                have hres : Hid (ordR none ps = false) := Lib.hid (by rw [hst3, hlt0]; rfl)
                have hl : Op.bytesLess s0.toList s.toList = false := hlt0
                clear hst2 hst3 hlt0
                go_wp2_with fail
                go_quiet (fail)
                go_wp2_with fail
                go_ret
                exact ⟨by rw [hres.out]; rfl, below_drewN' HBX.out _⟩
          · have i3 : ¬ (xl : Int) ≤ 65535 := by omega
            have hres : Hid (ordR none ps = false) := Lib.hid (by rw [hst, hpb, decide_eq_false hxl2]; simp)
            clear hst hpb hkb
            go_wp2_with fail
            go_ret
            exact ⟨by rw [hres.out]; rfl, HBX.out⟩
      · obtain rfl : k = n := by omega
        have i2 : ¬ (k : Int) < (k : Int) := by omega
        have hres : Hid (ordR none ps = true) := Lib.hid (by rw [HR.out, HN.out]; exact ordR_end ps)
        go_wp2_with fail
        go_ret
        exact ⟨by rw [hres.out]; rfl, hb⟩
  · have i0 : ¬ (n : Int) ≤ 65536 := by omega
    have hE : Hid (ordB ps = false) := Lib.hid (by unfold ordB; rw [decide_eq_false (by rw [← HN.out]; exact hbig)]; rfl)
    go_enter Tryz.func100, Tryz.ntmps100
    go_wp2_with fail
    go_ret
    exact ⟨by rw [hE.out]; rfl, Below.refl _ _⟩

theorem number_any (n : Nat) (w : World) (hn : n ≤ 9223372036854775807) :
    Calls Tryz.prog 104 #[.int .i64 (n : Int)] w fun e w' => ∃ v, e = .returned v ∧ Own w' w.heap.size v (be n 8) ∧ Below w.heap.size w w' := by
  have k1 : IntKind.u64.wrap (n : Int) = (n : Int) := by rw [IntKind.wrap_u64]; omega
  go_enter Tryz.func104, Tryz.ntmps104
  go_wp2_with fail
  refine (N_any (.slice none 0 0) [] n w (Rd.nil _ _) (by omega) (by simp)).mono ?_
  rintro e w1 ⟨v1, rfl, ho, hb⟩
  go_wp2_with fail
  go_ret
  exact ⟨_, rfl, ho, hb⟩
theorem partsA1 (w : World) (va : Value) (a : List UInt8) (t : TypeId) (ha : Rd w w.heap.size va a) :
    Parts (w.alloc (.cells #[va] t)) (w.alloc (.cells #[va] t)).heap.size (.slice (some ⟨w.heap.size, 0, none⟩) 1 1) [a] := by
  have hbw : Below w.heap.size w (w.alloc (.cells #[va] t)) := (Below.refl _ _).alloc (Nat.le_refl _) _
  have hg := heap_alloc_new w (.cells #[va] t)
  refine ⟨_, 1, rfl, fun _ => ⟨w.heap.size, 0, rfl, by simp, fun j hj => ?_⟩⟩
  rw [show (0 + j) = j by omega, blk_cell hg]
  rcases j with _ | j
  · exact ⟨va, rfl, ha.up (Nat.le_refl _) hbw⟩
  · exact absurd hj (by simp)
theorem partsA2 (w : World) (va vb : Value) (a b : List UInt8) (t : TypeId) (ha : Rd w w.heap.size va a) (hb : Rd w w.heap.size vb b) :
    Parts (w.alloc (.cells #[va, vb] t)) (w.alloc (.cells #[va, vb] t)).heap.size (.slice (some ⟨w.heap.size, 0, none⟩) 2 2) [a, b] := by
  have hbw : Below w.heap.size w (w.alloc (.cells #[va, vb] t)) := (Below.refl _ _).alloc (Nat.le_refl _) _
  have hg := heap_alloc_new w (.cells #[va, vb] t)
  refine ⟨_, 2, rfl, fun _ => ⟨w.heap.size, 0, rfl, by simp, fun j hj => ?_⟩⟩
  rw [show (0 + j) = j by omega, blk_cell hg]
  rcases j with _ | _ | j
  · exact ⟨va, rfl, ha.up (Nat.le_refl _) hbw⟩
  · exact ⟨vb, rfl, hb.up (Nat.le_refl _) hbw⟩
  · exact absurd hj (by simp)
/-- a text's bytes, made -/
theorem conv_str (w : World) (s : ByteArray) (hs : s.size ≤ maxLen) : ∃ (c : Nat) (w' : World), (convert 9 27 (.string s)).run Tryz.prog w = .ok (.slice (some ⟨w.heap.size, 0, none⟩) s.size c) w' ∧ Rd w' w'.heap.size (.slice (some ⟨w.heap.size, 0, none⟩) s.size c) (strBytes s) ∧ Below w.heap.size w w' := by
  refine ⟨_, _, Lib.run_convert_string_bytes (P := Tryz.prog) w 9 27 5 s (u := .string) Tryz.isString Tryz.underlying27 Tryz.underlying5, ?_, ?_⟩
  · refine ⟨_, _, by rw [strBytes_length], by rw [strBytes_length]; exact grownCap_ge _ _ _ _, grownCap_le_maxLen _ _ _ _ hs, fun h0 => ⟨w.heap.size, 0, rfl, by rw [Lib.bytesWorld_size]; omega, fun j hj => ?_⟩⟩
    rw [strBytes_length] at hj
    rw [Nat.zero_add, Lib.bytesWorld_cell w _ s j hj]
    unfold bval strBytes
    have hl : j < s.data.toList.length := by simpa using hj
    rw [List.getD_eq_getElem?_getD, List.getElem?_eq_getElem hl]
    rfl
  · exact ⟨rfl, rfl, rfl, by rw [Lib.bytesWorld_size]; omega, fun k hk => Lib.bytesWorld_at_old w _ s k hk⟩
end Go.Proofs.YtpcoonnfaoakhaaGreatDoor
namespace Go.Proofs.YtpcoonnfaoakhaaGreatDoor
set_option maxRecDepth 100000
open Go Go.RowKit
set_option linter.unusedVariables false

set_option maxHeartbeats 1000000 in
theorem leafHash_any (s : ByteArray) (v : Value) (l : List UInt8) (w : World) (hs : s.size ≤ maxLen) (hv : Rd w w.heap.size v l) (fr : TypeId × Nat × Nat) (hk : w.heap[0]? = some (.cells kVals fr.1 fr.2)) :
    Calls Tryz.prog 159 #[.string s, v] w fun e w' => ∃ v', e = .returned v' ∧ Own w' w.heap.size v' (leafH s l) ∧ Below w.heap.size w w' := by
  have hn0 := blk_lt hk
  have HK := Lib.hid hk
  clear hk
  obtain ⟨c, w1, hrun, hr1, hb1⟩ := conv_str w s hs
  have hr2 := hv.up (Nat.le_refl _) hb1
  have hp := partsA2 w1 _ v (strBytes s) l 27 hr1 hr2
  have hbx := hb1.alloc hb1.size (.cells #[.slice (some ⟨w.heap.size, 0, none⟩) s.size c, v] 27)
  have hkx := (hbx.block _ hn0).trans HK.out
  obtain ⟨A, cc, rfl⟩ := hv.form
  clear hv hr1 hr2
  go_enter Tryz.func159, Tryz.ntmps159
  go_wp2_with fail
  refine (tagged_any wLeaf _ [strBytes s, l] _ hp (by unfold maxLen wLeaf; decide) (by simp) fr hkx).mono ?_
  rintro e w2 ⟨v2, rfl, ho2, hb2⟩
  have hq := below_chain hbx hbx.size hb2
  go_wp2_with fail
  go_ret
  exact ⟨_, rfl, ho2.more hbx.size, hq⟩

set_option maxHeartbeats 1000000 in
theorem nodeM_any (v1 v2 : Value) (a b : List UInt8) (w : World) (h1 : Rd w w.heap.size v1 a) (h2 : Rd w w.heap.size v2 b) (fr : TypeId × Nat × Nat) (hk : w.heap[0]? = some (.cells kVals fr.1 fr.2)) :
    Calls Tryz.prog 160 #[v1, v2] w fun e w' => ∃ v', e = .returned v' ∧ Own w' w.heap.size v' (nodeH a b) ∧ Below w.heap.size w w' := by
  have hn0 := blk_lt hk
  have HK := Lib.hid hk
  clear hk
  have hp := partsA2 w v1 v2 a b 27 h1 h2
  have hbx := (Below.refl w.heap.size w).alloc (Nat.le_refl _) (.cells #[v1, v2] 27)
  have hkx := (hbx.block _ hn0).trans HK.out
  obtain ⟨A, cc, rfl⟩ := h1.form
  obtain ⟨A2, cc2, rfl⟩ := h2.form
  clear h1 h2
  go_enter Tryz.func160, Tryz.ntmps160
  go_wp2_with fail
  refine (tagged_any wNode _ [a, b] _ hp (by unfold maxLen wNode; decide) (by simp) fr hkx).mono ?_
  rintro e w2 ⟨v2, rfl, ho2, hb2⟩
  have hq := below_chain hbx hbx.size hb2
  go_wp2_with fail
  go_ret
  exact ⟨_, rfl, ho2.more hbx.size, hq⟩

set_option maxHeartbeats 1000000 in
theorem emptyRoot_any (w : World) (fr : TypeId × Nat × Nat) (hk : w.heap[0]? = some (.cells kVals fr.1 fr.2)) :
    Calls Tryz.prog 101 #[] w fun e w' => ∃ v', e = .returned v' ∧ Own w' w.heap.size v' rootE ∧ Below w.heap.size w w' := by
  have hn0 := blk_lt hk
  have HK := Lib.hid hk
  clear hk
  go_enter Tryz.func101, Tryz.ntmps101
  go_wp2_with fail
  refine (number_any 0 w (by omega)).mono ?_
  rintro e w1 ⟨v1, rfl, ho1, hb1⟩
  have hp := partsA1 w1 v1 (be 0 8) 27 ho1.rd
  have hbx := hb1.alloc hb1.size (.cells #[v1] 27)
  have hkx := (hbx.block _ hn0).trans HK.out
  obtain ⟨A, cc, rfl⟩ := ho1.form
  clear ho1
  go_wp2_with fail
  refine (tagged_any wRoot _ [be 0 8] _ hp (by unfold maxLen wRoot; decide) (by simp) fr hkx).mono ?_
  rintro e w2 ⟨v2, rfl, ho2, hb2⟩
  have hq := below_chain hbx hbx.size hb2
  go_wp2_with fail
  go_ret
  exact ⟨_, rfl, ho2.more hbx.size, hq⟩
end Go.Proofs.YtpcoonnfaoakhaaGreatDoor
