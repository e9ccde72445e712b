
/- The model of merkle: pairs in order, hashes of leaves and nodes, roots. Mathematics alone. The walks of merkle: keyFits, ordered, the hashes of leaves and nodes, a number's bytes. The walks of merkle: hashes of leaves, nodes, of no pair. -/
import Derived.Test.YtlkbjhhbpmmamaaShaM0
import Derived.Test.YtlkbjhhbpmmamaaTree
import Derived.Test.YtlkbjhhbpmmamaaWireW0
import Derived.Lib.ConvBytes
import Derived.LoopTactic
import Derived.Deep.QuietTactic
import Derived.BigQuiet
namespace Go.Proofs.Ytlkbjhhbpmmamaa
set_option maxRecDepth 100000
open Go Go.RowKit
set_option linter.unusedVariables false

abbrev Pr := ByteArray × List UInt8
def keyB (s : ByteArray) : Bool := decide (1 ≤ s.size) && decide (s.size ≤ 200)
/-- texts in order -/
def ltS (a b : ByteArray) : Bool := Op.bytesLess a.toList b.toList
def pairB (p : Pr) : Bool := keyB p.1 && decide (p.2.length ≤ 65535)
def ordR : Option ByteArray → List Pr → Bool
  | _, [] => true
  | q, p :: l => pairB p && (match q with | none => true | some a => ltS a p.1) && ordR (some p.1) l
def ordB (ps : List Pr) : Bool := decide (ps.length ≤ 65536) && ordR none ps
/-- the key ahead of place k -/
def prevK (ps : List Pr) (k : Nat) : Option ByteArray := if k = 0 then none else (ps[k - 1]?).map (·.1)
theorem ordR_step (ps : List Pr) (k : Nat) (h : k < ps.length) : ordR (prevK ps k) (ps.drop k) = (pairB ps[k] && (match prevK ps k with | none => true | some a => ltS a ps[k].1) && ordR (prevK ps (k + 1)) (ps.drop (k + 1))) := by
  rw [List.drop_eq_getElem_cons h]
  have : prevK ps (k + 1) = some ps[k].1 := by unfold prevK; rw [if_neg (by omega), Nat.add_sub_cancel, List.getElem?_eq_getElem h]; rfl
  rw [this]
  rfl
theorem ordR_end (ps : List Pr) : ordR (prevK ps ps.length) (ps.drop ps.length) = true := by rw [List.drop_length]; rfl

def wLeaf : ByteArray := ⟨#[108, 101, 97, 102]⟩
def wNode : ByteArray := ⟨#[110, 111, 100, 101]⟩
def wRoot : ByteArray := ⟨#[114, 111, 111, 116]⟩
def tagH (word : ByteArray) (ps : List (List UInt8)) : List UInt8 := shaSum (formB (strBytes word) ++ formBs ps)
def leafH (k : ByteArray) (v : List UInt8) : List UInt8 := tagH wLeaf [strBytes k, v]
def nodeH (a b : List UInt8) : List UInt8 := tagH wNode [a, b]
def rootE : List UInt8 := tagH wRoot [be 0 8]
def rootH (n : Nat) (h : List UInt8) : List UInt8 := tagH wRoot [be n 8, h]
def leaves (ps : List Pr) : List (List UInt8) := ps.map fun p => leafH p.1 p.2
/-- the root of pairs, or the error -/
def rootM (ps : List Pr) : List UInt8 × Int := if ordB ps = true then (if ps = [] then rootE else rootH ps.length (rowT nodeH (leaves ps)), 0) else ([], 60)
theorem tagH_length (word : ByteArray) (ps : List (List UInt8)) : (tagH word ps).length = 32 := shaSum_length _

/-- t times paired -/
def upN : Nat → List (List UInt8) → List (List UInt8)
  | 0, l => l
  | t + 1, l => pairUp nodeH (upN t l)
/-- the rows up to the row t -/
def levN (l : List (List UInt8)) : Nat → List (List (List UInt8))
  | 0 => [upN 0 l]
  | t + 1 => levN l t ++ [upN (t + 1) l]
theorem levN_length (l : List (List UInt8)) (t : Nat) : (levN l t).length = t + 1 := by induction t <;> simp [levN, *]
theorem levN_get (l : List (List UInt8)) (t : Nat) : ∀ j, j ≤ t → (levN l t)[j]? = some (upN j l) := by
  induction t with
  | zero => intro j hj; have : j = 0 := Nat.le_zero.1 hj; subst this; rfl
  | succ t ih =>
    intro j hj
    by_cases h : j ≤ t
    · rw [levN, List.getElem?_append_left (by rw [levN_length]; omega)]; exact ih j h
    · obtain rfl : j = t + 1 := by omega
      rw [levN, List.getElem?_append_right (by rw [levN_length]; omega), levN_length]
      simp
theorem upN_len (l : List (List UInt8)) (t : Nat) : (upN (t + 1) l).length = ((upN t l).length + 1) / 2 := pairUp_length _ _
theorem upN_in (l : List (List UInt8)) (t : Nat) : upN (t + 1) l = upN t (pairUp nodeH l) := by
  induction t with
  | zero => rfl
  | succ t ih => rw [upN, ih, upN]
/-- the root of the row that pairs leave -/
theorem upN_root (l : List (List UInt8)) (t : Nat) (h : ∀ j, j < t → 2 ≤ (upN j l).length) (h1 : (upN t l).length ≤ 1) : (upN t l).headD [] = rowT nodeH l := by
  have key : ∀ t, (∀ j, j < t → 2 ≤ (upN j l).length) → rowT nodeH (upN t l) = rowT nodeH l := by
    intro t
    induction t with
    | zero => intro _; rfl
    | succ t ih => intro h; rw [upN, rowT_pair nodeH _ _ rfl (h t (by omega))]; exact ih fun j hj => h j (by omega)
  rw [← key t h, rowT_one _ _ h1]
theorem pairUp_more (q : Nat) (r : List (List UInt8)) (hq : q % 2 = 0) (h : q + 1 < r.length) : pairUp nodeH (r.take (q + 2)) = pairUp nodeH (r.take q) ++ [nodeH (r[q]'(by omega)) r[q + 1]] := by
  have e : r.take (q + 2) = r.take q ++ [r[q]'(by omega), r[q + 1]] := by
    have e1 := List.take_append_getElem (l := r) (i := q + 1) (by omega)
    have e2 := List.take_append_getElem (l := r) (i := q) (by omega)
    rw [show q + 2 = q + 1 + 1 by omega, ← e1, ← e2, List.append_assoc]
    rfl
  rw [e, pairUp_append _ _ _ (by rw [List.length_take]; omega)]
  rfl
theorem pairUp_odd (q : Nat) (r : List (List UInt8)) (hq : q % 2 = 0) (h : q + 1 = r.length) : pairUp nodeH r = pairUp nodeH (r.take q) ++ [r[q]'(by omega)] := by
  have e : r = r.take q ++ [r[q]'(by omega)] := by
    rw [List.take_append_getElem (l := r) (i := q) (by omega)]
    exact (List.take_of_length_le (by omega)).symm
  have := pairUp_append nodeH (r.take q) [r[q]'(by omega)] (by rw [List.length_take]; omega)
  rw [← e] at this
  exact this
theorem upN_pos (l : List (List UInt8)) (h : 0 < l.length) (t : Nat) : 0 < (upN t l).length := by
  induction t with
  | zero => exact h
  | succ t ih => rw [upN_len]; omega
/-- the number of the first pair whose key is not below that one -/
def placeM (key : ByteArray) : List Pr → Nat
  | [] => 0
  | p :: l => if ltS p.1 key = true then placeM key l + 1 else 0
theorem placeM_le (key : ByteArray) : ∀ l, placeM key l ≤ l.length
  | [] => Nat.le_refl _
  | p :: l => by have := placeM_le key l; unfold placeM; split <;> simp only [List.length_cons] <;> omega
theorem rootM_no {ps : List Pr} (h : ordB ps = false) : rootM ps = ([], 60) := by unfold rootM; rw [if_neg (by simp [h])]
theorem rootM_nil {ps : List Pr} (h : ordB ps = true) (h0 : ps.length = 0) : rootM ps = (rootE, 0) := by
  unfold rootM
  rw [if_pos h, if_pos (List.length_eq_zero_iff.1 h0)]
theorem rootM_some {ps : List Pr} (h : ordB ps = true) (h0 : 0 < ps.length) : rootM ps = (rootH ps.length (rowT nodeH (leaves ps)), 0) := by
  unfold rootM
  rw [if_pos h, if_neg (by intro e; rw [e] at h0; simp at h0)]
theorem ordB_len {ps : List Pr} (h : ordB ps = true) : ps.length ≤ 65536 := by
  unfold ordB at h
  simp only [Bool.and_eq_true, decide_eq_true_eq] at h
  exact h.1
end Go.Proofs.Ytlkbjhhbpmmamaa
namespace Go.Proofs.Ytlkbjhhbpmmamaa
set_option maxRecDepth 100000
open Go Go.RowKit
set_option linter.unusedVariables false
variable {w w' : World} {B : Nat}

/-- pairs handed in -/
def RdP (w : World) (B : Nat) (v : Value) (ps : List Pr) : Prop :=
  ∃ A c, v = .slice A ps.length c ∧ ps.length ≤ c ∧ c ≤ maxLen ∧ (0 < ps.length → ∃ b o, A = some ⟨b, o, none⟩ ∧ b < B ∧ ∀ j (h : j < ps.length),
    w.cell? ⟨b, o + j * 2, none⟩ = some (.string ps[j].1) ∧ ∃ x, w.cell? ⟨b, o + j * 2 + 1, none⟩ = some x ∧ Rd w B x ps[j].2)
theorem RdP.below {v : Value} {ps : List Pr} (h : RdP w B v ps) (hb : Below B w w') : RdP w' B v ps := by
  obtain ⟨A, c, rfl, h1, h2, hp⟩ := h
  refine ⟨A, c, rfl, h1, h2, fun h0 => ?_⟩
  obtain ⟨b, o, rfl, hlt, hc⟩ := hp h0
  refine ⟨b, o, rfl, hlt, fun j hj => ?_⟩
  obtain ⟨q1, x, q2, q3⟩ := hc j hj
  exact ⟨(hb.cell (p := ⟨b, o + j * 2, none⟩) hlt).trans q1, x, (hb.cell (p := ⟨b, o + j * 2 + 1, none⟩) hlt).trans q2, q3.below hb⟩
theorem RdP.more {B' : Nat} {v : Value} {ps : List Pr} (h : RdP w B v ps) (hB : B ≤ B') : RdP w B' v ps := by
  obtain ⟨A, c, rfl, h1, h2, hp⟩ := h
  refine ⟨A, c, rfl, h1, h2, fun h0 => ?_⟩
  obtain ⟨b, o, rfl, hlt, hc⟩ := hp h0
  refine ⟨b, o, rfl, by omega, fun j hj => ?_⟩
  obtain ⟨q1, x, q2, q3⟩ := hc j hj
  exact ⟨q1, x, q2, q3.more hB⟩

theorem partsA1 (w : World) (va : Value) (a : List UInt8) (t : TypeId) (ha : Rd w w.heap.size va a) :
    Parts (w.alloc (.cells #[va] t)) (w.alloc (.cells #[va] t)).heap.size (.slice (some ⟨w.heap.size, 0, none⟩) 1 1) [a] := by
  have hbw : Below w.heap.size w (w.alloc (.cells #[va] t)) := (Below.refl _ _).alloc (Nat.le_refl _) _
  have hg := heap_alloc_new w (.cells #[va] t)
  refine ⟨_, 1, rfl, fun _ => ⟨w.heap.size, 0, rfl, by simp, fun j hj => ?_⟩⟩
  rw [show (0 + j) = j by omega, blk_cell hg]
  rcases j with _ | j
  · exact ⟨va, rfl, ha.up (Nat.le_refl _) hbw⟩
  · exact absurd hj (by simp)
theorem partsA2 (w : World) (va vb : Value) (a b : List UInt8) (t : TypeId) (ha : Rd w w.heap.size va a) (hb : Rd w w.heap.size vb b) :
    Parts (w.alloc (.cells #[va, vb] t)) (w.alloc (.cells #[va, vb] t)).heap.size (.slice (some ⟨w.heap.size, 0, none⟩) 2 2) [a, b] := by
  have hbw : Below w.heap.size w (w.alloc (.cells #[va, vb] t)) := (Below.refl _ _).alloc (Nat.le_refl _) _
  have hg := heap_alloc_new w (.cells #[va, vb] t)
  refine ⟨_, 2, rfl, fun _ => ⟨w.heap.size, 0, rfl, by simp, fun j hj => ?_⟩⟩
  rw [show (0 + j) = j by omega, blk_cell hg]
  rcases j with _ | _ | j
  · exact ⟨va, rfl, ha.up (Nat.le_refl _) hbw⟩
  · exact ⟨vb, rfl, hb.up (Nat.le_refl _) hbw⟩
  · exact absurd hj (by simp)
/-- a text's bytes, made -/
theorem conv_str (w : World) (s : ByteArray) (hs : s.size ≤ maxLen) : ∃ (c : Nat) (w' : World), (convert 9 45 (.string s)).run Try.prog w = .ok (.slice (some ⟨w.heap.size, 0, none⟩) s.size c) w' ∧ Rd w' w'.heap.size (.slice (some ⟨w.heap.size, 0, none⟩) s.size c) (strBytes s) ∧ Below w.heap.size w w' := by
  refine ⟨_, _, Lib.run_convert_string_bytes (P := Try.prog) w 9 45 5 s (u := .string) Try.isString Try.underlying45 Try.underlying5, ?_, ?_⟩
  · refine ⟨_, _, by rw [strBytes_length], by rw [strBytes_length]; exact grownCap_ge _ _ _ _, grownCap_le_maxLen _ _ _ _ hs, fun h0 => ⟨w.heap.size, 0, rfl, by rw [Lib.bytesWorld_size]; omega, fun j hj => ?_⟩⟩
    rw [strBytes_length] at hj
    rw [Nat.zero_add, Lib.bytesWorld_cell w _ s j hj]
    unfold bval strBytes
    have hl : j < s.data.toList.length := by simpa using hj
    rw [List.getD_eq_getElem?_getD, List.getElem?_eq_getElem hl]
    rfl
  · exact ⟨rfl, rfl, rfl, by rw [Lib.bytesWorld_size]; omega, fun k hk => Lib.bytesWorld_at_old w _ s k hk⟩
end Go.Proofs.Ytlkbjhhbpmmamaa
namespace Go.Proofs.Ytlkbjhhbpmmamaa
set_option maxRecDepth 100000
open Go Go.RowKit
set_option linter.unusedVariables false

end Go.Proofs.Ytlkbjhhbpmmamaa
