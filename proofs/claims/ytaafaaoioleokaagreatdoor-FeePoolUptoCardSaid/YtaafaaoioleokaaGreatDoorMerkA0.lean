
/- The model of merkle: pairs in order, hashes of leaves and nodes, roots. Mathematics alone. The walks of merkle: keyFits, ordered, the hashes of leaves and nodes, a number's bytes. The walks of merkle: hashes of leaves, nodes, of no pair. -/
import Derived.Test.YtaafaaoioleokaaGreatDoorShaM0
import Derived.Test.YtaafaaoioleokaaGreatDoorTree
import Derived.Test.YtaafaaoioleokaaGreatDoorWireW0
import Derived.Lib.ConvBytes
import Derived.LoopTactic
import Derived.Deep.QuietTactic
import Derived.BigQuiet
namespace Go.Proofs.YtaafaaoioleokaaGreatDoor
set_option maxRecDepth 100000
open Go Go.RowKit
set_option linter.unusedVariables false

abbrev Pr := ByteArray × List UInt8
def keyB (s : ByteArray) : Bool := decide (1 ≤ s.size) && decide (s.size ≤ 200)
/-- texts in order -/
def ltS (a b : ByteArray) : Bool := Op.bytesLess a.toList b.toList
def pairB (p : Pr) : Bool := keyB p.1 && decide (p.2.length ≤ 65535)
def ordR : Option ByteArray → List Pr → Bool
  | _, [] => true
  | q, p :: l => pairB p && (match q with | none => true | some a => ltS a p.1) && ordR (some p.1) l
def ordB (ps : List Pr) : Bool := decide (ps.length ≤ 65536) && ordR none ps
/-- the key ahead of place k -/
def prevK (ps : List Pr) (k : Nat) : Option ByteArray := if k = 0 then none else (ps[k - 1]?).map (·.1)
theorem ordR_step (ps : List Pr) (k : Nat) (h : k < ps.length) : ordR (prevK ps k) (ps.drop k) = (pairB ps[k] && (match prevK ps k with | none => true | some a => ltS a ps[k].1) && ordR (prevK ps (k + 1)) (ps.drop (k + 1))) := by
  rw [List.drop_eq_getElem_cons h]
  have : prevK ps (k + 1) = some ps[k].1 := by unfold prevK; rw [if_neg (by omega), Nat.add_sub_cancel, List.getElem?_eq_getElem h]; rfl
  rw [this]
  rfl
theorem ordR_end (ps : List Pr) : ordR (prevK ps ps.length) (ps.drop ps.length) = true := by rw [List.drop_length]; rfl

def wLeaf : ByteArray := ⟨#[108, 101, 97, 102]⟩
def wNode : ByteArray := ⟨#[110, 111, 100, 101]⟩
def wRoot : ByteArray := ⟨#[114, 111, 111, 116]⟩
def tagH (word : ByteArray) (ps : List (List UInt8)) : List UInt8 := shaSum (formB (strBytes word) ++ formBs ps)
def leafH (k : ByteArray) (v : List UInt8) : List UInt8 := tagH wLeaf [strBytes k, v]
def nodeH (a b : List UInt8) : List UInt8 := tagH wNode [a, b]
def rootE : List UInt8 := tagH wRoot [be 0 8]
def rootH (n : Nat) (h : List UInt8) : List UInt8 := tagH wRoot [be n 8, h]
def leaves (ps : List Pr) : List (List UInt8) := ps.map fun p => leafH p.1 p.2
/-- the root of pairs, or the error -/
def rootM (ps : List Pr) : List UInt8 × Int := if ordB ps = true then (if ps = [] then rootE else rootH ps.length (rowT nodeH (leaves ps)), 0) else ([], 60)
theorem tagH_length (word : ByteArray) (ps : List (List UInt8)) : (tagH word ps).length = 32 := shaSum_length _

/-- t times paired -/
def upN : Nat → List (List UInt8) → List (List UInt8)
  | 0, l => l
  | t + 1, l => pairUp nodeH (upN t l)
/-- the rows up to the row t -/
def levN (l : List (List UInt8)) : Nat → List (List (List UInt8))
  | 0 => [upN 0 l]
  | t + 1 => levN l t ++ [upN (t + 1) l]
theorem levN_length (l : List (List UInt8)) (t : Nat) : (levN l t).length = t + 1 := by induction t <;> simp [levN, *]
theorem levN_get (l : List (List UInt8)) (t : Nat) : ∀ j, j ≤ t → (levN l t)[j]? = some (upN j l) := by
  induction t with
  | zero => intro j hj; have : j = 0 := Nat.le_zero.1 hj; subst this; rfl
  | succ t ih =>
    intro j hj
    by_cases h : j ≤ t
    · rw [levN, List.getElem?_append_left (by rw [levN_length]; omega)]; exact ih j h
    · obtain rfl : j = t + 1 := by omega
      rw [levN, List.getElem?_append_right (by rw [levN_length]; omega), levN_length]
      simp
theorem upN_len (l : List (List UInt8)) (t : Nat) : (upN (t + 1) l).length = ((upN t l).length + 1) / 2 := pairUp_length _ _
theorem upN_in (l : List (List UInt8)) (t : Nat) : upN (t + 1) l = upN t (pairUp nodeH l) := by
  induction t with
  | zero => rfl
  | succ t ih => rw [upN, ih, upN]
/-- the root of the row that pairs leave -/
theorem upN_root (l : List (List UInt8)) (t : Nat) (h : ∀ j, j < t → 2 ≤ (upN j l).length) (h1 : (upN t l).length ≤ 1) : (upN t l).headD [] = rowT nodeH l := by
  have key : ∀ t, (∀ j, j < t → 2 ≤ (upN j l).length) → rowT nodeH (upN t l) = rowT nodeH l := by
    intro t
    induction t with
    | zero => intro _; rfl
    | succ t ih => intro h; rw [upN, rowT_pair nodeH _ _ rfl (h t (by omega))]; exact ih fun j hj => h j (by omega)
  rw [← key t h, rowT_one _ _ h1]
theorem pairUp_more (q : Nat) (r : List (List UInt8)) (hq : q % 2 = 0) (h : q + 1 < r.length) : pairUp nodeH (r.take (q + 2)) = pairUp nodeH (r.take q) ++ [nodeH (r[q]'(by omega)) r[q + 1]] := by
  have e : r.take (q + 2) = r.take q ++ [r[q]'(by omega), r[q + 1]] := by
    have e1 := List.take_append_getElem (l := r) (i := q + 1) (by omega)
    have e2 := List.take_append_getElem (l := r) (i := q) (by omega)
    rw [show q + 2 = q + 1 + 1 by omega, ← e1, ← e2, List.append_assoc]
    rfl
  rw [e, pairUp_append _ _ _ (by rw [List.length_take]; omega)]
  rfl
theorem pairUp_odd (q : Nat) (r : List (List UInt8)) (hq : q % 2 = 0) (h : q + 1 = r.length) : pairUp nodeH r = pairUp nodeH (r.take q) ++ [r[q]'(by omega)] := by
  have e : r = r.take q ++ [r[q]'(by omega)] := by
    rw [List.take_append_getElem (l := r) (i := q) (by omega)]
    exact (List.take_of_length_le (by omega)).symm
  have := pairUp_append nodeH (r.take q) [r[q]'(by omega)] (by rw [List.length_take]; omega)
  rw [← e] at this
  exact this
theorem upN_pos (l : List (List UInt8)) (h : 0 < l.length) (t : Nat) : 0 < (upN t l).length := by
  induction t with
  | zero => exact h
  | succ t ih => rw [upN_len]; omega
/-- the number of the first pair whose key is not below that one -/
def placeM (key : ByteArray) : List Pr → Nat
  | [] => 0
  | p :: l => if ltS p.1 key = true then placeM key l + 1 else 0
theorem placeM_le (key : ByteArray) : ∀ l, placeM key l ≤ l.length
  | [] => Nat.le_refl _
  | p :: l => by have := placeM_le key l; unfold placeM; split <;> simp only [List.length_cons] <;> omega
theorem rootM_no {ps : List Pr} (h : ordB ps = false) : rootM ps = ([], 60) := by unfold rootM; rw [if_neg (by simp [h])]
theorem rootM_nil {ps : List Pr} (h : ordB ps = true) (h0 : ps.length = 0) : rootM ps = (rootE, 0) := by
  unfold rootM
  rw [if_pos h, if_pos (List.length_eq_zero_iff.1 h0)]
theorem rootM_some {ps : List Pr} (h : ordB ps = true) (h0 : 0 < ps.length) : rootM ps = (rootH ps.length (rowT nodeH (leaves ps)), 0) := by
  unfold rootM
  rw [if_pos h, if_neg (by intro e; rw [e] at h0; simp at h0)]
theorem ordB_len {ps : List Pr} (h : ordB ps = true) : ps.length ≤ 65536 := by
  unfold ordB at h
  simp only [Bool.and_eq_true, decide_eq_true_eq] at h
  exact h.1
end Go.Proofs.YtaafaaoioleokaaGreatDoor
namespace Go.Proofs.YtaafaaoioleokaaGreatDoor
set_option maxRecDepth 100000
open Go Go.RowKit
set_option linter.unusedVariables false
variable {w w' : World} {B : Nat}

/-- pairs handed in -/
def RdP (w : World) (B : Nat) (v : Value) (ps : List Pr) : Prop :=
  ∃ A c, v = .slice A ps.length c ∧ ps.length ≤ c ∧ c ≤ maxLen ∧ (0 < ps.length → ∃ b o, A = some ⟨b, o, none⟩ ∧ b < B ∧ ∀ j (h : j < ps.length),
    w.cell? ⟨b, o + j * 2, none⟩ = some (.string ps[j].1) ∧ ∃ x, w.cell? ⟨b, o + j * 2 + 1, none⟩ = some x ∧ Rd w B x ps[j].2)
theorem RdP.below {v : Value} {ps : List Pr} (h : RdP w B v ps) (hb : Below B w w') : RdP w' B v ps := by
  obtain ⟨A, c, rfl, h1, h2, hp⟩ := h
  refine ⟨A, c, rfl, h1, h2, fun h0 => ?_⟩
  obtain ⟨b, o, rfl, hlt, hc⟩ := hp h0
  refine ⟨b, o, rfl, hlt, fun j hj => ?_⟩
  obtain ⟨q1, x, q2, q3⟩ := hc j hj
  exact ⟨(hb.cell (p := ⟨b, o + j * 2, none⟩) hlt).trans q1, x, (hb.cell (p := ⟨b, o + j * 2 + 1, none⟩) hlt).trans q2, q3.below hb⟩
theorem RdP.more {B' : Nat} {v : Value} {ps : List Pr} (h : RdP w B v ps) (hB : B ≤ B') : RdP w B' v ps := by
  obtain ⟨A, c, rfl, h1, h2, hp⟩ := h
  refine ⟨A, c, rfl, h1, h2, fun h0 => ?_⟩
  obtain ⟨b, o, rfl, hlt, hc⟩ := hp h0
  refine ⟨b, o, rfl, by omega, fun j hj => ?_⟩
  obtain ⟨q1, x, q2, q3⟩ := hc j hj
  exact ⟨q1, x, q2, q3.more hB⟩

theorem keyFits_any (s : ByteArray) (w : World) (hs : s.size ≤ maxLen) : Calls Tryz.prog 168 #[.string s] w fun e w' => e = .returned (.bool (keyB s)) ∧ w = w' := by
  unfold maxLen at hs
  by_cases h1 : 1 ≤ s.size
  · by_cases h2 : s.size ≤ 200
    · have e : keyB s = true := by simp [keyB, h1, h2]
      have i1 : (1 : Int) ≤ (s.size : Int) := by omega
      have i2 : (s.size : Int) ≤ 200 := by omega
      rw [e]
      clear e
      go_enter Tryz.func168, Tryz.ntmps168
      go_wp2
      go_ret
      exact ⟨rfl, rfl⟩
    · have e : keyB s = false := by simp [keyB, h2]
      have i1 : (1 : Int) ≤ (s.size : Int) := by omega
      have i2 : decide ((s.size : Int) ≤ 200) = false := by simp; omega
      rw [e]
      clear e
      go_enter Tryz.func168, Tryz.ntmps168
      go_wp2
      go_ret
      exact ⟨rfl, rfl⟩
  · have e : keyB s = false := by simp [keyB, h1]
    have i1 : decide ((1 : Int) ≤ (s.size : Int)) = false := by simp; omega
    rw [e]
    clear e
    go_enter Tryz.func168, Tryz.ntmps168
    go_wp2
    go_ret
    exact ⟨rfl, rfl⟩

set_option maxHeartbeats 2000000 in
theorem ordered_any (w : World) (v : Value) (ps : List Pr) (hr : RdP w w.heap.size v ps) (hnl : ∀ p ∈ ps, p.1.size ≤ maxLen) :
    Calls Tryz.prog 116 #[v] w fun e w' => e = .returned (.bool (ordB ps)) ∧ Below w.heap.size w w' := by
  obtain ⟨A, c, rfl, hc, hm, hp⟩ := hr
  unfold maxLen at hm
  obtain ⟨n, hn⟩ : ∃ n, n = ps.length := ⟨_, rfl⟩
  rw [← hn] at hc ⊢
  have HN := Lib.hid hn
  have HP := Lib.hid hp
  have HK := Lib.hid hnl
  clear hp hnl hn
  by_cases hbig : n ≤ 65536
  · have i0 : (n : Int) ≤ 65536 := by omega
    have hE : ordB ps = ordR none ps := by unfold ordB; rw [decide_eq_true (by rw [← HN.out]; exact hbig)]; rfl
    rw [hE]
    have HO : Hid (∀ k, k ≤ n → True) := Lib.hid fun _ _ => trivial
    clear hE HO
    go_enter Tryz.func116, Tryz.ntmps116
    go_wp2_with fail
    go_loopw [3, 4, 10] (fun _ _ i wr => ∃ k : Nat, k ≤ n ∧ i = .int .i64 (k : Int) ∧ Hid (ordR none ps = ordR (prevK ps k) (ps.drop k)) ∧ Below w.heap.size w wr)
      (fun _ _ i _ => n - (intOf i).toNat)
    case atStart => exact ⟨0, Nat.zero_le _, rfl, Lib.hid rfl, Below.refl _ _⟩
    case round =>
      obtain ⟨k, hk, rfl, HR, hb⟩ := hrel
      by_cases hlt : k < n
      · have hkl : k < ps.length := by have := HN.out; omega
        obtain ⟨b, o, rfl, hbl, hcell⟩ := HP.out (by omega)
        obtain ⟨q1, x, q2, q3⟩ := hcell k hkl
        have a1 := (hb.cell (p := ⟨b, o + k * 2, none⟩) hbl).trans q1
        have a2 := (hb.cell (p := ⟨b, o + k * 2 + 1, none⟩) hbl).trans q2
        have hst := ordR_step ps k hkl
        rw [← HR.out] at hst
        have hks := HK.out _ (List.getElem_mem hkl)
        have i1 : (0 : Int) ≤ (k : Int) := by omega
        have i2 : (k : Int) < (n : Int) := by omega
        obtain ⟨Ax, cx, rfl⟩ := q3.form
        have hxl : (ps[k].2).length ≤ 9223372036854775807 := q3.len
        have hbx := hb.alloc hb.size (.cells #[.string ps[k].1, .slice Ax ps[k].2.length cx] 76)
        have hprev : ∀ (q : Nat) (hq : q + 1 = k), (wr.alloc (.cells #[.string ps[k].1, .slice Ax ps[k].2.length cx] 76)).cell? ⟨b, o + q * 2, none⟩ = some (.string (ps[q]'(by omega)).1) := fun q hq =>
          (hbx.cell (p := ⟨b, o + q * 2, none⟩) hbl).trans (hcell q (by omega)).1
        have hpk : ∀ (q : Nat) (hq : q + 1 = k), prevK ps k = some (ps[q]'(by omega)).1 := fun q hq => by
          subst hq
          unfold prevK
          rw [if_neg (by omega), Nat.add_sub_cancel, List.getElem?_eq_getElem (by omega)]
          rfl
        have hp0 : k = 0 → prevK ps k = none := fun h0 => by unfold prevK; rw [if_pos h0]
        have hpb : pairB ps[k] = (keyB ps[k].1 && decide (ps[k].2.length ≤ 65535)) := rfl
        generalize ps[k].1 = s at *
        generalize ps[k].2.length = xl at *
        have HBX := Lib.hid hbx
        have HPV := Lib.hid (And.intro hprev (And.intro hpk hp0))
        clear hprev hpk hp0 hcell q1 q2 q3 hb
        go_wp2_with fail
        refine (keyFits_any s _ hks).mono ?_
        rintro e w1 ⟨rfl, rfl⟩
        cases hkb : keyB s with
        | false =>
          have hres : Hid (ordR none ps = false) := Lib.hid (by rw [hst, hpb, hkb]; rfl)
          clear hst hpb hkb
          go_wp2_with fail
          go_ret
          exact ⟨by rw [hres.out]; rfl, HBX.out⟩
        | true =>
          by_cases hxl2 : xl ≤ 65535
          · have i3 : (xl : Int) ≤ 65535 := by omega
            have hst2 : ordR none ps = ((match prevK ps k with | none => true | some a => ltS a s) && ordR (prevK ps (k + 1)) (ps.drop (k + 1))) := by rw [hst, hpb, hkb, decide_eq_true hxl2]; rfl
            clear hst hpb hkb
            by_cases h0 : k = 0
            · have hres : Hid (ordR none ps = ordR (prevK ps (k + 1)) (ps.drop (k + 1))) := Lib.hid (by rw [hst2, HPV.out.2.2 h0]; rfl)
              subst h0
              clear hst2
              go_wp2_with fail
              go_quiet (fail)
              go_wp2_with fail
              exact ⟨⟨0 + 1, by omega, rfl, hres, below_drewN' HBX.out _⟩, by simp [intOf]; omega⟩
            · have h0' : 0 < k := by omega
              obtain ⟨q, hq⟩ : ∃ q, q + 1 = k := ⟨k - 1, by omega⟩
              have hcq := HPV.out.1 q hq
              have hst3 := hst2
              rw [HPV.out.2.1 q hq] at hst3
              dsimp only at hst3
              have j1 : (0 : Int) < (k : Int) := by omega
              have j2 : IntKind.i64.wrap ((k : Int) - 1) = (q : Int) := by rw [IntKind.wrap_i64]; omega
              have j3 : (q : Int) < (n : Int) := by omega
              have j4 : (0 : Int) ≤ (q : Int) := by omega
              have hql : q < ps.length := by omega
              generalize (ps[q]'(by omega)).1 = s0 at *
              clear hq
              cases hlt0 : ltS s0 s with
              | true =>
                have hres : Hid (ordR none ps = ordR (prevK ps (k + 1)) (ps.drop (k + 1))) := Lib.hid (by rw [hst3, hlt0]; rfl)
                have hl : Op.bytesLess s0.toList s.toList = true := hlt0
                clear hst2 hst3 hlt0
                go_wp2_with fail
                go_quiet (fail)
                go_wp2_with fail
                exact ⟨⟨k + 1, by omega, by go_num, hres, below_drewN' HBX.out _⟩, by simp [intOf]; omega⟩
              | false =>
                have hres : Hid (ordR none ps = false) := Lib.hid (by rw [hst3, hlt0]; rfl)
                have hl : Op.bytesLess s0.toList s.toList = false := hlt0
                clear hst2 hst3 hlt0
                go_wp2_with fail
                go_quiet (fail)
                go_wp2_with fail
                go_ret
                exact ⟨by rw [hres.out]; rfl, below_drewN' HBX.out _⟩
          · have i3 : ¬ (xl : Int) ≤ 65535 := by omega
            have hres : Hid (ordR none ps = false) := Lib.hid (by rw [hst, hpb, decide_eq_false hxl2]; simp)
            clear hst hpb hkb
            go_wp2_with fail
            go_ret
            exact ⟨by rw [hres.out]; rfl, HBX.out⟩
      · obtain rfl : k = n := by omega
        have i2 : ¬ (k : Int) < (k : Int) := by omega
        have hres : Hid (ordR none ps = true) := Lib.hid (by rw [HR.out, HN.out]; exact ordR_end ps)
        go_wp2_with fail
        go_ret
        exact ⟨by rw [hres.out]; rfl, hb⟩
  · have i0 : ¬ (n : Int) ≤ 65536 := by omega
    have hE : Hid (ordB ps = false) := Lib.hid (by unfold ordB; rw [decide_eq_false (by rw [← HN.out]; exact hbig)]; rfl)
    go_enter Tryz.func116, Tryz.ntmps116
    go_wp2_with fail
    go_ret
    exact ⟨by rw [hE.out]; rfl, Below.refl _ _⟩

theorem number_any (n : Nat) (w : World) (hn : n ≤ 9223372036854775807) :
    Calls Tryz.prog 120 #[.int .i64 (n : Int)] w fun e w' => ∃ v, e = .returned v ∧ Own w' w.heap.size v (be n 8) ∧ Below w.heap.size w w' := by
  have k1 : IntKind.u64.wrap (n : Int) = (n : Int) := by rw [IntKind.wrap_u64]; omega
  go_enter Tryz.func120, Tryz.ntmps120
  go_wp2_with fail
  refine (N_any (.slice none 0 0) [] n w (Rd.nil _ _) (by omega) (by simp)).mono ?_
  rintro e w1 ⟨v1, rfl, ho, hb⟩
  go_wp2_with fail
  go_ret
  exact ⟨_, rfl, ho, hb⟩
theorem partsA1 (w : World) (va : Value) (a : List UInt8) (t : TypeId) (ha : Rd w w.heap.size va a) :
    Parts (w.alloc (.cells #[va] t)) (w.alloc (.cells #[va] t)).heap.size (.slice (some ⟨w.heap.size, 0, none⟩) 1 1) [a] := by
  have hbw : Below w.heap.size w (w.alloc (.cells #[va] t)) := (Below.refl _ _).alloc (Nat.le_refl _) _
  have hg := heap_alloc_new w (.cells #[va] t)
  refine ⟨_, 1, rfl, fun _ => ⟨w.heap.size, 0, rfl, by simp, fun j hj => ?_⟩⟩
  rw [show (0 + j) = j by omega, blk_cell hg]
  rcases j with _ | j
  · exact ⟨va, rfl, ha.up (Nat.le_refl _) hbw⟩
  · exact absurd hj (by simp)
theorem partsA2 (w : World) (va vb : Value) (a b : List UInt8) (t : TypeId) (ha : Rd w w.heap.size va a) (hb : Rd w w.heap.size vb b) :
    Parts (w.alloc (.cells #[va, vb] t)) (w.alloc (.cells #[va, vb] t)).heap.size (.slice (some ⟨w.heap.size, 0, none⟩) 2 2) [a, b] := by
  have hbw : Below w.heap.size w (w.alloc (.cells #[va, vb] t)) := (Below.refl _ _).alloc (Nat.le_refl _) _
  have hg := heap_alloc_new w (.cells #[va, vb] t)
  refine ⟨_, 2, rfl, fun _ => ⟨w.heap.size, 0, rfl, by simp, fun j hj => ?_⟩⟩
  rw [show (0 + j) = j by omega, blk_cell hg]
  rcases j with _ | _ | j
  · exact ⟨va, rfl, ha.up (Nat.le_refl _) hbw⟩
  · exact ⟨vb, rfl, hb.up (Nat.le_refl _) hbw⟩
  · exact absurd hj (by simp)
/-- a text's bytes, made -/
theorem conv_str (w : World) (s : ByteArray) (hs : s.size ≤ maxLen) : ∃ (c : Nat) (w' : World), (convert 9 37 (.string s)).run Tryz.prog w = .ok (.slice (some ⟨w.heap.size, 0, none⟩) s.size c) w' ∧ Rd w' w'.heap.size (.slice (some ⟨w.heap.size, 0, none⟩) s.size c) (strBytes s) ∧ Below w.heap.size w w' := by
  refine ⟨_, _, Lib.run_convert_string_bytes (P := Tryz.prog) w 9 37 5 s (u := .string) Tryz.isString Tryz.underlying37 Tryz.underlying5, ?_, ?_⟩
  · refine ⟨_, _, by rw [strBytes_length], by rw [strBytes_length]; exact grownCap_ge _ _ _ _, grownCap_le_maxLen _ _ _ _ hs, fun h0 => ⟨w.heap.size, 0, rfl, by rw [Lib.bytesWorld_size]; omega, fun j hj => ?_⟩⟩
    rw [strBytes_length] at hj
    rw [Nat.zero_add, Lib.bytesWorld_cell w _ s j hj]
    unfold bval strBytes
    have hl : j < s.data.toList.length := by simpa using hj
    rw [List.getD_eq_getElem?_getD, List.getElem?_eq_getElem hl]
    rfl
  · exact ⟨rfl, rfl, rfl, by rw [Lib.bytesWorld_size]; omega, fun k hk => Lib.bytesWorld_at_old w _ s k hk⟩
end Go.Proofs.YtaafaaoioleokaaGreatDoor
namespace Go.Proofs.YtaafaaoioleokaaGreatDoor
set_option maxRecDepth 100000
open Go Go.RowKit
set_option linter.unusedVariables false

set_option maxHeartbeats 1000000 in
theorem leafHash_any (s : ByteArray) (v : Value) (l : List UInt8) (w : World) (hs : s.size ≤ maxLen) (hv : Rd w w.heap.size v l) (fr : TypeId × Nat × Nat) (hk : w.heap[2]? = some (.cells kVals fr.1 fr.2)) :
    Calls Tryz.prog 169 #[.string s, v] w fun e w' => ∃ v', e = .returned v' ∧ Own w' w.heap.size v' (leafH s l) ∧ Below w.heap.size w w' := by
  have hn0 := blk_lt hk
  have HK := Lib.hid hk
  clear hk
  obtain ⟨c, w1, hrun, hr1, hb1⟩ := conv_str w s hs
  have hr2 := hv.up (Nat.le_refl _) hb1
  have hp := partsA2 w1 _ v (strBytes s) l 37 hr1 hr2
  have hbx := hb1.alloc hb1.size (.cells #[.slice (some ⟨w.heap.size, 0, none⟩) s.size c, v] 37)
  have hkx := (hbx.block _ hn0).trans HK.out
  obtain ⟨A, cc, rfl⟩ := hv.form
  clear hv hr1 hr2
  go_enter Tryz.func169, Tryz.ntmps169
  go_wp2_with fail
  refine (tagged_any wLeaf _ [strBytes s, l] _ hp (by unfold maxLen wLeaf; decide) (by simp) fr hkx).mono ?_
  rintro e w2 ⟨v2, rfl, ho2, hb2⟩
  have hq := below_chain hbx hbx.size hb2
  go_wp2_with fail
  go_ret
  exact ⟨_, rfl, ho2.more hbx.size, hq⟩

set_option maxHeartbeats 1000000 in
theorem nodeM_any (v1 v2 : Value) (a b : List UInt8) (w : World) (h1 : Rd w w.heap.size v1 a) (h2 : Rd w w.heap.size v2 b) (fr : TypeId × Nat × Nat) (hk : w.heap[2]? = some (.cells kVals fr.1 fr.2)) :
    Calls Tryz.prog 170 #[v1, v2] w fun e w' => ∃ v', e = .returned v' ∧ Own w' w.heap.size v' (nodeH a b) ∧ Below w.heap.size w w' := by
  have hn0 := blk_lt hk
  have HK := Lib.hid hk
  clear hk
  have hp := partsA2 w v1 v2 a b 37 h1 h2
  have hbx := (Below.refl w.heap.size w).alloc (Nat.le_refl _) (.cells #[v1, v2] 37)
  have hkx := (hbx.block _ hn0).trans HK.out
  obtain ⟨A, cc, rfl⟩ := h1.form
  obtain ⟨A2, cc2, rfl⟩ := h2.form
  clear h1 h2
  go_enter Tryz.func170, Tryz.ntmps170
  go_wp2_with fail
  refine (tagged_any wNode _ [a, b] _ hp (by unfold maxLen wNode; decide) (by simp) fr hkx).mono ?_
  rintro e w2 ⟨v2, rfl, ho2, hb2⟩
  have hq := below_chain hbx hbx.size hb2
  go_wp2_with fail
  go_ret
  exact ⟨_, rfl, ho2.more hbx.size, hq⟩

set_option maxHeartbeats 1000000 in
theorem emptyRoot_any (w : World) (fr : TypeId × Nat × Nat) (hk : w.heap[2]? = some (.cells kVals fr.1 fr.2)) :
    Calls Tryz.prog 117 #[] w fun e w' => ∃ v', e = .returned v' ∧ Own w' w.heap.size v' rootE ∧ Below w.heap.size w w' := by
  have hn0 := blk_lt hk
  have HK := Lib.hid hk
  clear hk
  go_enter Tryz.func117, Tryz.ntmps117
  go_wp2_with fail
  refine (number_any 0 w (by omega)).mono ?_
  rintro e w1 ⟨v1, rfl, ho1, hb1⟩
  have hp := partsA1 w1 v1 (be 0 8) 37 ho1.rd
  have hbx := hb1.alloc hb1.size (.cells #[v1] 37)
  have hkx := (hbx.block _ hn0).trans HK.out
  obtain ⟨A, cc, rfl⟩ := ho1.form
  clear ho1
  go_wp2_with fail
  refine (tagged_any wRoot _ [be 0 8] _ hp (by unfold maxLen wRoot; decide) (by simp) fr hkx).mono ?_
  rintro e w2 ⟨v2, rfl, ho2, hb2⟩
  have hq := below_chain hbx hbx.size hb2
  go_wp2_with fail
  go_ret
  exact ⟨_, rfl, ho2.more hbx.size, hq⟩
end Go.Proofs.YtaafaaoioleokaaGreatDoor
