
/- Trees of hashes: paired row by row, or cut at the greatest power of two: one tree, one way, one root. Mathematics alone. -/
import Derived.Test.YtaafaaoioleokaaGreatDoorBase0
namespace Go.Proofs.YtaafaaoioleokaaGreatDoor
set_option maxRecDepth 100000
set_option linter.unusedVariables false

theorem xor_one (a : Nat) : a ^^^ 1 = if a % 2 = 0 then a + 1 else a - 1 := by
  have h1 : (a ^^^ 1) / 2 = a / 2 := by rw [Nat.xor_div_two]; simp
  have h2 : (a ^^^ 1) % 2 = (a + 1) % 2 := by
    have h := Nat.xor_mod_two_eq_one (a := a) (b := 1)
    have : a % 2 = 0 ∨ a % 2 = 1 := by omega
    rcases this with h1 | h1
    · have : (a ^^^ 1) % 2 = 1 := h.2 (by rw [h1]; decide)
      omega
    · have : ¬ (a ^^^ 1) % 2 = 1 := fun e => h.1 e (by rw [h1])
      omega
  split <;> omega

/-- the greatest power of two below m -/
def cutM (m : Nat) : Nat := 2 ^ Nat.log2 (m - 1)
theorem cutM_lt {m : Nat} (h : 2 ≤ m) : cutM m < m ∧ m ≤ 2 * cutM m ∧ 1 ≤ cutM m := by
  unfold cutM
  have h1 := Nat.log2_self_le (n := m - 1) (by omega)
  have h2 := Nat.lt_log2_self (n := m - 1)
  rw [Nat.pow_succ] at h2
  exact ⟨by omega, by omega, Nat.one_le_two_pow⟩
theorem cutM_half {m : Nat} (h : 2 < m) : cutM m = 2 * cutM ((m + 1) / 2) := by
  unfold cutM
  have e : (m + 1) / 2 - 1 = (m - 1) / 2 := by omega
  have e2 : Nat.log2 (m - 1) = Nat.log2 ((m - 1) / 2) + 1 := by
    rw [Nat.log2_def (m - 1), if_pos (by omega)]
  rw [e, e2, Nat.pow_succ]
  omega
theorem cutM_two : cutM 2 = 1 := by decide

section
variable (N : List UInt8 → List UInt8 → List UInt8)
def pairUp : List (List UInt8) → List (List UInt8)
  | a :: b :: l => N a b :: pairUp l
  | [a] => [a]
  | [] => []
theorem pairUp_length : ∀ l : List (List UInt8), (pairUp N l).length = (l.length + 1) / 2
  | a :: b :: l => by simp only [pairUp, List.length_cons, pairUp_length l]; omega
  | [a] => by simp [pairUp]
  | [] => by simp [pairUp]
theorem pairUp_append : ∀ (a b : List (List UInt8)), a.length % 2 = 0 → pairUp N (a ++ b) = pairUp N a ++ pairUp N b
  | x :: y :: l, b, h => by simp only [List.cons_append, pairUp]; rw [pairUp_append l b (by simp only [List.length_cons] at h; omega)]
  | [x], b, h => by simp at h
  | [], b, h => rfl
theorem pairUp_get : ∀ (l : List (List UInt8)) (i : Nat), 2 * i + 1 < l.length → (pairUp N l)[i]? = some (N (l.getD (2 * i) []) (l.getD (2 * i + 1) []))
  | a :: b :: l, 0, h => rfl
  | a :: b :: l, i + 1, h => by
    simp only [pairUp, List.getElem?_cons_succ]
    rw [pairUp_get l i (by simp only [List.length_cons] at h; omega)]
    have e1 : 2 * (i + 1) = 2 * i + 1 + 1 := by omega
    rw [e1]
    rfl
  | [a], i, h => by simp at h
  | [], i, h => by simp at h
theorem pairUp_last : ∀ (l : List (List UInt8)) (i : Nat), 2 * i + 1 = l.length → (pairUp N l)[i]? = l[2 * i]?
  | a :: b :: l, 0, h => by simp at h
  | a :: b :: l, i + 1, h => by
    simp only [pairUp, List.getElem?_cons_succ]
    rw [pairUp_last l i (by simp only [List.length_cons] at h; omega)]
    have e1 : 2 * (i + 1) = 2 * i + 1 + 1 := by omega
    rw [e1]
    rfl
  | [a], 0, h => rfl
  | [a], i + 1, h => by simp at h
  | [], i, h => by simp at h

/-- the hash of a row, cut at the greatest power of two -/
def rowR : Nat → List (List UInt8) → List UInt8
  | 0, l => l.headD []
  | f + 1, l => if l.length ≤ 1 then l.headD [] else N (rowR f (l.take (cutM l.length))) (rowR f (l.drop (cutM l.length)))
theorem rowR_one (f : Nat) (l : List (List UInt8)) (h : l.length ≤ 1) : rowR N f l = l.headD [] := by cases f <;> simp [rowR, h]
/-- enough is enough -/
theorem rowR_fuel : ∀ (f g : Nat) (l : List (List UInt8)), l.length ≤ f → l.length ≤ g → rowR N f l = rowR N g l := by
  intro f
  induction f with
  | zero => intro g l h _; rw [rowR_one N 0 l (by omega), rowR_one N g l (by omega)]
  | succ f ih =>
    intro g l h1 h2
    by_cases hl : l.length ≤ 1
    · rw [rowR_one N _ l hl, rowR_one N _ l hl]
    · obtain ⟨g, rfl⟩ : ∃ q, g = q + 1 := ⟨g - 1, by omega⟩
      obtain ⟨c1, c2, c3⟩ := cutM_lt (m := l.length) (by omega)
      unfold rowR
      rw [if_neg hl, if_neg hl, ih g _ (by simp; omega) (by simp; omega), ih g _ (by simp; omega) (by simp; omega)]
def rowT (l : List (List UInt8)) : List UInt8 := rowR N l.length l
theorem rowT_one (l : List (List UInt8)) (h : l.length ≤ 1) : rowT N l = l.headD [] := rowR_one N _ l h
theorem rowT_cut (l : List (List UInt8)) (h : 2 ≤ l.length) : rowT N l = N (rowT N (l.take (cutM l.length))) (rowT N (l.drop (cutM l.length))) := by
  obtain ⟨c1, c2, c3⟩ := cutM_lt h
  unfold rowT
  obtain ⟨f, hf⟩ : ∃ f, l.length = f + 1 := ⟨l.length - 1, by omega⟩
  conv => lhs; rw [hf]; unfold rowR
  rw [if_neg (by omega), rowR_fuel N f (l.take (cutM l.length)).length _ (by simp; omega) (Nat.le_refl _), rowR_fuel N f (l.drop (cutM l.length)).length _ (by simp; omega) (Nat.le_refl _)]
/-- pairing a row's hashes leaves its hash -/
theorem rowT_pair : ∀ (n : Nat) (l : List (List UInt8)), l.length = n → 2 ≤ n → rowT N (pairUp N l) = rowT N l := by
  intro n
  induction n using Nat.strongRecOn with
  | ind n ih =>
    intro l hl hn
    by_cases h2 : n = 2
    · subst h2
      match l, hl with
      | [a, b], _ =>
        rw [rowT_cut N [a, b] (by simp)]
        show _ = N (rowT N ([a, b].take (cutM 2))) (rowT N ([a, b].drop (cutM 2)))
        rw [cutM_two]
        rfl
    · obtain ⟨c1, c2, c3⟩ := cutM_lt (m := n) (by omega)
      have ch := cutM_half (m := n) (by omega)
      have hp : (pairUp N l).length = (n + 1) / 2 := by rw [pairUp_length, hl]
      obtain ⟨d1, d2, d3⟩ := cutM_lt (m := (n + 1) / 2) (by omega)
      have hsplit : pairUp N l = pairUp N (l.take (cutM n)) ++ pairUp N (l.drop (cutM n)) := by
        rw [← pairUp_append N _ _ (by simp; omega), List.take_append_drop]
      have hlt : (pairUp N (l.take (cutM n))).length = cutM ((n + 1) / 2) := by rw [pairUp_length]; simp; omega
      rw [rowT_cut N (pairUp N l) (by omega), rowT_cut N l (by omega), hp, hl, hsplit, List.take_left' hlt, List.drop_left' hlt]
      have e1 : rowT N (pairUp N (l.take (cutM n))) = rowT N (l.take (cutM n)) := ih (cutM n) c1 _ (by simp; omega) (by omega)
      have e2 : rowT N (pairUp N (l.drop (cutM n))) = rowT N (l.drop (cutM n)) := by
        by_cases h1 : n - cutM n ≤ 1
        · have hd : (l.drop (cutM n)).length = 1 := by simp; omega
          match l.drop (cutM n), hd with
          | [x], _ => rfl
        · exact ih (n - cutM n) (by omega) _ (by simp; omega) (by omega)
      rw [e1, e2]

/-- the hashes beside a leaf's way, row by row -/
def wayP : Nat → List (List UInt8) → Nat → List (List UInt8)
  | 0, _, _ => []
  | f + 1, l, i => if l.length ≤ 1 then [] else (if (i ^^^ 1) < l.length then [l.getD (i ^^^ 1) []] else []) ++ wayP f (pairUp N l) (i / 2)
theorem wayP_one (f : Nat) (l : List (List UInt8)) (i : Nat) (h : l.length ≤ 1) : wayP N f l i = [] := by cases f <;> simp [wayP, h]
theorem wayP_fuel : ∀ (f g : Nat) (l : List (List UInt8)) (i : Nat), l.length ≤ f → l.length ≤ g → wayP N f l i = wayP N g l i := by
  intro f
  induction f with
  | zero => intro g l i h _; rw [wayP_one N _ l i (by omega), wayP_one N _ l i (by omega)]
  | succ f ih =>
    intro g l i h1 h2
    by_cases hl : l.length ≤ 1
    · rw [wayP_one N _ l i hl, wayP_one N _ l i hl]
    · obtain ⟨g, rfl⟩ : ∃ q, g = q + 1 := ⟨g - 1, by omega⟩
      unfold wayP
      rw [if_neg hl, if_neg hl, ih g _ _ (by rw [pairUp_length]; omega) (by rw [pairUp_length]; omega)]
def wayT (l : List (List UInt8)) (i : Nat) : List (List UInt8) := wayP N l.length l i
theorem wayT_one (l : List (List UInt8)) (i : Nat) (h : l.length ≤ 1) : wayT N l i = [] := wayP_one N _ l i h
theorem wayT_step (l : List (List UInt8)) (i : Nat) (h : 2 ≤ l.length) : wayT N l i = (if (i ^^^ 1) < l.length then [l.getD (i ^^^ 1) []] else []) ++ wayT N (pairUp N l) (i / 2) := by
  unfold wayT
  obtain ⟨f, hf⟩ : ∃ f, l.length = f + 1 := ⟨l.length - 1, by omega⟩
  conv => lhs; rw [hf]; unfold wayP
  rw [if_neg (by omega), wayP_fuel N f (pairUp N l).length _ _ (by rw [pairUp_length]; omega) (Nat.le_refl _)]
/-- the way, cut at the greatest power of two -/
theorem wayT_cut : ∀ (n : Nat) (l : List (List UInt8)) (i : Nat), l.length = n → 2 ≤ n → i < n →
    wayT N l i = if i < cutM n then wayT N (l.take (cutM n)) i ++ [rowT N (l.drop (cutM n))] else wayT N (l.drop (cutM n)) (i - cutM n) ++ [rowT N (l.take (cutM n))] := by
  intro n
  induction n using Nat.strongRecOn with
  | ind n ih =>
    intro l i hl hn hi
    have hx := xor_one i
    rw [wayT_step N l i (by omega)]
    by_cases h2 : n = 2
    · subst h2
      match l, hl with
      | [a, b], _ =>
        rw [cutM_two]
        have hi2 : i = 0 ∨ i = 1 := by omega
        rcases hi2 with rfl | rfl
        · rfl
        · rfl
    · obtain ⟨c1, c2, c3⟩ := cutM_lt (m := n) (by omega)
      have ch := cutM_half (m := n) (by omega)
      have hp : (pairUp N l).length = (n + 1) / 2 := by rw [pairUp_length, hl]
      obtain ⟨d1, d2, d3⟩ := cutM_lt (m := (n + 1) / 2) (by omega)
      have hsplit : pairUp N l = pairUp N (l.take (cutM n)) ++ pairUp N (l.drop (cutM n)) := by
        rw [← pairUp_append N _ _ (by simp; omega), List.take_append_drop]
      have hlt : (pairUp N (l.take (cutM n))).length = cutM ((n + 1) / 2) := by rw [pairUp_length]; simp; omega
      have hih := ih ((n + 1) / 2) (by omega) (pairUp N l) (i / 2) hp (by omega) (by omega)
      have htk : (pairUp N l).take (cutM ((n + 1) / 2)) = pairUp N (l.take (cutM n)) := by rw [hsplit, List.take_left' hlt]
      have hdr : (pairUp N l).drop (cutM ((n + 1) / 2)) = pairUp N (l.drop (cutM n)) := by rw [hsplit, List.drop_left' hlt]
      rw [hih, htk, hdr]
      have e1 : rowT N (pairUp N (l.take (cutM n))) = rowT N (l.take (cutM n)) := rowT_pair N (cutM n) _ (by simp; omega) (by omega)
      have e2 : rowT N (pairUp N (l.drop (cutM n))) = rowT N (l.drop (cutM n)) := by
        by_cases h1 : n - cutM n ≤ 1
        · have hd : (l.drop (cutM n)).length = 1 := by simp; omega
          match l.drop (cutM n), hd with
          | [x], _ => rfl
        · exact rowT_pair N (n - cutM n) _ (by simp; omega) (by omega)
      rw [e1, e2, hl]
      by_cases hc : i < cutM n
      · have hlen : (l.take (cutM n)).length = cutM n := by simp; omega
        have hb : (i ^^^ 1) < cutM n := by rw [hx]; split <;> omega
        rw [if_pos hc, if_pos (show i / 2 < cutM ((n + 1) / 2) by omega), wayT_step N (l.take (cutM n)) i (by simp; omega), ← List.append_assoc, hlen, if_pos hb, if_pos (show (i ^^^ 1) < n by omega)]
        have : (l.take (cutM n)).getD (i ^^^ 1) [] = l.getD (i ^^^ 1) [] := by
          simp only [List.getD_eq_getElem?_getD, List.getElem?_take, if_pos hb]
        rw [this]
      · rw [if_neg hc, if_neg (show ¬ i / 2 < cutM ((n + 1) / 2) by omega)]
        have hi' : i / 2 - cutM ((n + 1) / 2) = (i - cutM n) / 2 := by omega
        have hx' := xor_one (i - cutM n)
        have hxx : (i ^^^ 1) = ((i - cutM n) ^^^ 1) + cutM n := by rw [hx, hx']; split <;> split <;> omega
        by_cases h1 : n - cutM n ≤ 1
        · have hd : (l.drop (cutM n)).length ≤ 1 := by simp; omega
          have hd2 : (pairUp N (l.drop (cutM n))).length ≤ 1 := by rw [pairUp_length]; simp; omega
          rw [wayT_one N _ _ hd, wayT_one N _ _ hd2, if_neg (show ¬ (i ^^^ 1) < n by rw [hx]; split <;> omega)]
          rfl
        · rw [wayT_step N (l.drop (cutM n)) (i - cutM n) (by simp; omega), hi', ← List.append_assoc]
          congr 2
          have hld : (l.drop (cutM n)).length = n - cutM n := by simp; omega
          rw [hld]
          by_cases hq : (i ^^^ 1) < n
          · rw [if_pos hq, if_pos (by omega)]
            have : (l.drop (cutM n)).getD ((i - cutM n) ^^^ 1) [] = l.getD (i ^^^ 1) [] := by
              simp only [List.getD_eq_getElem?_getD, List.getElem?_drop]
              rw [hxx, Nat.add_comm]
            rw [this]
          · rw [if_neg hq, if_neg (by omega)]

/-- up from a leaf, row by row; none: there aren't just as many hashes beside its way -/
def upP : Nat → List UInt8 → Nat → Nat → List (List UInt8) → Option (List UInt8)
  | 0, h, _, _, p => if p = [] then some h else none
  | f + 1, h, at_, m, p => if m ≤ 1 then (if p = [] then some h else none) else
      if m ≤ (at_ ^^^ 1) then upP f h (at_ / 2) ((m + 1) / 2) p else match p with
      | [] => none
      | x :: q => upP f (if at_ % 2 = 0 then N h x else N x h) (at_ / 2) ((m + 1) / 2) q
theorem upP_one (f : Nat) (h : List UInt8) (i m : Nat) (p : List (List UInt8)) (hm : m ≤ 1) : upP N f h i m p = if p = [] then some h else none := by cases f <;> simp [upP, hm]
theorem upP_fuel : ∀ (f g : Nat) (h : List UInt8) (i m : Nat) (p : List (List UInt8)), m ≤ f → m ≤ g → upP N f h i m p = upP N g h i m p := by
  intro f
  induction f with
  | zero => intro g h i m p h1 _; rw [upP_one N _ h i m p (by omega), upP_one N _ h i m p (by omega)]
  | succ f ih =>
    intro g h i m p h1 h2
    by_cases hm : m ≤ 1
    · rw [upP_one N _ h i m p hm, upP_one N _ h i m p hm]
    · obtain ⟨g, rfl⟩ : ∃ q, g = q + 1 := ⟨g - 1, by omega⟩
      unfold upP
      rw [if_neg hm, if_neg hm]
      split
      · exact ih g _ _ _ _ (by omega) (by omega)
      · cases p with
        | nil => rfl
        | cons x q => exact ih g _ _ _ _ (by omega) (by omega)
def upT (h : List UInt8) (i m : Nat) (p : List (List UInt8)) : Option (List UInt8) := upP N m h i m p
theorem upT_one (h : List UInt8) (i m : Nat) (p : List (List UInt8)) (hm : m ≤ 1) : upT N h i m p = if p = [] then some h else none := upP_one N _ h i m p hm
theorem upT_odd (h : List UInt8) (i m : Nat) (p : List (List UInt8)) (hm : 2 ≤ m) (hi : m ≤ (i ^^^ 1)) : upT N h i m p = upT N h (i / 2) ((m + 1) / 2) p := by
  unfold upT
  obtain ⟨f, hf⟩ : ∃ f, m = f + 1 := ⟨m - 1, by omega⟩
  conv => lhs; rw [hf]; unfold upP
  rw [← hf, if_neg (by omega), if_pos hi]
  exact upP_fuel N _ _ _ _ _ _ (by omega) (by omega)
theorem upT_nil (h : List UInt8) (i m : Nat) (hm : 2 ≤ m) (hi : (i ^^^ 1) < m) : upT N h i m [] = none := by
  unfold upT
  obtain ⟨f, hf⟩ : ∃ f, m = f + 1 := ⟨m - 1, by omega⟩
  conv => lhs; rw [hf]; unfold upP
  rw [← hf, if_neg (by omega), if_neg (by omega)]
theorem upT_cons (h : List UInt8) (i m : Nat) (x : List UInt8) (q : List (List UInt8)) (hm : 2 ≤ m) (hi : (i ^^^ 1) < m) : upT N h i m (x :: q) = upT N (if i % 2 = 0 then N h x else N x h) (i / 2) ((m + 1) / 2) q := by
  unfold upT
  obtain ⟨f, hf⟩ : ∃ f, m = f + 1 := ⟨m - 1, by omega⟩
  conv => lhs; rw [hf]; unfold upP
  rw [← hf, if_neg (by omega), if_neg (by omega)]
  exact upP_fuel N _ _ _ _ _ _ (by omega) (by omega)
/-- up, cut at the greatest power of two -/
theorem upT_cut : ∀ (m : Nat) (h : List UInt8) (i : Nat) (p : List (List UInt8)), 2 ≤ m → i < m → upT N h i m p = match p.getLast? with
    | none => none
    | some b => if i < cutM m then (upT N h i (cutM m) p.dropLast).map (N · b) else (upT N h (i - cutM m) (m - cutM m) p.dropLast).map (N b ·) := by
  intro m
  induction m using Nat.strongRecOn with
  | ind m ih =>
    intro h i p hm hi
    have hx := xor_one i
    have hone : ∀ (h : List UInt8) (i : Nat) (p : List (List UInt8)), upT N h i 1 p = if p = [] then some h else none := fun h i p => upT_one N h i 1 p (Nat.le_refl _)
    by_cases h2 : m = 2
    · subst h2
      rw [cutM_two]
      have hi2 : i = 0 ∨ i = 1 := by omega
      cases p with
      | nil => rw [upT_nil N h i 2 hm (by rw [hx]; split <;> omega)]; rfl
      | cons x q =>
        rw [upT_cons N h i 2 x q hm (by rw [hx]; split <;> omega)]
        show upT N _ _ 1 q = _
        rw [hone]
        cases q with
        | nil =>
          rcases hi2 with rfl | rfl
          · simp [hone]
          · simp [hone]
        | cons y q =>
          rw [if_neg (by simp)]
          rcases hi2 with rfl | rfl
          · simp only [List.getLast?_cons_cons, List.dropLast_cons_cons]
            cases hl : (y :: q).getLast? with
            | none => rfl
            | some b => simp [hone]
          · simp only [List.getLast?_cons_cons, List.dropLast_cons_cons]
            cases hl : (y :: q).getLast? with
            | none => rfl
            | some b => simp [hone]
    · obtain ⟨c1, c2, c3⟩ := cutM_lt (m := m) (by omega)
      have ch := cutM_half (m := m) (by omega)
      obtain ⟨d1, d2, d3⟩ := cutM_lt (m := (m + 1) / 2) (by omega)
      have hhalf : (cutM m + 1) / 2 = cutM ((m + 1) / 2) := by omega
      have hhalf2 : (m - cutM m + 1) / 2 = (m + 1) / 2 - cutM ((m + 1) / 2) := by omega
      have hx' := xor_one (i - cutM m)
      by_cases hq : (i ^^^ 1) < m
      · cases p with
        | nil => rw [upT_nil N h i m hm hq]; rfl
        | cons x q =>
          rw [upT_cons N h i m x q hm hq, ih ((m + 1) / 2) (by omega) _ _ q (by omega) (by omega)]
          cases q with
          | nil =>
            have e0 : [x].dropLast = [] := rfl
            simp only [List.getLast?_nil, List.getLast?_singleton, e0]
            by_cases hc : i < cutM m
            · rw [if_pos hc, upT_nil N h i (cutM m) (by omega) (by rw [hx]; split <;> omega)]; rfl
            · rw [if_neg hc, upT_nil N h (i - cutM m) (m - cutM m) (by rw [hx] at hq; split at hq <;> omega) (by rw [hx']; rw [hx] at hq; split <;> split at hq <;> omega)]; rfl
          | cons y q =>
            simp only [List.getLast?_cons_cons, List.dropLast_cons_cons]
            cases hl : (y :: q).getLast? with
            | none => rfl
            | some b =>
              dsimp only
              by_cases hc : i < cutM m
              · rw [if_pos hc, if_pos (by omega), upT_cons N h i (cutM m) x _ (by omega) (by rw [hx]; split <;> omega), hhalf]
              · have hp : (i - cutM m) % 2 = i % 2 := by omega
                rw [if_neg hc, if_neg (by omega), upT_cons N h (i - cutM m) (m - cutM m) x _ (by rw [hx] at hq; split at hq <;> omega) (by rw [hx']; rw [hx] at hq; split <;> split at hq <;> omega), hhalf2, hp]
                have : i / 2 - cutM ((m + 1) / 2) = (i - cutM m) / 2 := by omega
                rw [this]
      · have hodd : i = m - 1 ∧ i % 2 = 0 := by rw [hx] at hq; split at hq <;> omega
        rw [upT_odd N h i m p hm (by omega), ih ((m + 1) / 2) (by omega) _ _ p (by omega) (by omega)]
        cases hl : p.getLast? with
        | none => rfl
        | some b =>
          dsimp only
          have hie : i / 2 - cutM ((m + 1) / 2) = (i - cutM m) / 2 := by omega
          rw [if_neg (by omega), if_neg (by omega), hie]
          by_cases h1 : m - cutM m ≤ 1
          · rw [upT_one N _ _ ((m + 1) / 2 - cutM ((m + 1) / 2)) _ (by omega), upT_one N _ _ (m - cutM m) _ h1]
          · rw [upT_odd N h (i - cutM m) (m - cutM m) _ (by omega) (by rw [hx']; split <;> omega), hhalf2]
/-- up a leaf's way comes the root -/
theorem upT_way : ∀ (m : Nat) (l : List (List UInt8)) (i : Nat), l.length = m → 1 ≤ m → i < m → upT N (l.getD i []) i m (wayT N l i) = some (rowT N l) := by
  intro m
  induction m using Nat.strongRecOn with
  | ind m ih =>
    intro l i hl hm hi
    by_cases h1 : m ≤ 1
    · rw [upT_one N _ _ _ _ h1, wayT_one N l i (by omega), if_pos rfl, rowT_one N l (by omega)]
      obtain rfl : i = 0 := by omega
      cases l with
      | nil => have e : 0 = m := hl; omega
      | cons a l => rfl
    · have hx := xor_one i
      have hp : (pairUp N l).length = (m + 1) / 2 := by rw [pairUp_length, hl]
      have hih := ih ((m + 1) / 2) (by omega) (pairUp N l) (i / 2) hp (by omega) (by omega)
      rw [rowT_pair N m l hl (by omega)] at hih
      rw [wayT_step N l i (by omega), hl]
      by_cases hq : (i ^^^ 1) < m
      · rw [if_pos hq, List.singleton_append, upT_cons N _ i m _ _ (by omega) hq]
        have hget : (pairUp N l).getD (i / 2) [] = if i % 2 = 0 then N (l.getD i []) (l.getD (i ^^^ 1) []) else N (l.getD (i ^^^ 1) []) (l.getD i []) := by
          rw [List.getD_eq_getElem?_getD, pairUp_get N l (i / 2) (by rw [hl]; rw [hx] at hq; split at hq <;> omega)]
          rw [hx]
          split
          · rw [show 2 * (i / 2) = i by omega]; rfl
          · rw [show 2 * (i / 2) = i - 1 by omega, show i - 1 + 1 = i by omega]; rfl
        rw [← hget]
        exact hih
      · rw [if_neg hq, List.nil_append, upT_odd N _ i m _ (by omega) (by omega)]
        have hget : (pairUp N l).getD (i / 2) [] = l.getD i [] := by
          rw [List.getD_eq_getElem?_getD, pairUp_last N l (i / 2) (by rw [hl]; rw [hx] at hq; split at hq <;> omega), show 2 * (i / 2) = i by rw [hx] at hq; split at hq <;> omega, ← List.getD_eq_getElem?_getD]
        rw [← hget]
        exact hih
/-- how long a way is -/
theorem wayT_length : ∀ (j : Nat) (l : List (List UInt8)) (i : Nat), l.length ≤ 2 ^ j → (wayT N l i).length ≤ j := by
  intro j
  induction j with
  | zero => intro l i h; rw [wayT_one N l i (by simpa using h)]; simp
  | succ j ih =>
    intro l i h
    by_cases h1 : l.length ≤ 1
    · rw [wayT_one N l i h1]; simp
    · rw [wayT_step N l i (by omega), List.length_append]
      have := ih (pairUp N l) (i / 2) (by rw [pairUp_length]; rw [Nat.pow_succ] at h; omega)
      split <;> simp <;> omega
/-- every hash beside a way is a node's or a leaf's -/
theorem pairUp_all {P : List UInt8 → Prop} (hN : ∀ a b, P (N a b)) : ∀ l : List (List UInt8), (∀ x ∈ l, P x) → ∀ x ∈ pairUp N l, P x
  | a :: b :: l, h, x, hx => by
    simp only [pairUp, List.mem_cons] at hx
    rcases hx with rfl | hx
    · exact hN a b
    · exact pairUp_all hN l (fun y hy => h y (by simp [hy])) x hx
  | [a], h, x, hx => h x (by simpa [pairUp] using hx)
  | [], h, x, hx => by simp [pairUp] at hx
theorem wayT_all {P : List UInt8 → Prop} (hN : ∀ a b, P (N a b)) : ∀ (m : Nat) (l : List (List UInt8)) (i : Nat), l.length = m → (∀ x ∈ l, P x) → ∀ x ∈ wayT N l i, P x := by
  intro m
  induction m using Nat.strongRecOn with
  | ind m ih =>
    intro l i hl h x hx
    by_cases h1 : l.length ≤ 1
    · rw [wayT_one N l i h1] at hx; cases hx
    · rw [wayT_step N l i (by omega), List.mem_append] at hx
      rcases hx with hx | hx
      · split at hx
        · rename_i hlt
          simp only [List.mem_cons, List.not_mem_nil, or_false] at hx
          rw [hx, List.getD_eq_getElem?_getD, List.getElem?_eq_getElem hlt]
          exact h _ (List.getElem_mem hlt)
        · cases hx
      · exact ih ((m + 1) / 2) (by omega) (pairUp N l) (i / 2) (by rw [pairUp_length, hl]) (pairUp_all N hN l h) x hx
end
end Go.Proofs.YtaafaaoioleokaaGreatDoor
