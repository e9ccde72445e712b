
/- What stands between slashes: plain mathematics; the document's denominations are these. The walks of the document's names: small, digit, Ident. The walk of the document's words: what stands between slashes. The walk of the document's denominations. -/
import Derived.Test.YtlkbjhhbpmmamaaNameI0
import Derived.Test.YtlkbjhhbpmmamaaNameC0
import Derived.Test.YtlkbjhhbpmmamaaBase0
namespace Go.Proofs.Ytlkbjhhbpmmamaa
set_option maxRecDepth 100000
open Go

/-- what stands between slashes -/
def wordsL : List UInt8 → List (List UInt8)
  | [] => [[]]
  | c :: l => if c = 47 then [] :: wordsL l else match wordsL l with
    | [] => [[c]]
    | x :: r => (c :: x) :: r
theorem wordsL_ne (l : List UInt8) : wordsL l ≠ [] := by
  cases l with
  | nil => simp [wordsL]
  | cons c l =>
    unfold wordsL
    split
    · simp
    · split <;> simp
theorem wordsL_plain : ∀ {h : List UInt8}, (47 : UInt8) ∉ h → wordsL h = [h]
  | [], _ => rfl
  | c :: h, hn => by
    have h1 : ¬ c = 47 := fun e => hn (by simp [e])
    unfold wordsL
    rw [if_neg h1, wordsL_plain (h := h) (fun e => hn (by simp [e]))]
theorem wordsL_app : ∀ {h : List UInt8} (r : List UInt8), (47 : UInt8) ∉ h → wordsL (h ++ 47 :: r) = h :: wordsL r
  | [], r, _ => by simp [wordsL]
  | c :: h, r, hn => by
    have h1 : ¬ c = 47 := fun e => hn (by simp [e])
    rw [List.cons_append, wordsL, if_neg h1, wordsL_app (h := h) r (fun e => hn (by simp [e]))]
theorem wordsL_size (l : List UInt8) : (wordsL l).length ≤ l.length + 1 := by
  induction l with
  | nil => simp [wordsL]
  | cons c l ih =>
    unfold wordsL
    split
    · simp; omega
    · split <;> simp_all <;> omega
/-- the first word and what is behind it -/
theorem words_first (l : List UInt8) : (wordsL l = [l] ∧ (47 : UInt8) ∉ l) ∨ ∃ h r, l = h ++ 47 :: r ∧ (47 : UInt8) ∉ h ∧ wordsL l = h :: wordsL r := by
  by_cases hm : (47 : UInt8) ∈ l
  · have hne : Lib.indexByte l 47 ≠ -1 := fun e => indexByte_miss.1 e hm
    obtain ⟨h1, h2, _⟩ := indexByte_hit hne
    exact .inr ⟨_, _, h1, h2, by rw [h1, wordsL_app _ h2, ← h1]⟩
  · exact .inl ⟨wordsL_plain hm, hm⟩

/-- the word that stands ahead of each hop -/
def trW : List UInt8 := [116, 114, 97, 110, 115, 102, 101, 114]
theorem trW_no : (47 : UInt8) ∉ trW := by decide
theorem trL_trW (h r : List UInt8) : trL ++ h ++ 47 :: r = trW ++ 47 :: (h ++ 47 :: r) := by simp [trL, trW]
/-- are these the words of a denomination? -/
def chk : List (List UInt8) → Bool
  | [] => false
  | [x] => identL x
  | t :: h :: r => decide (t = trW) && identL h && chk r
theorem chk_base : ∀ (n : Nat) (l : List UInt8), l.length ≤ n → chk (wordsL l) = identL (baseL l)
  | 0, l, h => by
    obtain rfl : l = [] := List.eq_nil_of_length_eq_zero (by omega)
    rfl
  | n + 1, l, h => by
    cases e : splitL l with
    | some p =>
      obtain ⟨x, r⟩ := p
      have hl := splitL_len e
      rw [(base_some e).1]
      obtain ⟨e1, e2⟩ := splitL_iff.1 e
      rw [e1, trL_trW, wordsL_app _ trW_no, wordsL_app _ (identL_no47 e2)]
      unfold chk
      rw [e2, chk_base n r (by omega)]
      simp
    | none =>
      rw [(base_none e).1]
      rcases words_first l with ⟨h1, h2⟩ | ⟨t, r, h1, h2, h3⟩
      · rw [h1]; rfl
      · have hf : identL l = false := by
          cases hi : identL l with
          | false => rfl
          | true => exact absurd (by rw [h1]; simp) (identL_no47 hi)
        rw [hf, h3]
        rcases words_first r with ⟨k1, k2⟩ | ⟨x, r2, k1, k2, k3⟩
        · rw [k1]; simp [chk]
        · rw [k3]
          unfold chk
          by_cases ht : t = trW
          · by_cases hx : identL x = true
            · exfalso
              have : splitL l = some (x, r2) := splitL_iff.2 ⟨by rw [h1, k1, ht, trL_trW], hx⟩
              rw [this] at e
              cases e
            · have hx2 : identL x = false := by simpa using hx
              rw [hx2]; simp
          · rw [decide_eq_false ht]; simp
theorem words_split {l h r : List UInt8} (e : splitL l = some (h, r)) : wordsL l = trW :: h :: wordsL r := by
  obtain ⟨e1, e2⟩ := splitL_iff.1 e
  rw [e1, trL_trW, wordsL_app _ trW_no, wordsL_app _ (identL_no47 e2)]
/-- the last word of a denomination is its base, and how many words there are -/
theorem words_denom : ∀ (n : Nat) (l : List UInt8), l.length ≤ n → identL (baseL l) = true → (wordsL l).length = 2 * hopsL l + 1 ∧ (wordsL l).getD (2 * hopsL l) [] = baseL l
  | 0, l, h, hi => by
    obtain rfl : l = [] := List.eq_nil_of_length_eq_zero (by omega)
    cases hi
  | n + 1, l, h, hi => by
    cases e : splitL l with
    | some p =>
      obtain ⟨x, r⟩ := p
      have hl := splitL_len e
      obtain ⟨b1, b2⟩ := base_some e
      rw [b1] at hi
      obtain ⟨k1, k2⟩ := words_denom n r (by omega) hi
      rw [words_split e, b1, b2]
      refine ⟨by simp [k1]; omega, ?_⟩
      rw [show 2 * (hopsL r + 1) = 2 * hopsL r + 1 + 1 by omega, List.getD_cons_succ, List.getD_cons_succ, k2]
    | none =>
      obtain ⟨b1, b2⟩ := base_none e
      rw [b1] at hi
      rw [wordsL_plain (identL_no47 hi), b1, b2]
      exact ⟨rfl, rfl⟩

/-- pair by pair -/
def pairOk (ws : List (List UInt8)) (j : Nat) : Bool := decide (ws.getD (2 * j) [] = trW) && identL (ws.getD (2 * j + 1) [])
theorem chk_pairs : ∀ (n : Nat) (ws : List (List UInt8)), ws.length ≤ n → (chk ws = true ↔ ws.length % 2 = 1 ∧ identL (ws.getD (ws.length - 1) []) = true ∧ ∀ j, 2 * j + 1 < ws.length → pairOk ws j = true)
  | 0, ws, h => by
    obtain rfl : ws = [] := List.eq_nil_of_length_eq_zero (by omega)
    simp [chk]
  | n + 1, ws, h => by
    match ws with
    | [] => simp [chk]
    | [x] => simp only [chk, List.length_cons, List.length_nil]; exact ⟨fun h => ⟨by simp, h, fun j hj => by omega⟩, fun h => h.2.1⟩
    | t :: x :: r =>
      have ih := chk_pairs n r (by simp at h; omega)
      simp only [chk, Bool.and_eq_true, decide_eq_true_eq, List.length_cons]
      rw [ih]
      constructor
      · rintro ⟨⟨ht, hx⟩, h1, h2, h3⟩
        refine ⟨by omega, ?_, fun j hj => ?_⟩
        · rw [show r.length + 1 + 1 - 1 = r.length - 1 + 1 + 1 by omega, List.getD_cons_succ, List.getD_cons_succ]; exact h2
        · cases j with
          | zero => simp [pairOk, ht, hx]
          | succ j =>
            have := h3 j (by omega)
            unfold pairOk at this ⊢
            rw [show 2 * (j + 1) = 2 * j + 1 + 1 by omega, List.getD_cons_succ, List.getD_cons_succ, List.getD_cons_succ, List.getD_cons_succ]
            exact this
      · rintro ⟨h1, h2, h3⟩
        have h0 := h3 0 (by omega)
        simp only [pairOk, Bool.and_eq_true, decide_eq_true_eq] at h0
        refine ⟨⟨h0.1, h0.2⟩, by omega, ?_, fun j hj => ?_⟩
        · rw [show r.length + 1 + 1 - 1 = r.length - 1 + 1 + 1 by omega, List.getD_cons_succ, List.getD_cons_succ] at h2; exact h2
        · have := h3 (j + 1) (by omega)
          unfold pairOk at this ⊢
          rw [show 2 * (j + 1) = 2 * j + 1 + 1 by omega, List.getD_cons_succ, List.getD_cons_succ, List.getD_cons_succ, List.getD_cons_succ] at this
          exact this

theorem drop_cut (l : List UInt8) {f i : Nat} (h : f ≤ i) (hi : i < l.length) : l.drop f = (l.drop f).take (i - f) ++ l.getD i 0 :: l.drop (i + 1) := by
  have e : l.getD i 0 = l[i] := by rw [List.getD_eq_getElem?_getD, List.getElem?_eq_getElem hi]; rfl
  have h1 : (l.drop f).drop (i - f) = l.drop i := by rw [List.drop_drop]; congr 1; omega
  have h2 : l.drop i = l[i] :: l.drop (i + 1) := List.drop_eq_getElem_cons hi
  rw [e, ← h2, ← h1, List.take_append_drop]
/-- a slash: one word more -/
theorem words_slash (l : List UInt8) {f i : Nat} (h : f ≤ i) (hi : i < l.length) (hn : (47 : UInt8) ∉ (l.drop f).take (i - f)) (hc : l.getD i 0 = 47) :
    wordsL (l.drop f) = (l.drop f).take (i - f) :: wordsL (l.drop (i + 1)) := by
  have := drop_cut l h hi
  rw [hc] at this
  rw [this, wordsL_app _ hn, ← this]
theorem words_on (l : List UInt8) {f i : Nat} (h : f ≤ i) (hi : i < l.length) (hn : (47 : UInt8) ∉ (l.drop f).take (i - f)) (hc : l.getD i 0 ≠ 47) :
    (47 : UInt8) ∉ (l.drop f).take (i + 1 - f) := by
  have e : l.getD i 0 = l[i] := by rw [List.getD_eq_getElem?_getD, List.getElem?_eq_getElem hi]; rfl
  rw [show i + 1 - f = i - f + 1 by omega, List.take_succ_eq_append_getElem (by rw [List.length_drop]; omega)]
  simp only [List.mem_append, List.mem_singleton, not_or]
  refine ⟨hn, ?_⟩
  rw [List.getElem_drop]
  intro he
  apply hc
  rw [e, he]
  congr 1
  omega
theorem words_end (l : List UInt8) {f : Nat} (hn : (47 : UInt8) ∉ (l.drop f).take (l.length - f)) : wordsL (l.drop f) = [(l.drop f).take (l.length - f)] := by
  rw [List.take_of_length_le (by rw [List.length_drop]; omega)] at hn ⊢
  exact wordsL_plain hn
end Go.Proofs.Ytlkbjhhbpmmamaa
namespace Go.Proofs.Ytlkbjhhbpmmamaa
set_option maxRecDepth 100000
open Go Go.RowKit

def allB (l : List UInt8) : Bool := l.all okB
theorem identL_of0 (l : List UInt8) (h0 : 0 < l.length) (h32 : l.length ≤ 32) (hs : smB (l.getD 0 0) = true) : identL l = allB l := by
  unfold allB
  rw [identL_of l h0 h32 hs]
  cases l with
  | nil => simp at h0
  | cons c r =>
    simp only [List.getD_cons_zero] at hs
    simp [okB_of_sm hs]
theorem all_more0 (l : List UInt8) (k : Nat) (h : k < l.length) : allB (l.take (k + 1)) = (allB (l.take k) && okB (l.getD k 0)) := by
  unfold allB
  have e : l.getD k 0 = l[k] := by rw [List.getD_eq_getElem?_getD, List.getElem?_eq_getElem h]; rfl
  rw [List.take_succ_eq_append_getElem h, List.all_append, e]
  simp
theorem all_stop0 (l : List UInt8) (k : Nat) (h : k < l.length) (hn : okB (l.getD k 0) = false) : allB l = false := by
  unfold allB
  have e : l.getD k 0 = l[k] := by rw [List.getD_eq_getElem?_getD, List.getElem?_eq_getElem h]; rfl
  rw [List.all_eq_false]
  exact ⟨l[k], List.getElem_mem _, by rw [← e, hn]; simp⟩

end Go.Proofs.Ytlkbjhhbpmmamaa
namespace Go.Proofs.Ytlkbjhhbpmmamaa
set_option maxRecDepth 100000
open Go Go.RowKit

def strs (ws : List (List UInt8)) : List Value := ws.map fun x => .string ⟨x.toArray⟩
theorem strs_length (ws : List (List UInt8)) : (strs ws).length = ws.length := by simp [strs]
theorem strs_append (a b : List (List UInt8)) : strs (a ++ b) = strs a ++ strs b := by simp [strs]
theorem Try.infoStr : (Try.prog.info? 9).map (fun i => (i.zero, i.size, i.bytes)) = some (some (.string ByteArray.empty), 1, 16) := by kernel_rfl

/-- where the words stand at a round's head -/
def WR (l : List UInt8) (K F : Nat) (ws : List (List UInt8)) : Prop :=
  (K ≤ l.length ∧ F ≤ K ∧ (47 : UInt8) ∉ (l.drop F).take (K - F) ∧ wordsL l = ws ++ wordsL (l.drop F) ∧ ws.length ≤ K) ∨ (K = l.length + 1 ∧ wordsL l = ws ∧ ws.length ≤ K)
theorem WR.start (l : List UInt8) : WR l 0 0 [] := .inl ⟨by omega, by omega, by simp, by simp, by simp⟩
theorem WR.slash {l : List UInt8} {K F : Nat} {ws : List (List UInt8)} (h : WR l K F ws) (hk : K < l.length) (hc : l.getD K 0 = 47) : WR l (K + 1) (K + 1) (ws ++ [(l.drop F).take (K - F)]) := by
  rcases h with ⟨h1, h2, h3, h4, h5⟩ | ⟨h1, _⟩
  · refine .inl ⟨by omega, by omega, by simp, ?_, by simp; omega⟩
    rw [h4, words_slash l h2 hk h3 hc, List.append_assoc]
    rfl
  · omega
theorem WR.on {l : List UInt8} {K F : Nat} {ws : List (List UInt8)} (h : WR l K F ws) (hk : K < l.length) (hc : l.getD K 0 ≠ 47) : WR l (K + 1) F ws := by
  rcases h with ⟨h1, h2, h3, h4, h5⟩ | ⟨h1, _⟩
  · exact .inl ⟨by omega, by omega, words_on l h2 hk h3 hc, h4, by omega⟩
  · omega
theorem WR.last {l : List UInt8} {F : Nat} {ws : List (List UInt8)} (h : WR l l.length F ws) : WR l (l.length + 1) (l.length + 1) (ws ++ [(l.drop F).take (l.length - F)]) := by
  rcases h with ⟨h1, h2, h3, h4, h5⟩ | ⟨h1, _⟩
  · exact .inr ⟨rfl, by rw [h4, words_end l h3], by simp; omega⟩
  · omega
theorem WR.done {l : List UInt8} {K F : Nat} {ws : List (List UInt8)} (h : WR l K F ws) (hk : ¬ K ≤ l.length) : wordsL l = ws := by
  rcases h with ⟨h1, _⟩ | ⟨_, h, _⟩
  · omega
  · exact h
theorem WR.le {l : List UInt8} {K F : Nat} {ws : List (List UInt8)} (h : WR l K F ws) (hk : K ≤ l.length) : F ≤ K := by
  rcases h with ⟨_, h, _⟩ | ⟨h, _⟩ <;> omega
theorem WR.len {l : List UInt8} {K F : Nat} {ws : List (List UInt8)} (h : WR l K F ws) : ws.length ≤ l.length + 1 ∧ K ≤ l.length + 1 := by
  rcases h with ⟨_, _, _, _, h⟩ | ⟨_, _, h⟩ <;> omega

theorem below_chain' {B : Nat} {a b c : World} (h : Below B a b) (hB : B ≤ b.heap.size) (k : Below b.heap.size b c) : Below B a c := h.trans (k.mono hB)
theorem one_cell (w : World) (t : TypeId) (x : Value) : ∀ j u, [x][j]? = some u → (w.alloc (.cells #[x] t)).cell? ((⟨w.heap.size, 0, none⟩ : Addr).add j) = some u := by
  intro j u hj
  cases j with
  | zero =>
    obtain rfl : x = u := by simpa using hj
    show (w.alloc (.cells #[x] t)).cell? ⟨w.heap.size, 0, none⟩ = some x
    rw [cell_of_row _ _ 0 #[x] t (0, 0) (heap_alloc_new w _)]
    rfl
  | succ j => simp at hj

end Go.Proofs.Ytlkbjhhbpmmamaa
namespace Go.Proofs.Ytlkbjhhbpmmamaa
set_option maxRecDepth 100000
open Go Go.RowKit

theorem words_short (l : List UInt8) : ∀ x ∈ wordsL l, x.length ≤ l.length := by
  induction l with
  | nil => intro x hx; simp [wordsL] at hx; subst hx; simp
  | cons c l ih =>
    intro x hx
    unfold wordsL at hx
    split at hx
    · rcases List.mem_cons.1 hx with h | h
      · subst h; simp
      · have := ih x h; simp; omega
    · split at hx
      · simp at hx; subst hx; simp
      · rename_i y r e
        rcases List.mem_cons.1 hx with h | h
        · subst h; have := ih y (by rw [e]; simp); simp; omega
        · have := ih x (by rw [e]; simp [h]); simp; omega
theorem strs_at (ws : List (List UInt8)) (k : Nat) (h : k < ws.length) : (strs ws)[k]? = some (.string ⟨(ws.getD k []).toArray⟩) := by
  rw [strs, List.getElem?_map, List.getElem?_eq_getElem h, List.getD_eq_getElem?_getD, List.getElem?_eq_getElem h]
  rfl
theorem getD_short (l : List UInt8) (k : Nat) (h : k < (wordsL l).length) : ((wordsL l).getD k []).length ≤ l.length := by
  rw [List.getD_eq_getElem?_getD, List.getElem?_eq_getElem h]
  exact words_short l _ (List.getElem_mem h)
theorem words_pos (l : List UInt8) : 0 < (wordsL l).length := by
  have := wordsL_ne l
  cases h : wordsL l with
  | nil => exact absurd h this
  | cons a r => simp

/-- what a word's text tells of 'transfer' -/
theorem is_tr (x : List UInt8) : ((⟨x.toArray⟩ : ByteArray).toList == [116, 114, 97, 110, 115, 102, 101, 114]) = decide (x = trW) := by
  rw [Lib.toList_data]
  rw [Bool.eq_iff_iff, beq_iff_eq, decide_eq_true_iff]
  exact Iff.rfl

end Go.Proofs.Ytlkbjhhbpmmamaa
