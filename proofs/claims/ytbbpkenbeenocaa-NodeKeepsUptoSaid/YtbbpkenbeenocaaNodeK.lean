
/- What a node's disk holds through losses of power: the records that were put, or these and the one under way. Mathematics alone. -/
import Derived.Test.YtbbpkenbeenocaaNodeG
import Derived.Test.YtbbpkenbeenocaaNodeN
import Derived.Test.YtbbpkenbeenocaaDiskN
namespace Go.Proofs.Ytbbpkenbeenocaa
set_option maxRecDepth 100000
open Go Go.RowKit
set_option linter.unusedVariables false

/-- the disk's files: the log and the marks, as they are seen, and how much of each is safe -/
def LM (fs : List FM) (L : List UInt8) (ls : Nat) (M : List UInt8) (ms : Nat) : Prop :=
  (fs = [] ∧ L = [] ∧ ls = 0 ∧ M = [] ∧ ms = 0) ∨ (fs = [⟨sLog, L, ls⟩] ∧ M = [] ∧ ms = 0) ∨ fs = [⟨sLog, L, ls⟩, ⟨sMarks, M, ms⟩]
def ones (k : Nat) : List UInt8 := List.replicate k 1
theorem ones_len (k : Nat) : (ones k).length = k := by simp [ones]
theorem ones_succ (k : Nat) : ones (k + 1) = ones k ++ [1] := by simp [ones, List.replicate_succ']
theorem marked_ones (k : Nat) : marked (ones k) = k := by have := marked_rep k [] (by simp); rwa [List.append_nil] at this
/-- all is there and safe -/
def Clean (fs : List FM) (sure : List (List UInt8)) : Prop := LM fs (logL sure) (logL sure).length (ones sure.length) sure.length
/-- the records are there, and perhaps something behind them that is not marked -/
def Pend1 (fs : List FM) (sure : List (List UInt8)) : Prop := ∃ X ls, LM fs (logL sure ++ X) ls (ones sure.length) sure.length ∧ (logL sure).length ≤ ls ∧ ls ≤ (logL sure ++ X).length
/-- a record more is there, marked, the mark perhaps not safe -/
def Pend2 (fs : List FM) (sure : List (List UInt8)) (r : List UInt8) : Prop := ∃ ms, LM fs (logL (sure ++ [r])) (logL (sure ++ [r])).length (ones (sure.length + 1)) ms ∧ sure.length ≤ ms ∧ ms ≤ sure.length + 1
theorem Clean.pend {fs : List FM} {sure : List (List UInt8)} (h : Clean fs sure) : Pend1 fs sure := ⟨[], _, by rw [List.append_nil]; exact h, Nat.le_refl _, by simp⟩

theorem logM (s : ByteArray) : True := trivial
theorem marks_ne : ¬ sLog = sMarks := by decide

/-! one operation -/
section
variable {fs : List FM} {L M : List UInt8} {ls ms : Nat} {l : Int}
/-- does the power go in this operation? what is left of the count else -/
theorem goes_cases (fs : List FM) (l : Int) : goesM ⟨fs, false, l⟩ = (true, ⟨fs, true, 0⟩) ∨ ∃ l', goesM ⟨fs, false, l⟩ = (false, ⟨fs, false, l'⟩) := by
  unfold goesM
  split
  · exact .inr ⟨l, rfl⟩
  · split
    · exact .inl rfl
    · exact .inr ⟨_, rfl⟩
theorem op_cases (fs : List FM) (l : Int) (f : DM → Int × DM) : opM ⟨fs, false, l⟩ f = (51, ⟨fs, true, 0⟩) ∨ ∃ l', opM ⟨fs, false, l⟩ f = f ⟨fs, false, l'⟩ := by
  unfold opM
  rw [if_neg (by simp)]
  rcases goes_cases fs l with h | ⟨l', h⟩
  · left; rw [h]; rfl
  · right; refine ⟨l', ?_⟩; rw [h]; rfl
theorem LM.readLog (h : LM fs L ls M ms) (l : Int) : (readN ⟨fs, false, l⟩ sLog).1 = L ∧ ((readN ⟨fs, false, l⟩ sLog).2.1 = true ↔ ¬ fs = []) ∧ (readN ⟨fs, false, l⟩ sLog).2.2 = 0 := by
  rcases h with ⟨rfl, rfl, _⟩ | ⟨rfl, _⟩ | rfl
  · have e : (readN ⟨[], false, l⟩ sLog).2.1 = false := rfl
    exact ⟨rfl, ⟨fun h => absurd (e.symm.trans h) (by decide), fun h => absurd rfl h⟩, rfl⟩
  · exact ⟨rfl, ⟨fun _ => by simp, fun _ => rfl⟩, rfl⟩
  · exact ⟨rfl, ⟨fun _ => by simp, fun _ => rfl⟩, rfl⟩
theorem LM.readMarks (h : LM fs L ls M ms) (l : Int) : (readN ⟨fs, false, l⟩ sMarks).1 = M ∧ ((readN ⟨fs, false, l⟩ sMarks).2.1 = true → fs = [⟨sLog, L, ls⟩, ⟨sMarks, M, ms⟩]) ∧ ((readN ⟨fs, false, l⟩ sMarks).2.1 = false → M = [] ∧ ms = 0) := by
  rcases h with ⟨rfl, rfl, rfl, rfl, rfl⟩ | ⟨rfl, rfl, rfl⟩ | rfl
  · exact ⟨rfl, fun h => absurd h (show ¬ (false = true) by decide), fun _ => ⟨rfl, rfl⟩⟩
  · exact ⟨rfl, fun h => absurd h (show ¬ (false = true) by decide), fun _ => ⟨rfl, rfl⟩⟩
  · exact ⟨rfl, fun _ => rfl, fun h => absurd h (show ¬ (true = false) by decide)⟩
/-- trimming the marks, where nothing is to be cut -/
theorem LM.trimMarks (h : LM fs L ls M ms) (l : Int) :
    (∃ l' fs', trimN ⟨fs, false, l⟩ sMarks (readN ⟨fs, false, l⟩ sMarks).2.1 (readN ⟨fs, false, l⟩ sMarks).1.length M.length = (0, ⟨fs', false, l'⟩) ∧ LM fs' L ls M M.length ∧ (fs' = [] ↔ fs = [])) ∨
    trimN ⟨fs, false, l⟩ sMarks (readN ⟨fs, false, l⟩ sMarks).2.1 (readN ⟨fs, false, l⟩ sMarks).1.length M.length = (51, ⟨fs, true, 0⟩) := by
  obtain ⟨h1, h2, h3⟩ := h.readMarks l
  rw [h1]
  cases hb : (readN ⟨fs, false, l⟩ sMarks).2.1 with
  | false =>
    obtain ⟨e1, e2⟩ := h3 hb
    left
    refine ⟨l, fs, by unfold trimN; rw [if_neg (by decide)], ?_, Iff.rfl⟩
    rw [e1, e2] at h
    rw [e1]
    exact h
  | true =>
    have e := h2 hb
    unfold trimN
    rw [if_pos rfl, if_neg (by omega)]
    rcases op_cases fs l (fun m => if placeF m.files sMarks < m.files.length then (0, { m with files := m.files.modify (placeF m.files sMarks) fun f => { f with safe := f.data.length } }) else (50, m)) with q | ⟨l', q⟩
    · exact .inr q
    · left
      refine ⟨l', [⟨sLog, L, ls⟩, ⟨sMarks, M, M.length⟩], ?_, .inr (.inr rfl), by rw [e]; simp⟩
      unfold syncM
      rw [q, e]
      rfl
/-- trimming the log -/
theorem LM.trimLog (h : LM fs L ls M ms) (l : Int) (there : Bool) (ht : there = true ↔ ¬ fs = []) (K : Nat) (hK : K ≤ L.length) :
    (∃ l' fs', trimN ⟨fs, false, l⟩ sLog there L.length K = (0, ⟨fs', false, l'⟩) ∧ LM fs' (L.take K) K M ms) ∨
    ∃ fs', trimN ⟨fs, false, l⟩ sLog there L.length K = (51, ⟨fs', true, 0⟩) ∧ (LM fs' L ls M ms ∨ LM fs' (L.take K) (min ls K) M ms) := by
  have hf : there = true → ∃ rest, fs = ⟨sLog, L, ls⟩ :: rest ∧ ((rest = [] ∧ M = [] ∧ ms = 0) ∨ rest = [⟨sMarks, M, ms⟩]) := fun h' => by
    rcases h with ⟨e, _⟩ | ⟨e, e1, e2⟩ | e
    · exact absurd e (ht.1 h')
    · exact ⟨[], e, .inl ⟨rfl, e1, e2⟩⟩
    · exact ⟨_, e, .inr rfl⟩
  have hLM : ∀ (rest : List FM) (L' : List UInt8) (ls' : Nat), ((rest = [] ∧ M = [] ∧ ms = 0) ∨ rest = [⟨sMarks, M, ms⟩]) → LM (⟨sLog, L', ls'⟩ :: rest) L' ls' M ms := fun rest L' ls' hr => by
    rcases hr with ⟨e, e1, e2⟩ | e
    · subst e; exact .inr (.inl ⟨rfl, e1, e2⟩)
    · subst e; exact .inr (.inr rfl)
  cases there with
  | false =>
    have e : fs = [] := Classical.byContradiction fun h => absurd (ht.2 h) (by decide)
    left
    refine ⟨l, fs, by unfold trimN; rw [if_neg (by decide)], ?_⟩
    rcases h with ⟨_, rfl, rfl, e3, e4⟩ | ⟨e', _⟩ | e'
    · have : K = 0 := by simpa using hK
      subst this
      exact .inl ⟨e, rfl, rfl, e3, e4⟩
    · rw [e] at e'; cases e'
    · rw [e] at e'; cases e'
  | true =>
    obtain ⟨rest, e, hr⟩ := hf rfl
    subst e
    unfold trimN
    rw [if_pos rfl]
    have hp : ∀ (L' : List UInt8) (ls' : Nat), placeF (⟨sLog, L', ls'⟩ :: rest) sLog = 0 := fun _ _ => by unfold placeF; rw [if_pos rfl]
    have hsync : ∀ (L' : List UInt8) (ls' : Nat) (l : Int), syncM ⟨⟨sLog, L', ls'⟩ :: rest, false, l⟩ sLog = (51, ⟨⟨sLog, L', ls'⟩ :: rest, true, 0⟩) ∨ ∃ l', syncM ⟨⟨sLog, L', ls'⟩ :: rest, false, l⟩ sLog = (0, ⟨⟨sLog, L', L'.length⟩ :: rest, false, l'⟩) := fun L' ls' l => by
      unfold syncM
      rcases op_cases (⟨sLog, L', ls'⟩ :: rest) l (fun m => if placeF m.files sLog < m.files.length then (0, { m with files := m.files.modify (placeF m.files sLog) fun f => { f with safe := f.data.length } }) else (50, m)) with q | ⟨l', q⟩
      · exact .inl q
      · right
        refine ⟨l', ?_⟩
        rw [q]
        dsimp only
        rw [hp, if_pos (by simp)]
        rfl
    by_cases hc : K < L.length
    · rw [if_pos hc]
      have htr : truncM ⟨⟨sLog, L, ls⟩ :: rest, false, l⟩ sLog (K : Int) = (51, ⟨⟨sLog, L, ls⟩ :: rest, true, 0⟩) ∨ ∃ l', truncM ⟨⟨sLog, L, ls⟩ :: rest, false, l⟩ sLog (K : Int) = (0, ⟨⟨sLog, L.take K, min ls K⟩ :: rest, false, l'⟩) := by
        unfold truncM
        rcases op_cases (⟨sLog, L, ls⟩ :: rest) l (fun m => match m.files[placeF m.files sLog]? with
          | none => (50, m)
          | some f => if (K : Int) < 0 ∨ (f.data.length : Int) < (K : Int) then (2, m) else (0, { m with files := m.files.modify (placeF m.files sLog) fun f => { f with data := f.data.take (K : Int).toNat, safe := min f.safe (K : Int).toNat } })) with q | ⟨l', q⟩
        · exact .inl q
        · right
          refine ⟨l', q.trans ?_⟩
          dsimp only
          rw [hp]
          simp only [List.getElem?_cons_zero]
          rw [if_neg (by omega)]
          rfl
      rcases htr with q | ⟨l', q⟩
      · rw [q]
        right
        exact ⟨_, by rw [if_neg (show ¬ ((51 : Int) = 0) by decide)], .inl (hLM rest L ls hr)⟩
      · rw [q]
        dsimp only
        rw [if_pos rfl]
        rcases hsync (L.take K) (min ls K) l' with q2 | ⟨l2, q2⟩
        · right; exact ⟨_, q2, .inr (hLM rest _ _ hr)⟩
        · left
          refine ⟨l2, _, q2, ?_⟩
          have e : (L.take K).length = K := by simp; omega
          have := hLM rest (L.take K) (L.take K).length hr
          rw [e] at this ⊢
          exact this
    · rw [if_neg hc]
      have e : K = L.length := by omega
      rcases hsync L ls l with q | ⟨l', q⟩
      · right; exact ⟨_, q, .inl (hLM rest L ls hr)⟩
      · left
        refine ⟨l', _, q, ?_⟩
        rw [e, List.take_of_length_le (Nat.le_refl _)]
        exact hLM rest L L.length hr
end

/-! Open -/
theorem open_pend1 {fs : List FM} {sure : List (List UInt8)} (h : Pend1 fs sure) (l : Int) (hr : ∀ r ∈ sure, r.length < 18446744073709551616) :
    (∃ l' fs', openN ⟨fs, false, l⟩ = (0, ⟨fs', false, l'⟩, sure) ∧ Clean fs' sure) ∨ ∃ fs', openN ⟨fs, false, l⟩ = (51, ⟨fs', true, 0⟩, []) ∧ Pend1 fs' sure := by
  obtain ⟨X, ls, h, h1, h2⟩ := h
  obtain ⟨a1, a2, a3⟩ := h.readLog l
  obtain ⟨b1, _, _⟩ := h.readMarks l
  have hsp := split_log sure X hr
  have hu := used_log sure
  have hlen : (logL sure).length ≤ (logL sure ++ X).length := by simp
  unfold openN
  rw [if_neg (by simp), b1, marked_ones, a1, hsp]
  dsimp only
  have ht := h.trimMarks l
  rw [b1, ones_len] at ht
  rw [ones_len]
  rcases ht with ⟨l1, fs1, e1, q1, q2⟩ | e1
  · rw [e1]
    dsimp only
    rw [if_pos rfl]
    have hthere : (readN ⟨fs, false, l⟩ sLog).2.1 = true ↔ ¬ fs1 = [] := by rw [a2, q2]
    rcases q1.trimLog l1 _ hthere (usedN sure) (by rw [hu]; exact hlen) with ⟨l2, fs2, e2, q3⟩ | ⟨fs2, e2, q3⟩
    · left
      refine ⟨l2, fs2, by rw [e2, if_pos rfl], ?_⟩
      rw [hu, List.take_left] at q3
      exact q3
    · right
      refine ⟨fs2, by rw [e2, if_neg (show ¬ ((51 : Int) = 0) by decide)], ?_⟩
      rcases q3 with q3 | q3
      · exact ⟨X, ls, q3, h1, h2⟩
      · rw [hu, List.take_left, Nat.min_eq_right h1] at q3
        exact ⟨[], _, by rw [List.append_nil]; exact q3, Nat.le_refl _, by simp⟩
  · rw [e1]
    dsimp only
    rw [if_neg (show ¬ ((51 : Int) = 0) by decide)]
    exact .inr ⟨fs, rfl, X, ls, h, h1, h2⟩
theorem open_pend2 {fs : List FM} {sure : List (List UInt8)} {r : List UInt8} (h : Pend2 fs sure r) (l : Int) (hr : ∀ x ∈ sure ++ [r], x.length < 18446744073709551616) :
    (∃ l' fs', openN ⟨fs, false, l⟩ = (0, ⟨fs', false, l'⟩, sure ++ [r]) ∧ Clean fs' (sure ++ [r])) ∨ ∃ fs', openN ⟨fs, false, l⟩ = (51, ⟨fs', true, 0⟩, []) ∧ Pend2 fs' sure r := by
  obtain ⟨ms, h, h1, h2⟩ := h
  obtain ⟨a1, a2, a3⟩ := h.readLog l
  obtain ⟨b1, _, _⟩ := h.readMarks l
  have hsp := split_log (sure ++ [r]) [] hr
  rw [List.append_nil, List.length_append, List.length_cons, List.length_nil] at hsp
  have hu := used_log (sure ++ [r])
  unfold openN
  rw [if_neg (by simp), b1, marked_ones, a1, hsp]
  dsimp only
  have ht := h.trimMarks l
  rw [b1, ones_len] at ht
  rw [ones_len]
  rcases ht with ⟨l1, fs1, e1, q1, q2⟩ | e1
  · rw [e1]
    dsimp only
    rw [if_pos rfl]
    have hthere : (readN ⟨fs, false, l⟩ sLog).2.1 = true ↔ ¬ fs1 = [] := by rw [a2, q2]
    rcases q1.trimLog l1 _ hthere (usedN (sure ++ [r])) (by rw [hu]; exact Nat.le_refl _) with ⟨l2, fs2, e2, q3⟩ | ⟨fs2, e2, q3⟩
    · left
      refine ⟨l2, fs2, by rw [e2, if_pos rfl], ?_⟩
      rw [hu, List.take_of_length_le (Nat.le_refl _)] at q3
      unfold Clean
      rw [List.length_append, List.length_cons, List.length_nil]
      exact q3
    · right
      refine ⟨fs2, by rw [e2, if_neg (show ¬ ((51 : Int) = 0) by decide)], ?_⟩
      rw [hu, List.take_of_length_le (Nat.le_refl _), Nat.min_self] at q3
      exact ⟨sure.length + 1, q3.elim id id, by omega, by omega⟩
  · rw [e1]
    dsimp only
    rw [if_neg (show ¬ ((51 : Int) = 0) by decide)]
    exact .inr ⟨fs, rfl, ms, h, h1, h2⟩

/-! a loss of power -/
theorem remM_full (s : ByteArray) (d : List UInt8) (keep : List Bool) : remM ⟨s, d, d.length⟩ keep = d := by simp [remM, remS]
theorem crash_LM {fs : List FM} {L M : List UInt8} {ls ms : Nat} (h : LM fs L ls M ms) (hl : ls ≤ L.length) (hm : ms ≤ M.length) (ks : List Bool) :
    ∃ kp kq, LM (asNew (crashM fs ks)) (remM ⟨sLog, L, ls⟩ kp) (remM ⟨sLog, L, ls⟩ kp).length (remM ⟨sMarks, M, ms⟩ kq) (remM ⟨sMarks, M, ms⟩ kq).length := by
  rcases h with ⟨rfl, rfl, rfl, rfl, rfl⟩ | ⟨rfl, rfl, rfl⟩ | rfl
  · exact ⟨[], [], .inl ⟨rfl, by simp [remM, remS], by simp [remM, remS], by simp [remM, remS], by simp [remM, remS]⟩⟩
  · exact ⟨ks, [], .inr (.inl ⟨rfl, by simp [remM, remS], by simp [remM, remS]⟩)⟩
  · exact ⟨_, _, .inr (.inr rfl)⟩
theorem crash_pend1 {fs : List FM} {sure : List (List UInt8)} (h : Pend1 fs sure) (ks : List Bool) : Pend1 (asNew (crashM fs ks)) sure := by
  obtain ⟨X, ls, h, h1, h2⟩ := h
  obtain ⟨kp, kq, q⟩ := crash_LM h h2 (by rw [ones_len]; omega) ks
  have hM : remM ⟨sMarks, ones sure.length, sure.length⟩ kq = ones sure.length := by
    have := remM_full sMarks (ones sure.length) kq
    rwa [ones_len] at this
  obtain ⟨p1, p2⟩ := remM_pre ⟨sLog, logL sure ++ X, ls⟩ kp h2
  rw [hM, ones_len] at q
  dsimp only at p1 p2
  have e : (remM ⟨sLog, logL sure ++ X, ls⟩ kp).take (logL sure).length = logL sure := by
    have := congrArg (List.take (logL sure).length) p1
    rw [List.take_take, List.take_take, Nat.min_eq_left h1] at this
    rw [this, List.take_left]
  generalize remM ⟨sLog, logL sure ++ X, ls⟩ kp = R at *
  have e2 : R = logL sure ++ R.drop (logL sure).length := by conv => lhs; rw [← List.take_append_drop (logL sure).length R, e]
  refine ⟨R.drop (logL sure).length, R.length, ?_, by omega, ?_⟩
  · rw [← e2]; exact q
  · rw [← e2]; exact Nat.le_refl _
theorem crash_pend2 {fs : List FM} {sure : List (List UInt8)} {r : List UInt8} (h : Pend2 fs sure r) (ks : List Bool) : Pend1 (asNew (crashM fs ks)) sure ∨ Pend2 (asNew (crashM fs ks)) sure r := by
  obtain ⟨ms, h, h1, h2⟩ := h
  obtain ⟨kp, kq, q⟩ := crash_LM h (Nat.le_refl _) (by rw [ones_len]; omega) ks
  rw [remM_full] at q
  have hM : remM ⟨sMarks, ones (sure.length + 1), ms⟩ kq = ones sure.length ∨ remM ⟨sMarks, ones (sure.length + 1), ms⟩ kq = ones (sure.length + 1) := by
    rcases Nat.lt_or_ge ms (sure.length + 1) with hlt | hge
    · have e : ms = sure.length := by omega
      subst e
      unfold remM remS
      have e1 : (ones (sure.length + 1)).drop sure.length = [1] := by rw [ones_succ]; exact List.drop_left' (ones_len _)
      have e2 : (ones (sure.length + 1)).take sure.length = ones sure.length := by rw [ones_succ]; exact List.take_left' (ones_len _)
      dsimp only
      rw [e1, e2]
      cases kq with
      | nil => left; rfl
      | cons b kq =>
        cases b with
        | false => left; simp [remStep]
        | true => right; simp [remStep, ones_succ]
    · right
      have e : ms = (ones (sure.length + 1)).length := by rw [ones_len]; omega
      rw [e]
      exact remM_full _ _ _
  rcases hM with e | e
  · left
    rw [e, ones_len] at q
    refine ⟨entryN r, _, ?_, ?_, Nat.le_refl _⟩
    · have e3 : logL sure ++ entryN r = logL (sure ++ [r]) := by rw [logL_append]; simp [logL]
      rw [e3]; exact q
    · simp
  · right
    rw [e, ones_len] at q
    exact ⟨sure.length + 1, q, by omega, by omega⟩

/-! Put -/
theorem app_cases (fs : List FM) (l : Int) (s : ByteArray) (b : List UInt8) (fs1 : List FM) (h : ∀ l', addM ⟨fs, false, l'⟩ s b = (0, ⟨fs1, false, l'⟩)) (h2 : addM ⟨fs, true, 0⟩ s b = (0, ⟨fs1, true, 0⟩)) :
    appendM ⟨fs, false, l⟩ s b = (51, ⟨fs1, true, 0⟩) ∨ ∃ l', appendM ⟨fs, false, l⟩ s b = (0, ⟨fs1, false, l'⟩) := by
  unfold appendM
  rw [if_neg (by simp)]
  rcases goes_cases fs l with q | ⟨l', q⟩
  · left; rw [q, if_pos rfl, h2]
  · right; refine ⟨l', ?_⟩; rw [q, if_neg (by simp), h l']
theorem app_log {fs : List FM} {L M : List UInt8} {ls ms : Nat} (h : LM fs L ls M ms) (l : Int) (b : List UInt8) : ∃ fs1, LM fs1 (L ++ b) ls M ms ∧ ¬ fs1 = [] ∧ (appendM ⟨fs, false, l⟩ sLog b = (51, ⟨fs1, true, 0⟩) ∨ ∃ l', appendM ⟨fs, false, l⟩ sLog b = (0, ⟨fs1, false, l'⟩)) := by
  rcases h with ⟨rfl, rfl, rfl, rfl, rfl⟩ | ⟨rfl, rfl, rfl⟩ | rfl
  · exact ⟨[⟨sLog, b, 0⟩], .inr (.inl ⟨rfl, rfl, rfl⟩), by simp, app_cases _ _ _ _ _ (fun _ => rfl) rfl⟩
  · exact ⟨[⟨sLog, L ++ b, ls⟩], .inr (.inl ⟨rfl, rfl, rfl⟩), by simp, app_cases _ _ _ _ _ (fun _ => rfl) rfl⟩
  · exact ⟨[⟨sLog, L ++ b, ls⟩, ⟨sMarks, M, ms⟩], .inr (.inr rfl), by simp, app_cases _ _ _ _ _ (fun _ => rfl) rfl⟩
theorem sync_log {fs : List FM} {L M : List UInt8} {ls ms : Nat} (h : LM fs L ls M ms) (hn : ¬ fs = []) (l : Int) : syncM ⟨fs, false, l⟩ sLog = (51, ⟨fs, true, 0⟩) ∨ ∃ l' fs', syncM ⟨fs, false, l⟩ sLog = (0, ⟨fs', false, l'⟩) ∧ LM fs' L L.length M ms ∧ ¬ fs' = [] := by
  unfold syncM
  rcases op_cases fs l (fun m => if placeF m.files sLog < m.files.length then (0, { m with files := m.files.modify (placeF m.files sLog) fun f => { f with safe := f.data.length } }) else (50, m)) with q | ⟨l', q⟩
  · exact .inl q
  · right
    rcases h with ⟨rfl, _⟩ | ⟨rfl, rfl, rfl⟩ | rfl
    · exact absurd rfl hn
    · exact ⟨l', [⟨sLog, L, L.length⟩], q.trans rfl, .inr (.inl ⟨rfl, rfl, rfl⟩), by simp⟩
    · exact ⟨l', [⟨sLog, L, L.length⟩, ⟨sMarks, M, ms⟩], q.trans rfl, .inr (.inr rfl), by simp⟩
theorem app_marks {fs : List FM} {L M : List UInt8} {ls ms : Nat} (h : LM fs L ls M ms) (hn : ¬ fs = []) (l : Int) (b : List UInt8) : appendM ⟨fs, false, l⟩ sMarks b = (51, ⟨[⟨sLog, L, ls⟩, ⟨sMarks, M ++ b, ms⟩], true, 0⟩) ∨ ∃ l', appendM ⟨fs, false, l⟩ sMarks b = (0, ⟨[⟨sLog, L, ls⟩, ⟨sMarks, M ++ b, ms⟩], false, l'⟩) := by
  rcases h with ⟨rfl, _⟩ | ⟨rfl, rfl, rfl⟩ | rfl
  · exact absurd rfl hn
  · exact app_cases _ _ _ _ _ (fun _ => rfl) rfl
  · exact app_cases _ _ _ _ _ (fun _ => rfl) rfl
theorem sync_marks (L M : List UInt8) (ls ms : Nat) (l : Int) : syncM ⟨[⟨sLog, L, ls⟩, ⟨sMarks, M, ms⟩], false, l⟩ sMarks = (51, ⟨[⟨sLog, L, ls⟩, ⟨sMarks, M, ms⟩], true, 0⟩) ∨ ∃ l', syncM ⟨[⟨sLog, L, ls⟩, ⟨sMarks, M, ms⟩], false, l⟩ sMarks = (0, ⟨[⟨sLog, L, ls⟩, ⟨sMarks, M, M.length⟩], false, l'⟩) := by
  unfold syncM
  rcases op_cases [⟨sLog, L, ls⟩, ⟨sMarks, M, ms⟩] l (fun m => if placeF m.files sMarks < m.files.length then (0, { m with files := m.files.modify (placeF m.files sMarks) fun f => { f with safe := f.data.length } }) else (50, m)) with q | ⟨l', q⟩
  · exact .inl q
  · exact .inr ⟨l', q.trans rfl⟩
theorem put_clean {fs : List FM} {sure : List (List UInt8)} (h : Clean fs sure) (l : Int) (r : List UInt8) :
    (∃ l' fs', putE r ⟨fs, false, l⟩ = (0, ⟨fs', false, l'⟩) ∧ Clean fs' (sure ++ [r])) ∨ ∃ fs', putE r ⟨fs, false, l⟩ = (51, ⟨fs', true, 0⟩) ∧ (Pend1 fs' sure ∨ Pend2 fs' sure r) := by
  have hne : ¬ ((51 : Int) = 0) := by decide
  have e3 : logL (sure ++ [r]) = logL sure ++ entryN r := by rw [logL_append]; simp [logL]
  have e4 : (sure ++ [r]).length = sure.length + 1 := by simp
  unfold Clean at h
  rw [putE_eq]
  obtain ⟨fs1, h1, n1, q⟩ := app_log h l (entryN r)
  rcases q with q | ⟨l1, q⟩
  · rw [q, if_neg hne]
    exact .inr ⟨fs1, rfl, .inl ⟨entryN r, _, h1, Nat.le_refl _, by simp⟩⟩
  · rw [q]
    dsimp only
    rw [if_pos rfl]
    rcases sync_log h1 n1 l1 with q | ⟨l2, fs2, q, h2, n2⟩
    · rw [q, if_neg hne]
      exact .inr ⟨fs1, rfl, .inl ⟨entryN r, _, h1, Nat.le_refl _, by simp⟩⟩
    · rw [q]
      dsimp only
      rw [if_pos rfl]
      have hp2 : ∀ ms, sure.length ≤ ms → ms ≤ sure.length + 1 → Pend2 [⟨sLog, logL sure ++ entryN r, (logL sure ++ entryN r).length⟩, ⟨sMarks, ones sure.length ++ [1], ms⟩] sure r := fun ms a b =>
        ⟨ms, by rw [e3, ones_succ]; exact .inr (.inr rfl), a, b⟩
      rcases app_marks h2 n2 l2 [1] with q | ⟨l3, q⟩
      · rw [q, if_neg hne]
        exact .inr ⟨_, rfl, .inr (hp2 _ (Nat.le_refl _) (by omega))⟩
      · rw [q]
        dsimp only
        rw [if_pos rfl]
        rcases sync_marks (logL sure ++ entryN r) (ones sure.length ++ [1]) (logL sure ++ entryN r).length sure.length l3 with q | ⟨l4, q⟩
        · rw [q]
          exact .inr ⟨_, rfl, .inr (hp2 _ (Nat.le_refl _) (by omega))⟩
        · rw [q]
          refine .inl ⟨l4, _, rfl, ?_⟩
          unfold Clean
          rw [e3, e4, ones_succ]
          have e5 : (ones sure.length ++ [1]).length = sure.length + 1 := by rw [← ones_succ, ones_len]
          rw [e5]
          exact .inr (.inr rfl)
theorem clean_new : Clean [] [] := .inl ⟨rfl, rfl, rfl, rfl, rfl⟩
end Go.Proofs.Ytbbpkenbeenocaa
