
/- What a log of records holds, opened. Mathematics alone. -/
import Derived.Test.YtbbpkenbeenocaaNodeM
import Derived.Test.YtbbpkenbeenocaaBeLt
namespace Go.Proofs.Ytbbpkenbeenocaa
set_option maxRecDepth 100000
open Go Go.RowKit
set_option linter.unusedVariables false
def logL (rs : List (List UInt8)) : List UInt8 := rs.flatMap entryN
theorem logL_cons (r : List UInt8) (rs : List (List UInt8)) : logL (r :: rs) = entryN r ++ logL rs := by simp [logL]
theorem logL_append (rs qs : List (List UInt8)) : logL (rs ++ qs) = logL rs ++ logL qs := by simp [logL]
theorem entry_len (r : List UInt8) : (entryN r).length = 8 + r.length := by unfold entryN; rw [List.length_append, be_length]
theorem used_log (rs : List (List UInt8)) : usedN rs = (logL rs).length := by
  induction rs with
  | nil => rfl
  | cons r rs ih => rw [logL_cons, List.length_append, ← ih, entry_len]; simp [usedN]
theorem entry_head (r t : List UInt8) (h : r.length < 18446744073709551616) : beVal ((entryN r ++ t).take 8) = r.length := by
  unfold entryN
  rw [List.append_assoc, List.take_append_of_le_length (by rw [be_length]; omega), List.take_of_length_le (by rw [be_length]; omega), be_lt]
  omega
theorem split_log : ∀ (rs : List (List UInt8)) (t : List UInt8), (∀ r ∈ rs, r.length < 18446744073709551616) → splitN rs.length (logL rs ++ t) = some rs := by
  intro rs
  induction rs with
  | nil => intro t _; rfl
  | cons r rs ih =>
    intro t h
    have hr := h r (by simp)
    have e : logL (r :: rs) ++ t = entryN r ++ (logL rs ++ t) := by rw [logL_cons, List.append_assoc]
    rw [e, List.length_cons]
    unfold splitN
    rw [entry_head r _ hr, if_neg (by rw [List.length_append, entry_len]; omega)]
    have e2 : (entryN r ++ (logL rs ++ t)).drop (8 + r.length) = logL rs ++ t := by
      rw [← entry_len r, List.drop_left]
    have e3 : ((entryN r ++ (logL rs ++ t)).drop 8).take r.length = r := by
      unfold entryN
      rw [List.append_assoc, List.drop_append_of_le_length (by rw [be_length]; omega), List.drop_of_length_le (by rw [be_length]; omega), List.nil_append, List.take_left]
    rw [e2, e3, ih t fun x hx => h x (by simp [hx])]
    rfl
theorem marked_rep (k : Nat) (t : List UInt8) (h : ∀ x, t.head? = some x → x ≠ 1) : marked (List.replicate k 1 ++ t) = k := by
  induction k with
  | zero =>
    cases t with
    | nil => rfl
    | cons x t => simp only [List.replicate_zero, List.nil_append, marked]; rw [if_neg (h x rfl)]
  | succ k ih => rw [List.replicate_succ, List.cons_append]; simp only [marked, if_true]; rw [ih]
def twoM (L M : List UInt8) : DM := ⟨[⟨sLog, L, L.length⟩, ⟨sMarks, M, M.length⟩], false, 0⟩
theorem two_readN1 (L M : List UInt8) : readN (twoM L M) sLog = (L, true, 0) := rfl
theorem two_readN2 (L M : List UInt8) : readN (twoM L M) sMarks = (M, true, 0) := rfl
theorem two_sync1 (L M : List UInt8) : syncM (twoM L M) sLog = (0, twoM L M) := rfl
theorem two_sync2 (L M : List UInt8) : syncM (twoM L M) sMarks = (0, twoM L M) := rfl
theorem two_open (rs : List (List UInt8)) (h : ∀ r ∈ rs, r.length < 18446744073709551616) : openN (twoM (logL rs) (List.replicate rs.length 1)) = (0, twoM (logL rs) (List.replicate rs.length 1), rs) := by
  have hm := marked_rep rs.length [] (by simp)
  have hs := split_log rs [] h
  rw [List.append_nil] at hm hs
  have t1 : trimN (twoM (logL rs) (List.replicate rs.length 1)) sMarks true rs.length rs.length = (0, twoM (logL rs) (List.replicate rs.length 1)) := by
    unfold trimN; rw [if_pos rfl, if_neg (by omega), two_sync2]
  have t2 : trimN (twoM (logL rs) (List.replicate rs.length 1)) sLog true (logL rs).length (usedN rs) = (0, twoM (logL rs) (List.replicate rs.length 1)) := by
    unfold trimN; rw [if_pos rfl, if_neg (by rw [used_log]; omega), two_sync1]
  unfold openN
  rw [if_neg (by simp [twoM]), two_readN1, two_readN2]
  simp only [hm, hs, List.length_replicate, t1, t2, if_true]
end Go.Proofs.Ytbbpkenbeenocaa
