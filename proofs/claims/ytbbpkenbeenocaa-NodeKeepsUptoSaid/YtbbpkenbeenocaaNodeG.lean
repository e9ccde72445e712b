
/- What a node's calls keep of the files. Mathematics alone. -/
import Derived.Test.YtbbpkenbeenocaaNodeM
import Derived.Test.YtbbpkenbeenocaaDiskGL
namespace Go.Proofs.Ytbbpkenbeenocaa
set_option maxRecDepth 100000
open Go Go.RowKit
set_option linter.unusedVariables false

theorem append_files (m : DM) (s : ByteArray) (b : List UInt8) (h : GoodL m.files) : GoodL (appendM m s b).2.files ∧ totM (appendM m s b).2.files ≤ totM m.files + b.length := by
  have hgf := goes_files (m := m)
  have h' : GoodL (goesM m).2.files := by rw [hgf]; exact h
  unfold appendM
  split
  · exact ⟨h, by simp⟩
  · have := add_files (goesM m).2 s b h'
    rw [hgf] at this
    exact this
theorem sync_files (m : DM) (s : ByteArray) (h : GoodL m.files) : GoodL (syncM m s).2.files ∧ totM (syncM m s).2.files ≤ totM m.files := by
  have hgf := goes_files (m := m)
  have h' : GoodL (goesM m).2.files := by rw [hgf]; exact h
  unfold syncM opM
  split
  · exact ⟨h, by simp⟩
  split
  · exact ⟨h', by rw [hgf]; simp⟩
  dsimp only
  split
  · exact ⟨h'.modify _ _ (fun _ => rfl) fun f hf => by simp, by have := modify_tot (fun f => { f with safe := f.data.length }) 0 (fun f => by simp) (goesM m).2.files (placeF (goesM m).2.files s); rw [hgf] at this ⊢; exact Nat.le_trans this (by omega)⟩
  · exact ⟨h', by rw [hgf]; simp⟩
theorem trunc_files (m : DM) (s : ByteArray) (n : Int) (h : GoodL m.files) : GoodL (truncM m s n).2.files ∧ totM (truncM m s n).2.files ≤ totM m.files := by
  have hgf := goes_files (m := m)
  have h' : GoodL (goesM m).2.files := by rw [hgf]; exact h
  unfold truncM opM
  split
  · exact ⟨h, by simp⟩
  split
  · exact ⟨h', by rw [hgf]; simp⟩
  dsimp only
  split
  · exact ⟨h', by rw [hgf]; simp⟩
  split
  · exact ⟨h', by rw [hgf]; simp⟩
  · exact ⟨h'.modify _ _ (fun _ => rfl) fun f hf => by simp; omega, by have := modify_tot (fun f => { f with data := f.data.take n.toNat, safe := min f.safe n.toNat }) 0 (fun f => by simp; omega) (goesM m).2.files (placeF (goesM m).2.files s); rw [hgf] at this ⊢; exact Nat.le_trans this (by omega)⟩
theorem arm_files (m : DM) (n : Int) (h : GoodL m.files) : GoodL (armM m n).files ∧ totM (armM m n).files ≤ totM m.files := by
  unfold armM
  split
  · exact ⟨h, by simp⟩
  · exact ⟨h, by simp⟩
theorem trim_files (m : DM) (s : ByteArray) (t : Bool) (a b : Nat) (h : GoodL m.files) : GoodL (trimN m s t a b).2.files ∧ totM (trimN m s t a b).2.files ≤ totM m.files := by
  unfold trimN
  split
  · split
    · obtain ⟨q1, q2⟩ := trunc_files m s (b : Int) h
      split
      · obtain ⟨r1, r2⟩ := sync_files (truncM m s (b : Int)).2 s q1
        exact ⟨r1, Nat.le_trans r2 q2⟩
      · exact ⟨q1, q2⟩
    · exact sync_files m s h
  · exact ⟨h, by simp⟩
theorem open_files (m : DM) (h : GoodL m.files) : GoodL (openN m).2.1.files ∧ totM (openN m).2.1.files ≤ totM m.files := by
  unfold openN
  split
  · exact ⟨h, by simp⟩
  split
  · exact ⟨h, by simp⟩
  · obtain ⟨q1, q2⟩ := trim_files m sMarks (readN m sMarks).2.1 (readN m sMarks).1.length (marked (readN m sMarks).1) h
    split
    · dsimp only
      rename_i rs _ _
      obtain ⟨r1, r2⟩ := trim_files _ sLog (readN m sLog).2.1 (readN m sLog).1.length (usedN rs) q1
      split
      · exact ⟨r1, Nat.le_trans r2 q2⟩
      · exact ⟨r1, Nat.le_trans r2 q2⟩
    · exact ⟨q1, q2⟩
theorem entryN_length (r : List UInt8) : (entryN r).length = 8 + r.length := by unfold entryN; rw [List.length_append, be_length]
/-- what a step adds at most -/
def addS (r : List UInt8) (k : Nat) : Nat := if k = 0 then 8 + r.length else if k = 2 then 1 else 0
theorem putS_files (r : List UInt8) (k : Nat) (m : DM) (h : GoodL m.files) : GoodL (putS r k m).2.files ∧ totM (putS r k m).2.files ≤ totM m.files + addS r k := by
  unfold putS addS
  split
  · have := append_files m sLog (entryN r) h
    rw [entryN_length] at this
    exact this
  split
  · obtain ⟨q1, q2⟩ := sync_files m sLog h
    rename_i h1
    subst h1
    exact ⟨q1, by simpa using q2⟩
  split
  · exact append_files m sMarks [1] h
  · obtain ⟨q1, q2⟩ := sync_files m sMarks h
    exact ⟨q1, by simpa using q2⟩
theorem putF_files (r : List UInt8) : ∀ (n k : Nat) (m : DM), GoodL m.files → GoodL (putF r n k m).2.files ∧ totM (putF r n k m).2.files ≤ totM m.files + ((List.range n).map fun i => addS r (k + i)).sum := by
  intro n
  induction n with
  | zero => intro k m h; exact ⟨h, by simp [putF]⟩
  | succ n ih =>
    intro k m h
    obtain ⟨q1, q2⟩ := putS_files r k m h
    have e : ((List.range (n + 1)).map fun i => addS r (k + i)).sum = addS r k + ((List.range n).map fun i => addS r (k + 1 + i)).sum := by
      rw [List.range_succ_eq_map, List.map_cons, List.sum_cons, List.map_map]
      congr 2
      apply List.map_congr_left
      intro i _
      simp only [Function.comp]
      congr 1
      omega
    unfold putF
    split
    · obtain ⟨r1, r2⟩ := ih (k + 1) _ q1
      exact ⟨r1, by rw [e]; omega⟩
    · exact ⟨q1, by rw [e]; omega⟩
theorem put_files (r : List UInt8) (m : DM) (h : GoodL m.files) : GoodL (putE r m).2.files ∧ totM (putE r m).2.files ≤ totM m.files + (9 + r.length) := by
  have := putF_files r 4 0 m h
  have e : ((List.range 4).map fun i => addS r (0 + i)).sum = 9 + r.length := by simp [List.range_succ, addS]; omega
  rw [e] at this
  exact this
theorem putE_eq (r : List UInt8) (m : DM) : putE r m =
    if (appendM m sLog (entryN r)).1 = 0 then
      if (syncM (appendM m sLog (entryN r)).2 sLog).1 = 0 then
        if (appendM (syncM (appendM m sLog (entryN r)).2 sLog).2 sMarks [1]).1 = 0 then syncM (appendM (syncM (appendM m sLog (entryN r)).2 sLog).2 sMarks [1]).2 sMarks
        else appendM (syncM (appendM m sLog (entryN r)).2 sLog).2 sMarks [1]
      else syncM (appendM m sLog (entryN r)).2 sLog
    else appendM m sLog (entryN r) := by
  have e0 : ∀ m, putS r 0 m = appendM m sLog (entryN r) := fun _ => rfl
  have e1 : ∀ m, putS r 1 m = syncM m sLog := fun _ => rfl
  have e2 : ∀ m, putS r 2 m = appendM m sMarks [1] := fun _ => rfl
  have e3 : ∀ m, putS r 3 m = syncM m sMarks := fun _ => rfl
  have e4 : ∀ p : Int × DM, (if p.1 = 0 then ((0 : Int), p.2) else p) = p := fun p => by
    split
    · rename_i h; rw [← h]
    · rfl
  simp only [putE, putF, Nat.zero_add, Nat.reduceAdd, e0, e1, e2, e3, e4]
end Go.Proofs.Ytbbpkenbeenocaa
