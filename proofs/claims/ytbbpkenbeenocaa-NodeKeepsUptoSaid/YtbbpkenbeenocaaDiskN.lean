
/- What is kept of a file: the safe bytes ahead, all where all are kept. Mathematics alone. -/
import Derived.Test.YtbbpkenbeenocaaDiskM
namespace Go.Proofs.Ytbbpkenbeenocaa
set_option maxRecDepth 100000

theorem remFold_pre (l : List (UInt8 × Bool)) : ∀ st : List UInt8 × Nat, st.1 <+: (l.foldl remStep st).1 := by
  induction l with
  | nil => intro st; exact List.prefix_refl _
  | cons x l ih =>
    intro st
    refine List.IsPrefix.trans ?_ (ih (remStep st x))
    unfold remStep
    split
    · rw [List.append_assoc]; exact List.prefix_append _ _
    · exact List.prefix_refl _
theorem remM_pre (f : FM) (keep : List Bool) (h : f.safe ≤ f.data.length) : (remM f keep).take f.safe = f.data.take f.safe ∧ f.safe ≤ (remM f keep).length := by
  have hp := remFold_pre ((f.data.drop f.safe).zip keep) (f.data.take f.safe, 0)
  obtain ⟨t, ht⟩ := hp
  have e : remM f keep = f.data.take f.safe ++ t := ht.symm
  have hl : (f.data.take f.safe).length = f.safe := by simp; omega
  rw [e]
  exact ⟨by rw [List.take_append_of_le_length (by omega), List.take_of_length_le (by omega)], by rw [List.length_append]; omega⟩
theorem remFold_all (l : List UInt8) : ∀ out : List UInt8, (l.zip (List.replicate l.length true)).foldl remStep (out, 0) = (out ++ l, 0) := by
  induction l with
  | nil => intro out; simp
  | cons x l ih =>
    intro out
    simp only [List.length_cons, List.replicate_succ, List.zip_cons_cons, List.foldl_cons]
    have e : remStep (out, 0) (x, true) = (out ++ [x], 0) := by simp [remStep]
    rw [e, ih]
    simp
theorem remM_all (f : FM) (n : Nat) (hn : n = f.data.length - f.safe) : remM f (List.replicate n true) = f.data := by
  have hl : (f.data.drop f.safe).length = n := by simp; omega
  unfold remM remS
  rw [← hl, remFold_all]
  simp
end Go.Proofs.Ytbbpkenbeenocaa
