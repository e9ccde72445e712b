/- Texts among texts: plain mathematics. -/
import Derived.Test.YtapfjkbbgamkoaaDoorValA
namespace Go.Proofs.YtapfjkbbgamkoaaDoor
open Go Go.RowKit

theorem mem_behind (a b : List ByteArray) (k : List UInt8) (h : k ∈ keysOf a) : k ∈ keysOf (b ++ a) := by
  simp only [keysOf, List.map_append, List.mem_append] at h ⊢
  exact .inr h
theorem mem_snoc (C : List ByteArray) (s : ByteArray) (k : List UInt8) (h : k ∈ keysOf C ∨ k = s.data.toList) : k ∈ keysOf (C ++ [s]) := by
  simp only [keysOf, List.map_append, List.mem_append, List.map_cons, List.map_nil, List.mem_cons, List.not_mem_nil, or_false] at h ⊢
  exact h
theorem mem_take {a : List ByteArray} {i : Nat} (hi : i < a.length) {k : List UInt8} (h : k ∈ keysOf (a.take (i + 1))) : k ∈ keysOf (a.take i) ∨ k = a[i].data.toList := by
  rw [List.take_succ_eq_append_getElem hi] at h
  simpa only [keysOf, List.map_append, List.mem_append, List.map_cons, List.map_nil, List.mem_cons, List.not_mem_nil, or_false] using h
theorem str_eq {s t : ByteArray} (h : s.data.toList = t.data.toList) : (s.toList == t.toList) = true := by rw [Lib.toList_data, Lib.toList_data, h]; simp
theorem str_ne {s t : ByteArray} (h : ¬ s.data.toList = t.data.toList) : (s.toList == t.toList) = false := by rw [Lib.toList_data, Lib.toList_data]; simpa using h
/-- is the text among the first j? -/
def badB (f : List ByteArray) (s : ByteArray) (j : Nat) : Bool := (keysOf (f.take j)).contains s.data.toList
theorem badB_zero (f : List ByteArray) (s : ByteArray) : badB f s 0 = false := by simp [badB, keysOf]
theorem badB_more {f : List ByteArray} {s : ByteArray} {j : Nat} (hj : j < f.length) (h : badB f s j = true) : badB f s (j + 1) = true := by
  unfold badB at h ⊢
  rw [List.contains_iff_mem] at h ⊢
  rw [List.take_succ_eq_append_getElem hj]
  simp only [keysOf, List.map_append, List.mem_append] at h ⊢
  exact .inl h
theorem badB_hit {f : List ByteArray} {s : ByteArray} {j : Nat} (hj : j < f.length) (h : s.data.toList = f[j].data.toList) : badB f s (j + 1) = true := by
  unfold badB
  rw [List.contains_iff_mem, List.take_succ_eq_append_getElem hj, h]
  simp only [keysOf, List.map_append, List.mem_append, List.map_cons, List.map_nil, List.mem_cons, List.not_mem_nil, or_false, or_true]
theorem badB_miss {f : List ByteArray} {s : ByteArray} {j : Nat} (hj : j < f.length) (h0 : badB f s j = false) (h : ¬ s.data.toList = f[j].data.toList) : badB f s (j + 1) = false := by
  rw [Bool.eq_false_iff]
  intro h1
  unfold badB at h1
  rw [List.contains_iff_mem] at h1
  rcases mem_take hj h1 with h1 | h1
  · have : badB f s j = true := by unfold badB; rw [List.contains_iff_mem]; exact h1
    rw [h0] at this; cases this
  · exact h h1
theorem badB_all {f : List ByteArray} {s : ByteArray} (h : badB f s f.length = true) : s.data.toList ∈ keysOf f := by
  unfold badB at h
  rwa [List.contains_iff_mem, List.take_length] at h
theorem badB_upto {f : List ByteArray} {s : ByteArray} {i j : Nat} (h1 : i ≤ j) (h2 : j ≤ f.length) (h : badB f s i = true) : badB f s j = true := by
  induction j with
  | zero => obtain rfl : i = 0 := by omega
            exact h
  | succ j ih =>
    by_cases e : i = j + 1
    · subst e; exact h
    · exact badB_more (by omega) (ih (by omega) (by omega))
end Go.Proofs.YtapfjkbbgamkoaaDoor
