
/- The model of a node: what a disk holds, opened; a record put. Mathematics alone. -/
import Derived.Test.YtbbpkenbeenocaaDiskD
import Derived.Test.YtbbpkenbeenocaaWireR
namespace Go.Proofs.Ytbbpkenbeenocaa
set_option maxRecDepth 100000
open Go Go.RowKit
set_option linter.unusedVariables false

def sLog : ByteArray := ⟨#[108, 111, 103]⟩
def sMarks : ByteArray := ⟨#[109, 97, 114, 107, 115]⟩
/-- a file's bytes, whether it is there, the error -/
def readN (m : DM) (s : ByteArray) : List UInt8 × Bool × Int :=
  if m.off = true then ([], false, 51) else match m.files[placeF m.files s]? with
  | none => ([], false, 0)
  | some f => (f.data, true, 0)
/-- so many records are marked -/
def marked : List UInt8 → Nat
  | [] => 0
  | x :: l => if x = 1 then marked l + 1 else 0
theorem marked_le : ∀ l : List UInt8, marked l ≤ l.length := by
  intro l
  induction l with
  | nil => simp [marked]
  | cons x l ih => unfold marked; split <;> simp <;> omega
theorem marked_step (l : List UInt8) : ∀ k : Nat, k ≤ marked l → (k < marked l ↔ ∃ h : k < l.length, l[k] = 1) := by
  induction l with
  | nil => intro k hk; simp [marked]
  | cons x l ih =>
    intro k hk
    unfold marked at hk ⊢
    split at hk
    · rename_i hx
      rw [if_pos hx]
      cases k with
      | zero => simp [hx]
      | succ k =>
        have := ih k (by omega)
        simp only [List.length_cons, List.getElem_cons_succ]
        rw [Nat.add_lt_add_iff_right, this]
        constructor
        · rintro ⟨h, e⟩; exact ⟨by omega, e⟩
        · rintro ⟨h, e⟩; exact ⟨by omega, e⟩
    · rename_i hx
      rw [if_neg hx]
      obtain rfl : k = 0 := by omega
      simp [hx]
/-- the first n records of a log -/
def splitN : Nat → List UInt8 → Option (List (List UInt8))
  | 0, _ => some []
  | n + 1, l => if l.length < 8 ∨ l.length < 8 + beVal (l.take 8) then none else (splitN n (l.drop (8 + beVal (l.take 8)))).map (((l.drop 8).take (beVal (l.take 8))) :: ·)
/-- the bytes that records take -/
def usedN (rs : List (List UInt8)) : Nat := (rs.map fun r => 8 + r.length).sum
theorem usedN_append (rs : List (List UInt8)) (r : List UInt8) : usedN (rs ++ [r]) = usedN rs + (8 + r.length) := by simp [usedN]
theorem splitN_length : ∀ (n : Nat) (l : List UInt8) (rs : List (List UInt8)), splitN n l = some rs → rs.length = n ∧ usedN rs ≤ l.length := by
  intro n
  induction n with
  | zero => intro l rs h; simp only [splitN, Option.some.injEq] at h; subst h; simp [usedN]
  | succ n ih =>
    intro l rs h
    unfold splitN at h
    split at h
    · cases h
    · rename_i hc
      obtain ⟨q, hq, rfl⟩ := Option.map_eq_some_iff.1 h
      obtain ⟨h1, h2⟩ := ih _ _ hq
      rw [List.length_drop] at h2
      refine ⟨by simp [h1], ?_⟩
      simp only [usedN, List.map_cons, List.sum_cons, List.length_take, List.length_drop] at h2 ⊢
      omega
/-- where a walk over n records stands behind the first k -/
def SplitAt (n : Nat) (l : List UInt8) (k : Nat) (rs : List (List UInt8)) : Prop :=
  k ≤ n ∧ rs.length = k ∧ usedN rs ≤ l.length ∧ splitN n l = (splitN (n - k) (l.drop (usedN rs))).map (rs ++ ·)
theorem SplitAt.zero (n : Nat) (l : List UInt8) : SplitAt n l 0 [] := ⟨Nat.zero_le _, rfl, by simp [usedN], by simp [usedN]⟩
theorem SplitAt.done {n k : Nat} {l : List UInt8} {rs : List (List UInt8)} (h : SplitAt n l k rs) (hk : ¬ k < n) : splitN n l = some rs := by
  obtain ⟨h1, h2, h3, h4⟩ := h
  obtain rfl : k = n := by omega
  rw [h4]; simp [splitN]
theorem SplitAt.bad {n k : Nat} {l : List UInt8} {rs : List (List UInt8)} (h : SplitAt n l k rs) (hk : k < n) (hb : l.length - usedN rs < 8 ∨ l.length - usedN rs < 8 + beVal ((l.drop (usedN rs)).take 8)) : splitN n l = none := by
  obtain ⟨h1, h2, h3, h4⟩ := h
  obtain ⟨j, hj⟩ : ∃ j, n - k = j + 1 := ⟨n - k - 1, by omega⟩
  rw [h4, hj]
  unfold splitN
  rw [if_pos (by rw [List.length_drop]; exact hb)]
  rfl
theorem SplitAt.next {n k : Nat} {l : List UInt8} {rs : List (List UInt8)} (h : SplitAt n l k rs) (hk : k < n) {x : Nat} (hx : beVal ((l.drop (usedN rs)).take 8) = x) (hb : 8 + x ≤ l.length - usedN rs) :
    SplitAt n l (k + 1) (rs ++ [(l.drop (usedN rs + 8)).take x]) ∧ usedN (rs ++ [(l.drop (usedN rs + 8)).take x]) = usedN rs + (8 + x) := by
  obtain ⟨h1, h2, h3, h4⟩ := h
  obtain ⟨j, hj⟩ : ∃ j, n - k = j + 1 := ⟨n - k - 1, by omega⟩
  have hlen : ((l.drop (usedN rs + 8)).take x).length = x := by simp; omega
  have hu : usedN (rs ++ [(l.drop (usedN rs + 8)).take x]) = usedN rs + (8 + x) := by rw [usedN_append, hlen]
  refine ⟨⟨by omega, by simp [h2], by rw [hu]; omega, ?_⟩, hu⟩
  rw [h4, hj, hu, show n - (k + 1) = j by omega]
  conv => lhs; unfold splitN
  rw [if_neg (by rw [List.length_drop, hx]; omega), hx, List.drop_drop, List.drop_drop]
  cases splitN j (l.drop (usedN rs + (8 + x))) <;> simp

/-- a file has its first keep bytes alone, and they are safe -/
def trimN (m : DM) (s : ByteArray) (there : Bool) (size keep : Nat) : Int × DM :=
  if there = true then
    if keep < size then
      if (truncM m s (keep : Int)).1 = 0 then syncM (truncM m s (keep : Int)).2 s else truncM m s (keep : Int)
    else syncM m s
  else (0, m)
/-- a disk opened: the error, the disk, the records -/
def openN (m : DM) : Int × DM × List (List UInt8) :=
  if m.off = true then (51, m, []) else
  match splitN (marked (readN m sMarks).1) (readN m sLog).1 with
  | none => (52, m, [])
  | some rs =>
    if (trimN m sMarks (readN m sMarks).2.1 (readN m sMarks).1.length (marked (readN m sMarks).1)).1 = 0 then
      let m1 := (trimN m sMarks (readN m sMarks).2.1 (readN m sMarks).1.length (marked (readN m sMarks).1)).2
      if (trimN m1 sLog (readN m sLog).2.1 (readN m sLog).1.length (usedN rs)).1 = 0 then (0, (trimN m1 sLog (readN m sLog).2.1 (readN m sLog).1.length (usedN rs)).2, rs)
      else ((trimN m1 sLog (readN m sLog).2.1 (readN m sLog).1.length (usedN rs)).1, (trimN m1 sLog (readN m sLog).2.1 (readN m sLog).1.length (usedN rs)).2, [])
    else ((trimN m sMarks (readN m sMarks).2.1 (readN m sMarks).1.length (marked (readN m sMarks).1)).1, (trimN m sMarks (readN m sMarks).2.1 (readN m sMarks).1.length (marked (readN m sMarks).1)).2, [])
/-- a record as the log holds it -/
def entryN (r : List UInt8) : List UInt8 := be r.length 8 ++ r
/-- a step of Put -/
def putS (r : List UInt8) (k : Nat) (m : DM) : Int × DM :=
  if k = 0 then appendM m sLog (entryN r) else if k = 1 then syncM m sLog else if k = 2 then appendM m sMarks [1] else syncM m sMarks
/-- the steps of Put, so many -/
def putF (r : List UInt8) : Nat → Nat → DM → Int × DM
  | 0, _, m => (0, m)
  | n + 1, k, m => if (putS r k m).1 = 0 then putF r n (k + 1) (putS r k m).2 else putS r k m
/-- a record put: the error, the disk -/
def putE (r : List UInt8) (m : DM) : Int × DM := putF r 4 0 m
end Go.Proofs.Ytbbpkenbeenocaa
