
/- What was put is taken again: plain lists. -/
import Derived.Test.YtpcoonnfaoakhaaEncB1
import Derived.Test.YtpcoonnfaoakhaaBeLt
import Derived.Test.YtpcoonnfaoakhaaBase0
import Derived.Test.YtpcoonnfaoakhaaWireR0
import Derived.Test.YtpcoonnfaoakhaaOps
namespace Go.Proofs.Ytpcoonnfaoakhaa
set_option maxRecDepth 100000

def enc1 (x : OpD) : List UInt8 :=
  if x.kind = 1 then be x.num.toNat 8 else if x.kind = 2 ∨ x.kind = 3 then encB x.bytes else if x.kind = 4 then [fb x.yes] else []
def encs (ops : List OpD) : List UInt8 := (ops.map enc1).flatten

theorem encs_cons (x : OpD) (l : List OpD) : encs (x :: l) = enc1 x ++ encs l := by simp [encs]
theorem encs_take (ops : List OpD) (k : Nat) (h : k < ops.length) : encs (ops.take (k + 1)) = encs (ops.take k) ++ enc1 ops[k] := by
  rw [List.take_succ_eq_append_getElem h]
  unfold encs
  rw [List.map_append, List.flatten_append]
  simp only [List.map_cons, List.map_nil, List.flatten_cons, List.flatten_nil, List.append_nil]
theorem enc1_len (x : OpD) : (enc1 x).length ≤ x.bytes.length + 8 := by
  unfold enc1 encB
  split
  · simp [be_length]
  · split
    · simp only [List.length_append, be_length, List.length_take]; omega
    · split <;> simp

theorem encs_len (ops : List OpD) : (encs ops).length ≤ 8 * opsSize ops := by
  induction ops with
  | nil => simp [encs]
  | cons x l ih =>
    have h1 := enc1_len x
    rw [encs_cons, List.length_append]
    simp only [opsSize, List.map_cons, List.sum_cons] at ih ⊢
    omega
theorem opsSize_take (ops : List OpD) (k : Nat) : opsSize (ops.take k) ≤ opsSize ops := by
  have h : opsSize ops = opsSize (ops.take k) + opsSize (ops.drop k) := by
    unfold opsSize
    rw [← List.sum_append, ← List.map_append, List.take_append_drop]
  omega

theorem rF_enc (yes : Bool) (rest : List UInt8) : rF ([fb yes] ++ rest) 0 = (yes, rest, 0) := by
  cases yes <;> simp [rF, fb]
end Go.Proofs.Ytpcoonnfaoakhaa
