
/- Scripts of the bank: rows of calls, read. -/
import Derived.Test.YtgiciaeaibonbaaGreatDoorLimbA0
namespace Go.Proofs.YtgiciaeaibonbaaGreatDoor
set_option maxRecDepth 100000
open Go Go.RowKit
set_option linter.unusedVariables false

/-- one call of a script -/
structure BOp where
  kd : Int
  a : ByteArray
  c : ByteArray
  d : ByteArray
  x : U4
def BOp.cells (o : BOp) : List Value := [.int .i64 o.kd, .string o.a, .string o.c, .string o.d, .int .u64 (o.x.a : Int), .int .u64 (o.x.b : Int), .int .u64 (o.x.c : Int), .int .u64 (o.x.d : Int)]
def BOp.fine (o : BOp) : Prop := o.x.ok ∧ o.a.size ≤ 100000000 ∧ o.c.size ≤ 100000000 ∧ o.d.size ≤ 100000000
/-- a row of calls, read -/
def RdB (w : World) (B : Nat) (v : Value) (ops : List BOp) : Prop :=
  ∃ A c, v = .slice A ops.length c ∧ ops.length ≤ c ∧ c ≤ maxLen ∧ (0 < ops.length → ∃ b o, A = some ⟨b, o, none⟩ ∧ b < B ∧ ∀ j (h : j < ops.length), ∀ i, i < 8 → w.cell? ⟨b, o + j * 8 + i, none⟩ = (ops[j]).cells[i]?)
end Go.Proofs.YtgiciaeaibonbaaGreatDoor
