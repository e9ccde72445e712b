
/- The walks of a packet being parsed and put in bytes. -/
import Derived.Test.YtlkkjnacolmmpabDoorEncB1
import Derived.Test.YtlkkjnacolmmpabDoorWireW0
import Derived.Test.YtlkkjnacolmmpabDoorWireDoc0
import Derived.Test.YtlkkjnacolmmpabDoorPktH
namespace Go.Proofs.YtlkkjnacolmmpabDoor
set_option maxRecDepth 100000
open Go Go.RowKit
set_option linter.unusedVariables false

structure PktV where
  src : ByteArray
  dst : ByteArray
  seq : Nat
  data : List UInt8
  ht : Nat
  tm : Nat
def PktV.none : PktV := ⟨⟨#[]⟩, ⟨#[]⟩, 0, [], 0, 0⟩
def PktV.val (p : PktV) (vd : Value) : Value := .agg #[.string p.src, .string p.dst, .int .u64 (p.seq : Int), vd, .int .u64 (p.ht : Int), .int .u64 (p.tm : Int)]
def readP (l : List UInt8) : Option PktV :=
  match rB l 0 with
  | (sa, l1, f1) => match rB l1 f1 with
    | (sb, l2, f2) => match rN l2 f2 with
      | (sq, l3, f3) => match rB l3 f3 with
        | (dt, l4, f4) => match rN l4 f4 with
          | (ht, l5, f5) => match rN l5 f5 with
            | (tm, l6, f6) => if rEnd l6 f6 = 0 then some ⟨⟨sa.toArray⟩, ⟨sb.toArray⟩, sq, dt, ht, tm⟩ else Option.none
theorem rN_ltP (l : List UInt8) (f : Int) : (rN l f).1 < 18446744073709551616 := by
  unfold rN
  split
  · show 0 < _; omega
  · split
    · show 0 < _; omega
    · have := beVal_lt8 (l.take 8) 8 (by simp; omega)
      show beVal (l.take 8) < _
      omega
end Go.Proofs.YtlkkjnacolmmpabDoor
