
/- Guards: each fits the walk's goal at one kind of operation alone; a law is then tried there and nowhere else. -/
import Derived.Test.YtohnhdandkkonaaDoorBase
import Derived.Deep.MidRow
import Derived.StillTailTactics
import Derived.OwnWalk
namespace Go
variable {P : Program} {ops : Array Oper} {Q : Exit → Act → World → Prop} {rest : List Oper} {a : Act} {w : World} {d : Option Tmp} {tr : TypeId} {pos : String}

theorem at_store (ty : TypeId) {x y : Operand} {af} (h : wpList P ops Q (⟨d, .store ty x y, tr, pos, af, none⟩ :: rest) a w) : wpList P ops Q (⟨d, .store ty x y, tr, pos, af, none⟩ :: rest) a w := h
theorem at_load (ty : TypeId) {x : Operand} {af} (h : wpList P ops Q (⟨d, .load ty x, tr, pos, af, none⟩ :: rest) a w) : wpList P ops Q (⟨d, .load ty x, tr, pos, af, none⟩ :: rest) a w := h
theorem at_build (ty : TypeId) {x} {af} (h : wpList P ops Q (⟨d, .build ty x, tr, pos, af, none⟩ :: rest) a w) : wpList P ops Q (⟨d, .build ty x, tr, pos, af, none⟩ :: rest) a w := h
theorem at_copy {x y} {af} (h : wpList P ops Q (⟨d, .call { callee := .builtin .copy, args := x, argTypes := y }, tr, pos, af, none⟩ :: rest) a w) : wpList P ops Q (⟨d, .call { callee := .builtin .copy, args := x, argTypes := y }, tr, pos, af, none⟩ :: rest) a w := h
end Go
