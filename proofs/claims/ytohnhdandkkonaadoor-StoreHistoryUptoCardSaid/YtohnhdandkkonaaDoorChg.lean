
/- What another's turning leaves: a frame by sets of blocks. -/
import Derived.Test.YtohnhdandkkonaaDoorInfo
namespace Go.Proofs.YtohnhdandkkonaaDoor
set_option maxRecDepth 100000
open Go Go.RowKit
set_option linter.unusedVariables false

/-- nothing has turned but blocks that F names -/
structure Chg (w w' : World) (F : Nat → Prop) : Prop where
  os : w'.os = w.os
  tape : w'.tape = w.tape
  output : w'.output = w.output
  size : w.heap.size ≤ w'.heap.size
  block : ∀ k, k < w.heap.size → ¬ F k → w'.heap[k]? = w.heap[k]?
/-- F, and the blocks that came since -/
def Ext (F : Nat → Prop) (w w' : World) : Nat → Prop := fun k => F k ∨ (w.heap.size ≤ k ∧ k < w'.heap.size)

section
variable {w w' w1 w2 : World} {F G : Nat → Prop} {B : Nat}
theorem Chg.refl (w : World) (F : Nat → Prop) : Chg w w F := ⟨rfl, rfl, rfl, Nat.le_refl _, fun _ _ _ => rfl⟩
theorem Chg.mono (h : Chg w w' F) (hF : ∀ k, k < w.heap.size → F k → G k) : Chg w w' G := ⟨h.os, h.tape, h.output, h.size, fun k h1 h2 => h.block k h1 fun h3 => h2 (hF k h1 h3)⟩
theorem Chg.trans (h : Chg w w1 F) (k : Chg w1 w2 (Ext F w w1)) : Chg w w2 F :=
  ⟨k.os.trans h.os, k.tape.trans h.tape, k.output.trans h.output, Nat.le_trans h.size k.size, fun i hi hn => (k.block i (Nat.lt_of_lt_of_le hi h.size) (fun e => e.elim hn fun e => by omega)).trans (h.block i hi hn)⟩
theorem Chg.trans' (h : Chg w w1 F) (k : Chg w1 w2 F) : Chg w w2 F := h.trans (k.mono fun _ _ => Or.inl)
theorem Chg.of_below (h : Below w.heap.size w w') (F : Nat → Prop) : Chg w w' F := ⟨h.os, h.tape, h.output, h.size, fun k hk _ => h.block k hk⟩
theorem Chg.of_grown {row : Option Nat} (h : w.grownBy w' row) (hF : ∀ k, row = some k → F k) : Chg w w' F := ⟨h.os, h.tape, h.output, h.size, fun k hk hn => h.block k hk fun e => hn (hF k e.symm)⟩
theorem Chg.set (w : World) {p : Addr} (hF : F p.block) (u : Value) : Chg w (w.setCell p u) F :=
  ⟨rfl, rfl, rfl, by simp [World.setCell], fun k _ hn => Below.heap_setCell w p u k (by rintro rfl; exact hn hF)⟩
theorem Chg.drew (w : World) (F : Nat → Prop) : Chg w w.drew F := ⟨rfl, rfl, rfl, Nat.le_refl _, fun _ _ _ => rfl⟩
theorem Chg.alloc (w : World) (F : Nat → Prop) (o : Obj) : Chg w (w.alloc o) F := .of_below ((Below.refl _ _).alloc (Nat.le_refl _) _) F
theorem Chg.below (h : Chg w w' F) (hF : ∀ k, F k → B ≤ k) (hB : B ≤ w.heap.size) : Below B w w' := ⟨h.os, h.tape, h.output, h.size, fun k hk => h.block k (by omega) fun e => by have := hF k e; omega⟩
theorem Ext.here {k : Nat} (h : F k) : Ext F w w' k := .inl h
theorem Ext.lt (hF : ∀ k, F k → k < w.heap.size) (hs : w.heap.size ≤ w'.heap.size) : ∀ k, Ext F w w' k → k < w'.heap.size := fun k h => h.elim (fun h => by have := hF k h; omega) And.right
theorem Ext.ge (hF : ∀ k, F k → B ≤ k) (hB : B ≤ w.heap.size) : ∀ k, Ext F w w' k → B ≤ k := fun k h => h.elim (hF k) fun h => by omega
theorem cell_same {p : Addr} (h : w'.heap[p.block]? = w.heap[p.block]?) : w'.cell? p = w.cell? p := World.cell?_of_block h
end

end Go.Proofs.YtohnhdandkkonaaDoor
