
/- The walks of package limb: Add. The walks of package limb: Sub. Arrays of four numbers, compared as wholes. The walks of package limb: Of, Zero, Cmp. -/
import Derived.Test.YtmphegeiclgjbaaGreatDoorInfo1
import Derived.Test.YtmphegeiclgjbaaGreatDoorLimbS0
import Derived.Test.YtmphegeiclgjbaaGreatDoorBase0
import Derived.Deep.RegionHeldLaw
import Derived.Shelf.Spec.BitsCarry
import Derived.Stop.BytesEq
namespace Go.Proofs.YtmphegeiclgjbaaGreatDoor
set_option maxRecDepth 100000
open Go.RowKit

def U4.cells (x : U4) : Array Value := #[.int .u64 (x.a : Int), .int .u64 (x.b : Int), .int .u64 (x.c : Int), .int .u64 (x.d : Int)]
def U4.val (x : U4) : Value := .agg x.cells

def LBlk (w : World) (g : Nat) (cs : Array Value) : Prop := w.heap[g]? = some (.cells cs 31 (0, 0))

/-- the number at a place -/
def U4.at (x : U4) : Nat → Nat
  | 0 => x.a
  | 1 => x.b
  | 2 => x.c
  | _ => x.d
theorem LBlk.cell {w : World} {g : Nat} {cs : Array Value} (h : LBlk w g cs) (i : Nat) : w.cell? ⟨g, i, none⟩ = cs[i]? := blk_cell h i
theorem LBlk.free {w : World} {g : Nat} {cs : Array Value} (h : LBlk w g cs) (i : Nat) : w.frozen? ⟨g, i, none⟩ = false := blk_free h i
theorem LBlk.new (w : World) (cs : Array Value) : LBlk (w.alloc (.cells cs 31)) w.heap.size cs := heap_alloc_new w _
theorem LBlk.lt {w : World} {g : Nat} {cs : Array Value} (h : LBlk w g cs) : g < w.heap.size := blk_lt h
theorem LBlk.alloc {w : World} {g : Nat} {cs : Array Value} (h : LBlk w g cs) (o : Obj) : LBlk (w.alloc o) g cs := (Below.heap_alloc w o g h.lt).trans h
theorem LBlk.drew {w : World} {g : Nat} {cs : Array Value} (h : LBlk w g cs) : LBlk w.drew g cs := h
theorem LBlk.far {w : World} {g g' : Nat} {cs : Array Value} (h : LBlk w g cs) (hne : g ≠ g') (i : Nat) (u : Value) : LBlk (w.setCell ⟨g', i, none⟩ u) g cs := (Below.heap_setCell w ⟨g', i, none⟩ u g hne).trans h
theorem LBlk.below {w w' : World} {g B : Nat} {cs : Array Value} (h : LBlk w g cs) (hb : Below B w w') (hg : g < B) : LBlk w' g cs := (hb.block g hg).trans h
theorem four (w : World) (X Y Z S : Array Value) : LBlk ((((w.alloc (.cells X 31)).alloc (.cells Y 31)).alloc (.cells Z 31)).alloc (.cells S 31)) w.heap.size X ∧
    LBlk ((((w.alloc (.cells X 31)).alloc (.cells Y 31)).alloc (.cells Z 31)).alloc (.cells S 31)) (w.heap.size + 1) Y ∧
    LBlk ((((w.alloc (.cells X 31)).alloc (.cells Y 31)).alloc (.cells Z 31)).alloc (.cells S 31)) (w.heap.size + 1 + 1) Z ∧
    LBlk ((((w.alloc (.cells X 31)).alloc (.cells Y 31)).alloc (.cells Z 31)).alloc (.cells S 31)) (w.heap.size + 1 + 1 + 1) S ∧
    Below w.heap.size w ((((w.alloc (.cells X 31)).alloc (.cells Y 31)).alloc (.cells Z 31)).alloc (.cells S 31)) := by
  refine ⟨(((LBlk.new w X).alloc _).alloc _).alloc _, ?_, ?_, ?_, ((((Below.refl _ _).alloc (Nat.le_refl _) _).alloc (by simp) _).alloc (by simp; omega) _).alloc (by simp; omega) _⟩
  · have := ((LBlk.new (w.alloc (.cells X 31)) Y).alloc (.cells Z 31)).alloc (.cells S 31)
    simpa using this
  · have := (LBlk.new ((w.alloc (.cells X 31)).alloc (.cells Y 31)) Z).alloc (.cells S 31)
    simpa using this
  · have := LBlk.new (((w.alloc (.cells X 31)).alloc (.cells Y 31)).alloc (.cells Z 31)) S
    simpa using this
/-- all four cells of a block -/
theorem LBlk.all {w : World} {g : Nat} {s : U4} (h : LBlk w g s.cells) : w.cell? ⟨g, 0, none⟩ = some (.int .u64 (s.a : Int)) ∧ w.cell? ⟨g, 1, none⟩ = some (.int .u64 (s.b : Int)) ∧ w.cell? ⟨g, 2, none⟩ = some (.int .u64 (s.c : Int)) ∧ w.cell? ⟨g, 3, none⟩ = some (.int .u64 (s.d : Int)) :=
  ⟨h.cell 0, h.cell 1, h.cell 2, h.cell 3⟩

end Go.Proofs.YtmphegeiclgjbaaGreatDoor
namespace Go.Proofs.YtmphegeiclgjbaaGreatDoor
set_option maxRecDepth 100000
open Go.RowKit

end Go.Proofs.YtmphegeiclgjbaaGreatDoor
namespace Go.Proofs.YtmphegeiclgjbaaGreatDoor
set_option maxRecDepth 100000
open Go Go.RowKit

/-- are they the same? -/
def eqB (x y : U4) : Bool := decide (x.a = y.a) && (decide (x.b = y.b) && (decide (x.c = y.c) && decide (x.d = y.d)))
end Go.Proofs.YtmphegeiclgjbaaGreatDoor
namespace Go.Proofs.YtmphegeiclgjbaaGreatDoor
set_option maxRecDepth 100000
open Go Go.RowKit

/-- what Cmp answers -/
def cmpN (m n : Nat) : Int := if m = n then 0 else if n < m then 1 else -1

end Go.Proofs.YtmphegeiclgjbaaGreatDoor
