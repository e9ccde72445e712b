
/- A region in which three rows of 32 bytes and a struct are made, in whatever order: what holds behind it. -/
import Derived.Test.YtmphegeiclgjbaaGreatDoorHeldBy
import Derived.Test.YtmphegeiclgjbaaGreatDoorEncB1
namespace Go.Proofs.YtmphegeiclgjbaaGreatDoor
set_option maxRecDepth 100000
open Go Go.RowKit
set_option linter.unusedVariables false

theorem make32X (W : World) : (Instr.makeSlice 32 (.int .i64 32) (.int .i64 32)).run Tryz.prog W = .ok (.slice (some ⟨W.heap.size, 0, none⟩) 32 32) (W.alloc (.cells (bcells (List.replicate 32 0)).toArray 5)) := by
  obtain ⟨i0, hi, hz, hsz, hby⟩ := info_parts Tryz.infoByte
  have h := run_make W 32 5 i0 (.int .u8 0) Tryz.underlying32 hi hz .i64 .i64 32 32 (by omega) (by omega) (by rw [hby]; omega) (by omega)
  rw [hsz] at h
  have e : madeCells (Value.int .u8 0).cells (Int.toNat 32 * 1) = (bcells (List.replicate 32 0)).toArray := by
    rw [show Int.toNat 32 * 1 = 32 from rfl]
    apply Array.ext'
    rw [show (Value.int IntKind.u8 0).cells = #[Value.int .u8 0] from rfl, toList_madeCells_one]
    rfl
  rw [e] at h
  exact h
/-- the midst of a region, shown once, whatever the order ahead of it -/
theorem wpAnyH_mid {P : Program} {md : Region.Mode} {ops : Array Oper} {Q : Exit → Act → World → Prop} {S : World → Prop} {fuel : Nat} {L : Array Bool} {a : Act} {w : World} (fuel' : Nat) (L' : Array Bool) (R : Act → World → Act → World → Prop)
    (hR : ∀ a' w', R a w a' w' → wpAnyH P md ops Q S fuel' L' a' w') (h : (∀ a' w', R a w a' w' → wpAnyH P md ops Q S fuel' L' a' w') → wpAnyH P md ops Q S fuel L a w) : wpAnyH P md ops Q S fuel L a w := h hR
theorem wpAnyH_listed {P : Program} {md : Region.Mode} {ops : Array Oper} {Q : Exit → Act → World → Prop} {S : World → Prop} {fuel : Nat} {L L' : Array Bool} {a : Act} {w : World} (hL : L = L') (h : wpAnyH P md ops Q S fuel L' a w) : wpAnyH P md ops Q S fuel L a w := by
  subst hL
  exact h
/-- 32 zero bytes in a block of their own -/
def Zr (W : World) (g : Nat) : Prop := W.heap[g]? = some (.cells (bcells (List.replicate 32 0)).toArray 5 (0, 0))
/-- a struct of six cells in a block of its own -/
def Sx (t : TypeId) (cs : Array Value) (W : World) (g : Nat) : Prop := W.heap[g]? = some (.cells cs t (0, 0))
section
variable {W W' : World} {g g' : Nat} {t : TypeId} {cs : Array Value}
theorem Zr.alloc (h : Zr W g) (o : Obj) : Zr (W.alloc o) g := (Below.heap_alloc W o g (blk_lt h)).trans h
theorem Sx.alloc (h : Sx t cs W g) (o : Obj) : Sx t cs (W.alloc o) g := (Below.heap_alloc W o g (blk_lt h)).trans h
theorem Zr.below (h : Zr W g) (hb : Below W.heap.size W W') : Zr W' g := (hb.block _ (blk_lt h)).trans h
theorem Zr.new (W : World) : Zr (W.alloc (.cells (bcells (List.replicate 32 0)).toArray 5)) W.heap.size := heap_alloc_new W _
theorem Zr.ne (h : Zr W g) (k : Sx t cs W g') (hc : cs.size = 6) : g ≠ g' := fun e => by
  subst e
  unfold Zr at h
  unfold Sx at k
  rw [h] at k
  injection k with k
  injection k with k
  rw [← k] at hc
  simp [bcells] at hc
theorem Zr.set (h : Zr W g) (hne : g ≠ g') (i : Nat) (u : Value) : Zr (W.setCell ⟨g', i, none⟩ u) g := (Below.heap_setCell W ⟨g', i, none⟩ u g hne).trans h
theorem Zr.set6 (h : Zr W g) (hne : g ≠ g') (y0 y1 y2 y3 y4 y5 : Value) : Zr ((((((W.setCell ⟨g', 0, none⟩ y0).setCell ⟨g', 1, none⟩ y1).setCell ⟨g', 2, none⟩ y2).setCell ⟨g', 3, none⟩ y3).setCell ⟨g', 4, none⟩ y4).setCell ⟨g', 5, none⟩ y5) g :=
  (((((h.set hne 0 y0).set hne 1 y1).set hne 2 y2).set hne 3 y3).set hne 4 y4).set hne 5 y5
theorem Zr.rd (h : Zr W g) : Rd W W.heap.size (.slice (some ⟨g, 0, none⟩) 32 32) (List.replicate 32 0) := by
  refine ⟨some ⟨g, 0, none⟩, 32, by simp, by simp, by simp [maxLen], fun _ => ⟨g, 0, rfl, blk_lt h, fun j hj => ?_⟩⟩
  rw [Nat.zero_add, blk_cell h, List.getElem?_toArray, bcells_get, List.getElem?_eq_getElem hj]
  rfl
end
end Go.Proofs.YtmphegeiclgjbaaGreatDoor
