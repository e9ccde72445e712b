
/- Literals that a call makes; a disk behind a call. -/
import Derived.Test.YtbbpkenbeenocaaDiskF
namespace Go.Proofs.Ytbbpkenbeenocaa
set_option maxRecDepth 100000
open Go Go.RowKit

theorem RdF.lit {w : World} {F : Nat → Prop} (hF : ∀ k, F k → k < w.heap.size) (cs : Array Value) (l : List UInt8) (n : Nat) (hn : n = l.length) (h : cs = (bcells l).toArray) (hm : n ≤ maxLen) :
    RdF (w.alloc (.cells cs 5)) F (.slice (some ⟨w.heap.size, 0, none⟩) n n) l := by
  refine ⟨(rd_lit w cs l n hn h hm).more (by simp), fun k _ hk hFk => ?_⟩
  simp only [Value.ownBlock, Option.some.injEq] at hk
  have := hF k hFk
  omega

variable {w w' : World} {F : Nat → Prop} {d : Nat} {m : DM} {B : Nat}
theorem DiskAt.al (h : DiskAt w F d m) (o : Obj) : DiskAt (w.alloc o) F d m := h.below ((Below.refl _ _).alloc (Nat.le_refl _) _)

theorem RdL.lit (w : World) (cs : Array Value) (l : List Bool) (n : Nat) (hn : n = l.length) (h : cs = (l.map Value.bool).toArray) (hm : n ≤ maxLen) : RdL (w.alloc (.cells cs 4)) (w.heap.size + 1) (.slice (some ⟨w.heap.size, 0, none⟩) n n) l := by
  subst hn; subst h
  refine ⟨_, _, rfl, Nat.le_refl _, hm, fun _ => ⟨w.heap.size, 0, rfl, by omega, fun j hj => ?_⟩⟩
  rw [blk_cell (heap_alloc_new w _)]
  simp [List.getElem?_eq_getElem hj]

/-- one call on a disk that lies in blocks from B on, W being the world at the call: where it lies then -/
theorem DiskAt.next {W w0 : World} (hF : ∀ k, F k → B ≤ k) (hb : Below B w0 W) (hB : B ≤ W.heap.size) (hc : Chg W w' F) : (∀ k, Ext F W w' k → B ≤ k) ∧ Below B w0 w' ∧ B ≤ w'.heap.size :=
  ⟨Ext.ge hF hB, hb.trans (hc.below hF hB), Nat.le_trans hB hc.size⟩
end Go.Proofs.Ytbbpkenbeenocaa
