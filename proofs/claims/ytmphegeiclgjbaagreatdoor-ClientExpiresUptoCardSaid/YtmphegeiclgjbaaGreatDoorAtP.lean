
/- A store over any pile, behind calls: its pairs and its root. -/
import Derived.Test.YtmphegeiclgjbaaGreatDoorCliM
import Derived.Test.YtmphegeiclgjbaaGreatDoorStoS3
import Derived.Test.YtmphegeiclgjbaaGreatDoorStoR
namespace Go.Proofs.YtmphegeiclgjbaaGreatDoor
set_option maxRecDepth 100000
open Go Go.RowKit
set_option linter.unusedVariables false

theorem RdP.keptP {w w' : World} {v : Value} {ps : List Pr} (h : RdP w w.heap.size v ps) (hk : Kept w w') : RdP w' w'.heap.size v ps := by
  have hsz : w.heap.size ≤ w'.heap.size := by obtain ⟨F, h1, _⟩ := hk; exact h1.size
  obtain ⟨A, c, hv, h1, h2, hp⟩ := h
  refine ⟨A, c, hv, h1, h2, fun h0 => ?_⟩
  obtain ⟨b, o, hA, hb, hcell⟩ := hp h0
  refine ⟨b, o, hA, by omega, fun j hj => ?_⟩
  obtain ⟨q1, x, q2, q3⟩ := hcell j hj
  exact ⟨hk.cell q1, x, hk.cell q2, hk.rd q3⟩
theorem Kept.blockP {w w' : World} (h : Kept w w') {b : Nat} {cs : Array Value} {t : TypeId} {fr : Nat × Nat} (hb : w.heap[b]? = some (.cells cs t fr)) : w'.heap[b]? = some (.cells cs t fr) := by
  obtain ⟨F, h1, h2⟩ := h
  have hn : ¬ F b := fun k => by
    obtain ⟨es, c, e⟩ := h2 _ k
    rw [hb] at e; cases e
  rw [h1.block b (blk_lt hb) hn]
  exact hb
section
variable {W W' : World} {y : Lyr} {l : List Lyr} {R : List Pr} {k : Nat}
theorem At.rise (h : At W y l R k W') : Rise R := by obtain ⟨n, f, h1, h2, h3, h4⟩ := h.b; exact h2.rise
theorem At.pairs (h : At W y l R k W') (hn : y.n + k + sumN l ≤ 1000000000) (pfx : ByteArray) (hp : pfx.size ≤ maxLen) :
    Calls Tryz.prog 29 #[.pointer (some ⟨y.b, 0, none⟩), .string pfx] W' fun e w' => ∃ v, e = .returned v ∧ OutP w' W'.heap.size v (R.filter (fun p => begB pfx p.1)) ∧ Below W'.heap.size W' w' := by
  obtain ⟨n, f, h1, h2, h3, h4⟩ := h.b
  have hs : SeenL pfx (⟨y.b, y.m, n, f⟩ :: l) (R.filter (fun p => begB pfx p.1)) := ⟨h2.rise.filter _, fun p hp => h2.small p (List.mem_filter.1 hp).1, fun s hs => by
    have := h2.get s hs
    rw [begB_empty, if_pos rfl] at this
    rw [getL_filter, this]⟩
  exact pairs_any h1 (by simp [sumN] at hn ⊢; omega) pfx hp hs
theorem At.root (h : At W y l R k W') (hn : y.n + k + sumN l ≤ 1000000000) (fr : TypeId × Nat × Nat) (hk : W'.heap[0]? = some (.cells kVals fr.1 fr.2)) :
    Calls Tryz.prog 21 #[.pointer (some ⟨y.b, 0, none⟩)] W' fun e w' => ∃ v, e = .returned v ∧ Own w' W'.heap.size v (rootM R).1 ∧ Below W'.heap.size W' w' := by
  obtain ⟨n, f, h1, h2, h3, h4⟩ := h.b
  exact sroot_any h1 (by simp [sumN] at hn ⊢; omega) h2 fr hk
end
/-- maps alone have turned: what floats in a region may be known of such worlds -/
def KepS (w Z : World) : Prop := Kept w Z
theorem KepS.refl (w : World) : KepS w w := Kept.refl w
/-! ### a cell of a struct of one's own is set: a store stays -/
section
variable {W w w' : World} {y : Lyr} {l : List Lyr} {R : List Pr} {k g : Nat} {cs : Array Value} {t : TypeId}
theorem grown_setCellB (w : World) (b o : Nat) (v : Value) : w.grownBy (w.setCell ⟨b, o, none⟩ v) (some b) :=
  ⟨rfl, rfl, rfl, ((Below.refl 0 w).setCell (p := ⟨b, o, none⟩) (Nat.zero_le _) v).size, fun i hi hne => Below.heap_setCell w ⟨b, o, none⟩ v i fun e => hne (by rw [e])⟩
theorem Rd.offB {B : Nat} {v : Value} {b : List UInt8} (h : Rd w B v b) (hg : w.grownBy w' (some g)) (hB : B ≤ w.heap.size) (hi : w.heap[g]? = some (.cells cs t (0, 0))) (hno : ∀ (j : Nat) (z : Int), cs[j]? ≠ some (.int .u8 z)) : Rd w' B v b := by
  obtain ⟨A, c, rfl, hc, hm, hp⟩ := h
  refine ⟨A, c, rfl, hc, hm, fun h0 => ?_⟩
  obtain ⟨b', o, rfl, hlt, hcell⟩ := hp h0
  refine ⟨b', o, rfl, hlt, fun j hj => ?_⟩
  have hc := hcell j hj
  have hne : some b' ≠ some g := by
    intro e
    injection e with e
    subst e
    rw [blk_cell hi] at hc
    exact hno _ _ hc
  rw [World.cell?_of_block (a := ⟨b', o + j, none⟩) (hg.block b' (by omega) hne)]
  exact hc
theorem LayS.offB {p : Value} (h : LayS w y p) (hg : w.grownBy w' (some g)) (hi : w.heap[g]? = some (.cells cs t (0, 0))) (hno : ∀ (j : Nat) (z : Int), cs[j]? ≠ some (.int .u8 z)) (h0 : cs[0]? ≠ some (.pointer (some ⟨g, 0, none⟩))) : LayS w' y p := by
  have hb : some y.b ≠ some g := fun e => by
    injection e with e
    subst e
    have := h.cells
    rw [hi] at this
    injection this with this
    injection this with this
    rw [this] at h0
    exact h0 rfl
  obtain ⟨gf, h1, h2⟩ := h.own
  have hm : ¬ y.m = g := fun e => by
    obtain ⟨es, c, e'⟩ := h1.isMap
    rw [e, hi] at e'; cases e'
  refine ⟨(hg.block _ h.lt.1 hb).trans h.cells, ⟨gf, h1.chg (F := fun k => k = g) (.of_grown hg fun k e => (Option.some.inj e).symm) hm, fun s hs => ?_⟩, h.ok⟩
  rcases h2 s hs with q | ⟨e, x, q1, q2, q3⟩
  · exact .inl q
  · refine .inr ⟨e, x, q1, q2, ?_⟩
    cases x with
    | none => exact q3
    | some l =>
      obtain ⟨sl, r1, r2⟩ := q3
      exact ⟨sl, r1, (r2.offB hg (Nat.le_refl _) hi hno).more hg.size⟩
theorem PileS.offB {l : List Lyr} (h : PileS w l) (hg : w.grownBy w' (some g)) (hi : w.heap[g]? = some (.cells cs t (0, 0))) (hno : ∀ (j : Nat) (z : Int), cs[j]? ≠ some (.int .u8 z)) (h0 : cs[0]? ≠ some (.pointer (some ⟨g, 0, none⟩))) : PileS w' l := by
  induction l with
  | nil => trivial
  | cons y l ih =>
    obtain ⟨h1, h2, h3⟩ := h
    exact ⟨h1.offB hg hi hno h0, h2, ih h3⟩
theorem At.size (h : At W y l R k w) : W.heap.size ≤ w.heap.size := by obtain ⟨n, f, h1, h2, h3, h4⟩ := h.b; exact h4.size
theorem At.offB (h : At W y l R k w) (hi : w.heap[g]? = some (.cells cs t (0, 0))) (hno : ∀ (j : Nat) (z : Int), cs[j]? ≠ some (.int .u8 z)) (h0 : cs[0]? ≠ some (.pointer (some ⟨g, 0, none⟩))) (hW : W.heap.size ≤ g) (o : Nat) (v : Value) : At W y l R k (w.setCell ⟨g, o, none⟩ v) := by
  obtain ⟨n, f, h1, h2, h3, h4⟩ := h.b
  have hg := grown_setCellB w g o v
  exact ⟨⟨n, f, h1.offB hg hi hno h0, h2, h3, ⟨h4.os, h4.tape, h4.output, Nat.le_trans h4.size hg.size, fun q hq hn => (Below.heap_setCell w ⟨g, o, none⟩ v q (fun e => by dsimp only at e; omega)).trans (h4.block q hq hn)⟩⟩, h.p⟩
theorem Kept.setNew (h : Kept W w) (hW : W.heap.size ≤ g) (o : Nat) (v : Value) : Kept W (w.setCell ⟨g, o, none⟩ v) := by
  obtain ⟨F, h4, h5⟩ := h
  exact ⟨F, ⟨h4.os, h4.tape, h4.output, Nat.le_trans h4.size (grown_setCellB w g o v).size, fun q hq hn => (Below.heap_setCell w ⟨g, o, none⟩ v q (fun e => by dsimp only at e; omega)).trans (h4.block q hq hn)⟩, h5⟩
end
end Go.Proofs.YtmphegeiclgjbaaGreatDoor
