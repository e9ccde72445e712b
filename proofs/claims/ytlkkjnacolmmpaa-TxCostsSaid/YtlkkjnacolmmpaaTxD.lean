
/- A transaction's reader takes an amount where nothing is wrong; what a decoding carries. -/
import Derived.Test.YtlkkjnacolmmpaaTxR
import Derived.Test.YtlkkjnacolmmpaaTxE
namespace Go.Proofs.Ytlkkjnacolmmpaa
set_option maxRecDepth 100000
open Go Go.RowKit
set_option linter.unusedVariables false

structure TZ (w : World) (gr gd gt lo g : Nat) (cr cd : Array Value) (l : List UInt8) (f : Int) (W : World) : Prop where
  P : PZ 88 w gr gd lo g 34 34 cr cd l f W
  tr : TxRd W gt g
  o3 : g < gt
  o4 : gt < gd
section
variable {w W W' : World} {gr gd gt lo g : Nat} {cr cd : Array Value} {l l' : List UInt8} {f f' : Int}
theorem TZ.chg (h : TZ w gr gd gt lo g cr cd l f W) (hc : Chg W W' (fun k => k = g ∨ k = gt)) (ht : TxRd W' gt g) (hr : Rdr W' lo g l' f') : TZ w gr gd gt lo g cr cd l' f' W' := by
  have h1 := h.P.lo'
  have h2 := h.P.hr
  have h3 := h.o3
  have h4 := h.o4
  exact ⟨⟨h.P.below.trans (hc.below (fun k e => by omega) h.P.below.size), h.P.hr, h.P.hd, (hc.block gr (blk_lt h.P.res) (by omega)).trans h.P.res, (hc.block gd (blk_lt h.P.loc) (by omega)).trans h.P.loc, hr, h.P.o1, h.P.o2⟩, ht, h3, h4⟩
theorem TZ.grown (h : TZ w gr gd gt lo g cr cd l f W) (hg : W.grownBy W' (some g)) (hr : Rdr W' lo g l' f') : TZ w gr gd gt lo g cr cd l' f' W' :=
  h.chg (Chg.of_grown hg (fun k e => Or.inl (by injection e with e; exact e.symm))) ((hg.block _ (blk_lt h.tr) (fun e => by injection e with e; have := h.o3; omega)).trans h.tr) hr
theorem TZ.set (h : TZ w gr gd gt lo g cr cd l f W) (i : Nat) (u : Value) : TZ w gr gd gt lo g cr (cd.setIfInBounds i u) l f (W.setCell ⟨gd, i, none⟩ u) :=
  ⟨h.P.set i u, (Below.heap_setCell W ⟨gd, i, none⟩ u gt (by have := h.o4; show gt ≠ gd; omega)).trans h.tr, h.o3, h.o4⟩
end
set_option maxHeartbeats 4000000 in
theorem txu0 {w : World} {gr g lo : Nat} {l rest m : List UInt8} {x : U4} (h : TxRd w gr g) (hr : Rdr w lo g l 0) (hl : rB l 0 = (m, rest, 0)) (hm : fromU m = (x, 0)) (hlo : gr < lo ∨ g < gr) :
    Calls Try.prog 18 #[.pointer (some ⟨gr, 0, none⟩)] w fun e w' => e = .returned x.val ∧ TxRd w' gr g ∧ Rdr w' lo g rest 0 ∧ Chg w w' (fun k => k = g ∨ k = gr) := by
  have ha : Below w.heap.size w (w.alloc (.cells #[.int .u64 0, .int .u64 0, .int .u64 0, .int .u64 0] 31)) := (Below.refl _ _).alloc (Nat.le_refl _) _
  have hb := heap_alloc_new w (.cells #[.int .u64 0, .int .u64 0, .int .u64 0, .int .u64 0] 31)
  have h0 : TxRd (w.alloc (.cells #[.int .u64 0, .int .u64 0, .int .u64 0, .int .u64 0] 31)) gr g := (ha.block _ (blk_lt h)).trans h
  have HR := Lib.hid (rdB_any (hr.below ha))
  have hgl := hr.lt
  have hne : gr ≠ g := by have := hr.from_; omega
  have hrl := blk_lt h
  rw [hl] at HR
  have c0 : (w.alloc (.cells #[.int .u64 0, .int .u64 0, .int .u64 0, .int .u64 0] 31)).cell? ⟨gr, 0, none⟩ = some (.pointer (some ⟨g, 0, none⟩)) := blk_cell h0 0
  clear h hr hl
  go_enter Try.func18, Try.ntmps18
  go_wp2_with fail
  generalize hW0 : w.alloc (.cells #[.int .u64 0, .int .u64 0, .int .u64 0, .int .u64 0] 31) = W0 at *
  have hls := blk_lt hb
  clear hW0 c0
  refine HR.out.mono ?_
  rintro e w1 ⟨v, rfl, ho, h1, hg1⟩
  have hb1 := (hg1.block _ hls (fun e => by injection e with e; omega)).trans hb
  have h2 : TxRd w1 gr g := (hg1.block _ (blk_lt h0) (fun e => by injection e with e; omega)).trans h0
  have hc1 : Chg w w1 (fun k => k = g ∨ k = gr) := (Chg.of_below ha _).trans' (Chg.of_grown hg1 (fun k e => Or.inl (by injection e with e; exact e.symm)))
  have HE := Lib.hid (txerr_any h2 h1)
  have HFm := Lib.hid (from_any v m w1 ho.rd)
  obtain ⟨A, c, rfl⟩ := ho.form
  clear HR hg1 ho hb h0 ha hls
  rw [hm] at HFm
  unfold U4.val U4.cells at HFm
  have hs1 := blk_lt hb1
  go_wp2_with fail
  refine HE.out.mono ?_
  rintro e w1' ⟨rfl, rfl⟩
  go_wp2_with fail
  refine HFm.out.mono ?_
  rintro e w2 ⟨rfl, hb2⟩
  have hc2 := hc1.trans' (Chg.of_below hb2 _)
  have r2 := h1.below hb2
  have t2 : TxRd w2 gr g := (hb2.block _ (blk_lt h2)).trans h2
  have z2 := (hb2.block _ hs1).trans hb1
  clear HE HFm hc1 hb2 h1 h2 hb1 hs1
  have hrb := blk_lt t2
  have hwb := blk_lt z2
  have x1 := blk_cell t2 1
  have x1f := blk_free t2 1
  have e0 := blk_cell z2 0
  have f0 := blk_free z2 0
  have e1 := blk_cell z2 1
  have f1 := blk_free z2 1
  have e2 := blk_cell z2 2
  have f2 := blk_free z2 2
  have e3 := blk_cell z2 3
  have f3 := blk_free z2 3
  have n2 := heap_alloc_new w2 (.cells #[.int .u64 (x.a : Int), .int .u64 (x.b : Int), .int .u64 (x.c : Int), .int .u64 (x.d : Int)] 31)
  have n0 := blk_cell n2 0
  have n1 := blk_cell n2 1
  have n2' := blk_cell n2 2
  have n3 := blk_cell n2 3
  have t4 : TxRd (w2.setCell ⟨gr, 1, none⟩ (.int .i64 0)) gr g := blk_set t2 1 (.int .i64 0)
  have r4 := r2.grown (grown_setR w2 gr 1 (.int .i64 0)) hlo
  have hc4 := hc2.trans' (Chg.set w2 (p := ⟨gr, 1, none⟩) (Or.inr rfl) (.int .i64 0))
  have z4 := (Below.heap_setCell w2 ⟨gr, 1, none⟩ (.int .i64 0) w.heap.size (by show w.heap.size ≠ gr; omega)).trans z2
  have t5 : TxRd ((w2.setCell ⟨gr, 1, none⟩ (.int .i64 0)).setCell ⟨w.heap.size, 0, none⟩ (.int .u64 (x.a : Int))) gr g := (Below.heap_setCell (w2.setCell ⟨gr, 1, none⟩ (.int .i64 0)) ⟨w.heap.size, 0, none⟩ (.int .u64 (x.a : Int)) gr (by show gr ≠ w.heap.size; omega)).trans t4
  have r5 := r4.grown (grown_setR (w2.setCell ⟨gr, 1, none⟩ (.int .i64 0)) w.heap.size 0 (.int .u64 (x.a : Int))) (Or.inr hgl)
  have z5 := blk_set z4 0 (.int .u64 (x.a : Int))
  have hc5 := hc4.trans (Chg.set (w2.setCell ⟨gr, 1, none⟩ (.int .i64 0)) (p := ⟨w.heap.size, 0, none⟩) (Or.inr ⟨Nat.le_refl _, blk_lt z4⟩) (.int .u64 (x.a : Int)))
  have t6 : TxRd (((w2.setCell ⟨gr, 1, none⟩ (.int .i64 0)).setCell ⟨w.heap.size, 0, none⟩ (.int .u64 (x.a : Int))).setCell ⟨w.heap.size, 1, none⟩ (.int .u64 (x.b : Int))) gr g := (Below.heap_setCell ((w2.setCell ⟨gr, 1, none⟩ (.int .i64 0)).setCell ⟨w.heap.size, 0, none⟩ (.int .u64 (x.a : Int))) ⟨w.heap.size, 1, none⟩ (.int .u64 (x.b : Int)) gr (by show gr ≠ w.heap.size; omega)).trans t5
  have r6 := r5.grown (grown_setR ((w2.setCell ⟨gr, 1, none⟩ (.int .i64 0)).setCell ⟨w.heap.size, 0, none⟩ (.int .u64 (x.a : Int))) w.heap.size 1 (.int .u64 (x.b : Int))) (Or.inr hgl)
  have z6 := blk_set z5 1 (.int .u64 (x.b : Int))
  have hc6 := hc5.trans (Chg.set ((w2.setCell ⟨gr, 1, none⟩ (.int .i64 0)).setCell ⟨w.heap.size, 0, none⟩ (.int .u64 (x.a : Int))) (p := ⟨w.heap.size, 1, none⟩) (Or.inr ⟨Nat.le_refl _, blk_lt z5⟩) (.int .u64 (x.b : Int)))
  have t7 : TxRd ((((w2.setCell ⟨gr, 1, none⟩ (.int .i64 0)).setCell ⟨w.heap.size, 0, none⟩ (.int .u64 (x.a : Int))).setCell ⟨w.heap.size, 1, none⟩ (.int .u64 (x.b : Int))).setCell ⟨w.heap.size, 2, none⟩ (.int .u64 (x.c : Int))) gr g := (Below.heap_setCell (((w2.setCell ⟨gr, 1, none⟩ (.int .i64 0)).setCell ⟨w.heap.size, 0, none⟩ (.int .u64 (x.a : Int))).setCell ⟨w.heap.size, 1, none⟩ (.int .u64 (x.b : Int))) ⟨w.heap.size, 2, none⟩ (.int .u64 (x.c : Int)) gr (by show gr ≠ w.heap.size; omega)).trans t6
  have r7 := r6.grown (grown_setR (((w2.setCell ⟨gr, 1, none⟩ (.int .i64 0)).setCell ⟨w.heap.size, 0, none⟩ (.int .u64 (x.a : Int))).setCell ⟨w.heap.size, 1, none⟩ (.int .u64 (x.b : Int))) w.heap.size 2 (.int .u64 (x.c : Int))) (Or.inr hgl)
  have z7 := blk_set z6 2 (.int .u64 (x.c : Int))
  have hc7 := hc6.trans (Chg.set (((w2.setCell ⟨gr, 1, none⟩ (.int .i64 0)).setCell ⟨w.heap.size, 0, none⟩ (.int .u64 (x.a : Int))).setCell ⟨w.heap.size, 1, none⟩ (.int .u64 (x.b : Int))) (p := ⟨w.heap.size, 2, none⟩) (Or.inr ⟨Nat.le_refl _, blk_lt z6⟩) (.int .u64 (x.c : Int)))
  have t8 : TxRd (((((w2.setCell ⟨gr, 1, none⟩ (.int .i64 0)).setCell ⟨w.heap.size, 0, none⟩ (.int .u64 (x.a : Int))).setCell ⟨w.heap.size, 1, none⟩ (.int .u64 (x.b : Int))).setCell ⟨w.heap.size, 2, none⟩ (.int .u64 (x.c : Int))).setCell ⟨w.heap.size, 3, none⟩ (.int .u64 (x.d : Int))) gr g := (Below.heap_setCell ((((w2.setCell ⟨gr, 1, none⟩ (.int .i64 0)).setCell ⟨w.heap.size, 0, none⟩ (.int .u64 (x.a : Int))).setCell ⟨w.heap.size, 1, none⟩ (.int .u64 (x.b : Int))).setCell ⟨w.heap.size, 2, none⟩ (.int .u64 (x.c : Int))) ⟨w.heap.size, 3, none⟩ (.int .u64 (x.d : Int)) gr (by show gr ≠ w.heap.size; omega)).trans t7
  have r8 := r7.grown (grown_setR ((((w2.setCell ⟨gr, 1, none⟩ (.int .i64 0)).setCell ⟨w.heap.size, 0, none⟩ (.int .u64 (x.a : Int))).setCell ⟨w.heap.size, 1, none⟩ (.int .u64 (x.b : Int))).setCell ⟨w.heap.size, 2, none⟩ (.int .u64 (x.c : Int))) w.heap.size 3 (.int .u64 (x.d : Int))) (Or.inr hgl)
  have z8 := blk_set z7 3 (.int .u64 (x.d : Int))
  have hc8 := hc7.trans (Chg.set ((((w2.setCell ⟨gr, 1, none⟩ (.int .i64 0)).setCell ⟨w.heap.size, 0, none⟩ (.int .u64 (x.a : Int))).setCell ⟨w.heap.size, 1, none⟩ (.int .u64 (x.b : Int))).setCell ⟨w.heap.size, 2, none⟩ (.int .u64 (x.c : Int))) (p := ⟨w.heap.size, 3, none⟩) (Or.inr ⟨Nat.le_refl _, blk_lt z7⟩) (.int .u64 (x.d : Int)))
  have ha9 : Below (World.heap (((((w2.setCell ⟨gr, 1, none⟩ (.int .i64 0)).setCell ⟨w.heap.size, 0, none⟩ (.int .u64 (x.a : Int))).setCell ⟨w.heap.size, 1, none⟩ (.int .u64 (x.b : Int))).setCell ⟨w.heap.size, 2, none⟩ (.int .u64 (x.c : Int))).setCell ⟨w.heap.size, 3, none⟩ (.int .u64 (x.d : Int)))).size (((((w2.setCell ⟨gr, 1, none⟩ (.int .i64 0)).setCell ⟨w.heap.size, 0, none⟩ (.int .u64 (x.a : Int))).setCell ⟨w.heap.size, 1, none⟩ (.int .u64 (x.b : Int))).setCell ⟨w.heap.size, 2, none⟩ (.int .u64 (x.c : Int))).setCell ⟨w.heap.size, 3, none⟩ (.int .u64 (x.d : Int))) (World.alloc (((((w2.setCell ⟨gr, 1, none⟩ (.int .i64 0)).setCell ⟨w.heap.size, 0, none⟩ (.int .u64 (x.a : Int))).setCell ⟨w.heap.size, 1, none⟩ (.int .u64 (x.b : Int))).setCell ⟨w.heap.size, 2, none⟩ (.int .u64 (x.c : Int))).setCell ⟨w.heap.size, 3, none⟩ (.int .u64 (x.d : Int))) (.cells #[.int .u64 (x.a : Int), .int .u64 (x.b : Int), .int .u64 (x.c : Int), .int .u64 (x.d : Int)] 31)) := (Below.refl _ _).alloc (Nat.le_refl _) _
  have HT := Lib.hid (And.intro ((ha9.block _ (blk_lt t8)).trans t8) (And.intro (r8.below ha9) (hc8.trans' (Chg.of_below ha9 _))))
  have z9 := (ha9.block _ (blk_lt z8)).trans z8
  have HD := Lib.hid (And.intro (blk_cell z9 0) (And.intro (blk_cell z9 1) (And.intro (blk_cell z9 2) (blk_cell z9 3))))
  clear ha9 z9 z8 z7 z6 z5 z4 t8 t7 t6 t5 t4 r8 r7 r6 r5 r4 hc8 hc7 hc6 hc5 hc4
  go_wp2_with fail
  obtain ⟨d0, d1, d2, d3⟩ := HD.out
  refine bodyPost_ret (v := .agg #[.int .u64 (x.a : Int), .int .u64 (x.b : Int), .int .u64 (x.c : Int), .int .u64 (x.d : Int)]) ?_ rfl ⟨rfl, HT.out⟩
  simp at d0 d1 d2 d3
  simp [results, Try.results18, go_sem, d0, d1, d2, d3]
end Go.Proofs.Ytlkkjnacolmmpaa
