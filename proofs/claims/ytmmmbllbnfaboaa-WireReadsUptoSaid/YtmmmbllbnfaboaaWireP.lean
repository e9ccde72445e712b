/- The walk of one call on a reader and on the document's. -/
import Derived.Test.YtmmmbllbnfaboaaWireFx
import Derived.Deep.RegionHeld3
namespace Go.Proofs.Ytmmmbllbnfaboaa
open Go.RowKit

/-- the cells of a box, in a world where nothing up to it has turned -/
theorem box_cells {w w' : World} {cs : Array Value} {t : TypeId} (h : Below (w.heap.size + 1) (w.alloc (.cells cs t)) w') (o : Nat) : w'.cell? ⟨w.heap.size, o, none⟩ = cs[o]? := by
  rw [h.cell (p := ⟨w.heap.size, o, none⟩) (by simp)]
  exact blk_cell (heap_alloc_new w _) o

/-- two readers, side by side: what one call leaves -/
def Both (lo g lo2 g2 : Nat) (w w' : World) : Prop :=
  ∃ (rest' : List UInt8) (fault' : Int), Rdr w' lo g rest' fault' ∧ Ddr w' lo2 g2 rest' fault' ∧ Below lo w w'

theorem both_of {lo g lo2 g2 : Nat} {w W w1 w2 : World} {rest r1 : List UInt8} {fault f1 : Int} (hW : Below w.heap.size w W) (hg : g < w.heap.size) (hlo : lo ≤ g) (h12 : g < lo2) (h22 : lo2 ≤ g2) (hd : Ddr w1 lo2 g2 rest fault)
    (hr1 : Rdr w1 lo g r1 f1) (hg1 : W.grownBy w1 (some g)) (hd2 : Ddr w2 lo2 g2 r1 f1) (hg2 : w1.grownBy w2 (some g2)) : Both lo g lo2 g2 w w2 := by
  refine ⟨r1, f1, hr1.grown hg2 (.inr (by omega)), hd2, ?_⟩
  have hWs := hW.size
  exact ((hW.mono (by omega)).trans (below_of_grownBy hg1 hlo (by omega))).trans ((below_of_grownBy hg2 h22 hd.lt).mono (by omega))

variable {w : World} {lo g lo2 g2 : Nat} {rest : List UInt8} {fault : Int}

set_option maxRecDepth 100000 in
set_option maxHeartbeats 4000000 in
theorem play_walk (hr : Rdr w lo g rest fault) (hd : Ddr w lo2 g2 rest fault) (h12 : g < lo2) (kind most nn : Int) (xv : Value) (yes : Bool) (hxv : ∃ A n c, xv = .slice A n c) (hm : most ≤ 9223372036854775807) (hm' : -9223372036854775808 ≤ most) :
    Calls Try.prog 20 #[.pointer (some ⟨g, 0, none⟩), .pointer (some ⟨g2, 0, none⟩), .agg #[.int .i64 kind, .int .i64 most, .int .u64 nn, xv, .bool yes]] w
      fun e w' => e = .returned (.bool true) ∧ Both lo g lo2 g2 w w' := by
  obtain ⟨A, n, c, rfl⟩ := hxv
  have hlt := hr.lt
  have hlo := hr.from_
  have h22 := hd.from_
  obtain ⟨W, hW⟩ : ∃ W, W = w.alloc (.cells #[.int .i64 kind, .int .i64 most, .int .u64 nn, .slice A n c, .bool yes] 25) := ⟨_, rfl⟩
  have hb0 : Below w.heap.size w W := by rw [hW]; exact (Below.refl _ _).alloc (Nat.le_refl _) _
  have hrW := hr.below hb0
  have hdW := hd.below hb0
  have HW := Lib.hid hW
  clear hW
  by_cases k1 : kind = 1
  · subst k1
    go_enter Try.func20, Try.ntmps20
    go_wp2_with fail
    rw [← HW.out]
    refine (rN_any hrW).mono ?_
    rintro e w1 ⟨rfl, hr1, hg1⟩
    have hd1 := hdW.grown hg1 (.inl h12)
    go_wp2_with fail
    refine (dN_any hd1).mono ?_
    rintro e w2 ⟨rfl, hd2, hg2⟩
    go_wp2_with fail
    go_ret
    exact ⟨rfl, both_of hb0 hlt hlo h12 h22 hd1 hr1 hg1 hd2 hg2⟩
  by_cases k2 : kind = 2
  · subst k2
    go_enter Try.func20, Try.ntmps20
    go_wp2_with fail
    rw [← HW.out]
    refine (rdB_any hrW).mono ?_
    rintro e w1 ⟨v1, rfl, ho1, hr1, hg1⟩
    have hd1 := hdW.grown hg1 (.inl h12)
    go_wp2_with fail
    refine (dB_any hd1).mono ?_
    rintro e w2 ⟨v2, rfl, ho2, hd2, hg2⟩
    have ho1' := ho1.grown hg2 (.inr (by intro e; have := ho1.lt _ e; have := hdW.lt; omega))
    go_wp2_with fail
    refine (same_any _ _ _ _ w2 ho1'.rd ho2.rd).mono ?_
    rintro e w3 ⟨rfl, hb3⟩
    rw [sameB_refl]
    go_wp2_with fail
    go_ret
    obtain ⟨r', f', q1, q2, q3⟩ := both_of hb0 hlt hlo h12 h22 hd1 hr1 hg1 hd2 hg2
    exact ⟨rfl, r', f', q1.below hb3, q2.below hb3, below_chain q3 (by have := q1.lt; omega) hb3⟩
  by_cases k3 : kind = 3
  · subst k3
    go_enter Try.func20, Try.ntmps20
    go_wp2_with fail
    rw [← HW.out]
    refine (rdT_any hrW).mono ?_
    rintro e w1 ⟨rfl, hr1, hg1⟩
    have hd1 := hdW.grown hg1 (.inl h12)
    go_wp2_with fail
    refine (dT_any hd1).mono ?_
    rintro e w2 ⟨rfl, hd2, hg2⟩
    go_wp2_with fail
    go_ret
    exact ⟨rfl, both_of hb0 hlt hlo h12 h22 hd1 hr1 hg1 hd2 hg2⟩
  by_cases k4 : kind = 4
  · subst k4
    go_enter Try.func20, Try.ntmps20
    go_wp2_with fail
    rw [← HW.out]
    refine (rdF_any hrW).mono ?_
    rintro e w1 ⟨rfl, hr1, hg1⟩
    have hd1 := hdW.grown hg1 (.inl h12)
    go_wp2_with fail
    refine (dF_any hd1).mono ?_
    rintro e w2 ⟨rfl, hd2, hg2⟩
    go_wp2_with fail
    go_ret
    exact ⟨rfl, both_of hb0 hlt hlo h12 h22 hd1 hr1 hg1 hd2 hg2⟩
  by_cases k5 : kind = 5
  · subst k5
    have cW : W.cell? ⟨w.heap.size, 1, none⟩ = some (.int .i64 most) := by rw [HW.out]; exact blk_cell (heap_alloc_new w _) 1
    go_enter Try.func20, Try.ntmps20
    go_wp2_with fail
    rw [← HW.out]
    go_region_held3 (fun w' => w'.cell? ⟨w.heap.size, 1, none⟩ = some (.int .i64 most)) (first | assumption | simpa using cW)
      (first
        | (go_at_call 30; refine (rdC_any (w := W.drew) hrW most hm hm').mono ?_; rintro e w1 ⟨rfl, hr1, hg1⟩; have hd1 := RdT.grown (w := W.drew) hdW hg1 (.inl h12); have c1 : w1.cell? ⟨w.heap.size, 1, none⟩ = some (.int .i64 most) := (World.cell?_of_block (w := W.drew) (hg1.block w.heap.size (World.block_lt_of_cell? W _ cW) (by intro e; injection e with e; omega))).trans cW)
        | (go_at_call 38; refine (dC_any hd1 most hm hm').mono ?_; rintro e w2 ⟨rfl, hd2, hg2⟩; have c2 : w2.cell? ⟨w.heap.size, 1, none⟩ = some (.int .i64 most) := (World.cell?_of_block (w := w1) (hg2.block w.heap.size (World.block_lt_of_cell? w1 _ c1) (by intro e; injection e with e; have := hd.lt; omega))).trans c1))
    go_wp2_with fail
    go_ret
    exact ⟨rfl, both_of (W := W) hb0 hlt hlo h12 h22 hd1 hr1 ⟨hg1.os, hg1.tape, hg1.output, hg1.size, hg1.block⟩ hd2 hg2⟩
  by_cases k6 : kind = 6
  · subst k6
    go_enter Try.func20, Try.ntmps20
    go_wp2_with fail
    rw [← HW.out]
    refine (rdLeft_any hrW).mono ?_
    rintro e w1 ⟨rfl, rfl⟩
    go_wp2_with fail
    refine (dLeft_any hdW).mono ?_
    rintro e w2 ⟨rfl, rfl⟩
    go_wp2_with fail
    go_ret
    exact ⟨rfl, rest, fault, hrW, hdW, hb0.mono (by omega)⟩
  by_cases k7 : kind = 7
  · subst k7
    go_enter Try.func20, Try.ntmps20
    go_wp2_with fail
    rw [← HW.out]
    refine (rdErr_any hrW).mono ?_
    rintro e w1 ⟨rfl, rfl⟩
    go_wp2_with fail
    refine (dErr_any hdW).mono ?_
    rintro e w2 ⟨rfl, rfl⟩
    go_wp2_with fail
    go_ret
    exact ⟨rfl, rest, fault, hrW, hdW, hb0.mono (by omega)⟩
  by_cases k8 : kind = 8
  · subst k8
    go_enter Try.func20, Try.ntmps20
    go_wp2_with fail
    rw [← HW.out]
    refine (rdEnd_any hrW).mono ?_
    rintro e w1 ⟨rfl, rfl⟩
    go_wp2_with fail
    refine (dEnd_any hdW).mono ?_
    rintro e w2 ⟨rfl, rfl⟩
    go_wp2_with fail
    go_ret
    exact ⟨rfl, rest, fault, hrW, hdW, hb0.mono (by omega)⟩
  have j1 : (kind == 1) = false := by simp [k1]
  have j2 : (kind == 2) = false := by simp [k2]
  have j3 : (kind == 3) = false := by simp [k3]
  have j4 : (kind == 4) = false := by simp [k4]
  have j5 : (kind == 5) = false := by simp [k5]
  have j6 : (kind == 6) = false := by simp [k6]
  have j7 : (kind == 7) = false := by simp [k7]
  have j8 : (kind == 8) = false := by simp [k8]
  go_enter Try.func20, Try.ntmps20
  go_wp2_with fail
  rw [← HW.out]
  go_ret
  exact ⟨rfl, rest, fault, hrW, hdW, hb0.mono (by omega)⟩
end Go.Proofs.Ytmmmbllbnfaboaa
