/- Texts joined: LimbM0. -/
import Derived.Test.YtniclaapiabmdaaGreatDoorM09
import Derived.Test.YtniclaapiabmdaaGreatDoorM06
import Derived.Deep.RegionHeldLaw
namespace Go.Proofs.YtniclaapiabmdaaGreatDoor
set_option maxRecDepth 100000
open Go Go.RowKit

end Go.Proofs.YtniclaapiabmdaaGreatDoor
namespace Go.Proofs.YtniclaapiabmdaaGreatDoor
set_option maxRecDepth 100000
open Go Go.RowKit

/-- four cells of each of two blocks -/
def Cells8 (g : Nat) (x y : U4) (W : World) : Prop :=
  (W.cell? ⟨g, 0, none⟩ = some (.int .u64 (x.a : Int)) ∧ W.cell? ⟨g, 1, none⟩ = some (.int .u64 (x.b : Int)) ∧ W.cell? ⟨g, 2, none⟩ = some (.int .u64 (x.c : Int)) ∧ W.cell? ⟨g, 3, none⟩ = some (.int .u64 (x.d : Int))) ∧
  W.cell? ⟨g + 1, 0, none⟩ = some (.int .u64 (y.a : Int)) ∧ W.cell? ⟨g + 1, 1, none⟩ = some (.int .u64 (y.b : Int)) ∧ W.cell? ⟨g + 1, 2, none⟩ = some (.int .u64 (y.c : Int)) ∧ W.cell? ⟨g + 1, 3, none⟩ = some (.int .u64 (y.d : Int))

set_option maxHeartbeats 4000000 in
set_option maxRecDepth 100000 in
theorem rcmp_any (x y : U4) (w : World) (hx : x.ok) (hy : y.ok) : Calls Tryz.prog 50 #[x.val, y.val] w fun e w' => e = .returned (.int .i64 (cmpN x.nat y.nat)) ∧ Below w.heap.size w w' := by
  have L1 := Lib.hid (fun W : World => rlong_any x W hx)
  have L2 := Lib.hid (fun W : World => rlong_any y W hy)
  have NX := Lib.hid (nat_long hx)
  have NY := Lib.hid (nat_long hy)
  unfold U4.val U4.cells at L1 L2 ⊢
  obtain ⟨hb0, hb1, hbw⟩ := two w x.cells y.cells
  have hlt0 := hb0.lt
  have hlt1 := hb1.lt
  have a0 := hb0.all
  have a1 := hb1.all
  go_enter Tryz.func50, Tryz.ntmps50
  go_wp2_with fail
  unfold U4.cells at a0 a1 hbw hlt0 hlt1
  generalize (w.alloc (.cells #[.int .u64 (x.a : Int), .int .u64 (x.b : Int), .int .u64 (x.c : Int), .int .u64 (x.d : Int)] 25)).alloc (.cells #[.int .u64 (y.a : Int), .int .u64 (y.b : Int), .int .u64 (y.c : Int), .int .u64 (y.d : Int)] 25) = w0 at *
  have HP : Hid (∀ W : World, Below w0.heap.size w0 W → (W.cell? ⟨w.heap.size, 0, none⟩ = some (.int .u64 (x.a : Int)) ∧ W.cell? ⟨w.heap.size, 1, none⟩ = some (.int .u64 (x.b : Int)) ∧ W.cell? ⟨w.heap.size, 2, none⟩ = some (.int .u64 (x.c : Int)) ∧ W.cell? ⟨w.heap.size, 3, none⟩ = some (.int .u64 (x.d : Int))) ∧
      W.cell? ⟨w.heap.size + 1, 0, none⟩ = some (.int .u64 (y.a : Int)) ∧ W.cell? ⟨w.heap.size + 1, 1, none⟩ = some (.int .u64 (y.b : Int)) ∧ W.cell? ⟨w.heap.size + 1, 2, none⟩ = some (.int .u64 (y.c : Int)) ∧ W.cell? ⟨w.heap.size + 1, 3, none⟩ = some (.int .u64 (y.d : Int))) := Lib.hid (fun W h =>
    ⟨⟨(h.cell (p := ⟨w.heap.size, 0, none⟩) hlt0).trans a0.1, (h.cell (p := ⟨w.heap.size, 1, none⟩) hlt0).trans a0.2.1, (h.cell (p := ⟨w.heap.size, 2, none⟩) hlt0).trans a0.2.2.1, (h.cell (p := ⟨w.heap.size, 3, none⟩) hlt0).trans a0.2.2.2⟩,
      (h.cell (p := ⟨w.heap.size + 1, 0, none⟩) hlt1).trans a1.1, (h.cell (p := ⟨w.heap.size + 1, 1, none⟩) hlt1).trans a1.2.1, (h.cell (p := ⟨w.heap.size + 1, 2, none⟩) hlt1).trans a1.2.2.1, (h.cell (p := ⟨w.heap.size + 1, 3, none⟩) hlt1).trans a1.2.2.2⟩)
  have hd0 : Below w0.heap.size w0 w0.drew := (Below.refl _ _).drew
  clear hb0 hb1 a0 a1 hlt0 hlt1
  go_region_held_law (fun W => (W.cell? ⟨w.heap.size, 0, none⟩ = some (.int .u64 (x.a : Int)) ∧ W.cell? ⟨w.heap.size, 1, none⟩ = some (.int .u64 (x.b : Int)) ∧ W.cell? ⟨w.heap.size, 2, none⟩ = some (.int .u64 (x.c : Int)) ∧ W.cell? ⟨w.heap.size, 3, none⟩ = some (.int .u64 (x.d : Int))) ∧
      W.cell? ⟨w.heap.size + 1, 0, none⟩ = some (.int .u64 (y.a : Int)) ∧ W.cell? ⟨w.heap.size + 1, 1, none⟩ = some (.int .u64 (y.b : Int)) ∧ W.cell? ⟨w.heap.size + 1, 2, none⟩ = some (.int .u64 (y.c : Int)) ∧ W.cell? ⟨w.heap.size + 1, 3, none⟩ = some (.int .u64 (y.d : Int)))
    (first | exact HP.out _ hy2 | exact HP.out _ hy1 | exact HP.out _ hd0)
    ((go_at_call 48; first
      | (have hq := hy1; refine (L2.out _).mono ?_; rintro e w2 ⟨v2, rfl, ho2, hb2⟩; have hy2 := below_chain hy1 hy1.size hb2)
      | (refine (L1.out _).mono ?_; rintro e w1 ⟨v1, rfl, ho1, hb1⟩; have hy1 := below_chain hd0 hd0.size hb1)))
  have hXl := byL_length x.nat 32
  have hYl := byL_length y.nat 32
  have hXb := byL_lt x.nat 32
  have hYb := byL_lt y.nat 32
  have NX2 := NX.out
  have NY2 := NY.out
  have CN : Hid (cmpN x.nat y.nat = cmpN (valL (byL x.nat 32)) (valL (byL y.nat 32))) := Lib.hid (by rw [NX2, NY2])
  have ho1' := ho1.up hb2
  generalize byL x.nat 32 = X at *
  generalize byL y.nat 32 = Y at *
  obtain ⟨AX, cX, rfl⟩ := ho1.form
  obtain ⟨AY, cY, rfl⟩ := ho2.form
  obtain ⟨gX, rfl, -, hgX, -⟩ := ho1'.at_ 0 (by omega)
  obtain ⟨gY, rfl, -, hgY, -⟩ := ho2.at_ 0 (by omega)
  have HCX : Hid (∀ j, j < 32 → w2.cell? ⟨gX, j, none⟩ = some (.int .i64 (X.getD j 0 : Int))) := Lib.hid (fun j hj => by
    obtain ⟨g', e, _, _, h⟩ := ho1'.at_ j (by omega)
    injection e with e
    injection e with e _ _
    subst e
    exact h)
  have HCY : Hid (∀ j, j < 32 → w2.cell? ⟨gY, j, none⟩ = some (.int .i64 (Y.getD j 0 : Int))) := Lib.hid (fun j hj => by
    obtain ⟨g', e, _, _, h⟩ := ho2.at_ j (by omega)
    injection e with e
    injection e with e _ _
    subst e
    exact h)
  rw [hXl, hYl]
  have HXl := Lib.hid hXl
  have HYl := Lib.hid hYl
  have HXb := Lib.hid hXb
  have HYb := Lib.hid hYb
  have hq2 := below_chain hbw hbw.size hy2
  clear ho1 ho1' ho2 hb1 hb2 hy1 hy2 hq HP hd0 NX2 NY2 NX NY L1 L2 hXl hYl hXb hYb
  go_wp2_with fail
  go_loopw [7] (fun i wr => ∃ m : Nat, m ≤ 32 ∧ i = .int .i64 ((m : Int) - 1) ∧ X.drop m = Y.drop m ∧ Below w2.heap.size w2 wr)
    (fun i _ => (intOf i + 1).toNat)
  case atStart => exact ⟨32, by omega, rfl, by rw [List.drop_of_length_le (by have := HXl.out; omega), List.drop_of_length_le (by have := HYl.out; omega)], Below.refl _ _⟩
  case round =>
    obtain ⟨m, hm, rfl, hdr, hb⟩ := hrel
    have HD := Lib.hid hdr
    have hbz := below_chain hq2 hq2.size hb
    clear hdr
    rcases m with _ | p
    · have HE : Hid (cmpN x.nat y.nat = 0) := Lib.hid (by
        rw [CN.out]
        have := HD.out
        rw [List.drop_zero, List.drop_zero] at this
        rw [this]
        simp [cmpN])
      have e0 : (((0 : Nat) : Int) - 1) = -1 := rfl
      rw [e0]
      clear e0
      go_wp2_with fail
      go_ret
      rw [HE.out]
      exact ⟨rfl, hbz⟩
    · have e : (((p + 1 : Nat) : Int) - 1) = (p : Int) := by omega
      rw [e]
      clear e
      have hp : p < 32 := by omega
      have p1 : (0 : Int) ≤ (p : Int) := by omega
      have p2 : (p : Int) < 32 := by omega
      have cx := (hb.cell (p := ⟨gX, p, none⟩) hgX).trans (HCX.out p hp)
      have cy := (hb.cell (p := ⟨gY, p, none⟩) hgY).trans (HCY.out p hp)
      have hXp : p < X.length := by have := HXl.out; omega
      have hYp : p < Y.length := by have := HYl.out; omega
      have gx : X.getD p 0 = X[p] := by rw [List.getD_eq_getElem?_getD, List.getElem?_eq_getElem hXp]; rfl
      have gy : Y.getD p 0 = Y[p] := by rw [List.getD_eq_getElem?_getD, List.getElem?_eq_getElem hYp]; rfl
      rw [gx] at cx
      rw [gy] at cy
      clear gx gy
      by_cases hlt : X[p] < Y[p]
      · have HE : Hid (cmpN x.nat y.nat = -1) := Lib.hid (by
          rw [CN.out]
          have := cmp_lt X Y p hXp hYp HXb.out HD.out hlt
          unfold cmpN
          rw [if_neg (by omega), if_neg (by omega)])
        generalize X[p] = a at *
        generalize Y[p] = b at *
        have k1 : decide (a < b) = true := by simpa using hlt
        have k2 : (a : Int) < (b : Int) := by omega
        go_wp2_with fail
        go_quiet (fail)
        go_wp2_with fail
        go_ret
        rw [HE.out]
        exact ⟨rfl, below_drewN' hbz _⟩
      · by_cases hgt : Y[p] < X[p]
        · have HE : Hid (cmpN x.nat y.nat = 1) := Lib.hid (by
            rw [CN.out]
            have := cmp_lt Y X p hYp hXp HYb.out HD.out.symm hgt
            unfold cmpN
            rw [if_neg (by omega), if_pos (by omega)])
          generalize X[p] = a at *
          generalize Y[p] = b at *
          have k1 : decide (a < b) = false := by simpa using hlt
          have k3 : decide (b < a) = true := by simpa using hgt
          have k2 : ¬ (a : Int) < (b : Int) := by omega
          have k4 : (b : Int) < (a : Int) := by omega
          go_wp2_with fail
          go_quiet (fail)
          go_wp2_with fail
          have cx2 : (wr.drewN nq).cell? ⟨gX, p, none⟩ = some (.int .i64 (a : Int)) := cx
          have cy2 : (wr.drewN nq).cell? ⟨gY, p, none⟩ = some (.int .i64 (b : Int)) := cy
          have hbz2 : Below w.heap.size w (wr.drewN nq) := below_drewN' hbz nq
          generalize wr.drewN nq = wz at *
          go_quiet (fail)
          go_wp2_with fail
          go_ret
          rw [HE.out]
          exact ⟨rfl, below_drewN' hbz2 _⟩
        · have heq : X[p] = Y[p] := by omega
          have HD2 : Hid (X.drop p = Y.drop p) := Lib.hid (by rw [List.drop_eq_getElem_cons hXp, List.drop_eq_getElem_cons hYp, heq, HD.out])
          rw [← heq] at cy
          generalize X[p] = a at *
          have k1 : decide (a < a) = false := by simp
          have k2 : ¬ (a : Int) < (a : Int) := by omega
          clear hlt hgt heq
          go_wp2_with fail
          go_quiet (fail)
          go_wp2_with fail
          have cx2 : (wr.drewN nq).cell? ⟨gX, p, none⟩ = some (.int .i64 (a : Int)) := cx
          have cy2 : (wr.drewN nq).cell? ⟨gY, p, none⟩ = some (.int .i64 (a : Int)) := cy
          have hb2 : Below w2.heap.size w2 (wr.drewN nq) := below_drewN' hb nq
          generalize wr.drewN nq = wz at *
          go_quiet (fail)
          go_wp2_with fail
          go_roundw
          case rel => exact ⟨p, by omega, rfl, HD2.out, below_drewN' hb2 _⟩
          case measure => simp [intOf]
end Go.Proofs.YtniclaapiabmdaaGreatDoor
namespace Go.Proofs.YtniclaapiabmdaaGreatDoor
set_option maxRecDepth 100000
open Go Go.RowKit

theorem three' (w : World) (X Y Z : Array Value) : LBlk (((w.alloc (.cells X 25)).alloc (.cells Y 25)).alloc (.cells Z 25)) w.heap.size X ∧
    LBlk (((w.alloc (.cells X 25)).alloc (.cells Y 25)).alloc (.cells Z 25)) (w.heap.size + 1) Y ∧
    LBlk (((w.alloc (.cells X 25)).alloc (.cells Y 25)).alloc (.cells Z 25)) (w.heap.size + 1 + 1) Z ∧
    Below w.heap.size w (((w.alloc (.cells X 25)).alloc (.cells Y 25)).alloc (.cells Z 25)) := by
  refine ⟨((LBlk.new w X).alloc _).alloc _, ?_, ?_, (((Below.refl _ _).alloc (Nat.le_refl _) _).alloc (by simp) _).alloc (by simp; omega) _⟩
  · have := (LBlk.new (w.alloc (.cells X 25)) Y).alloc (.cells Z 25)
    simpa using this
  · have := LBlk.new ((w.alloc (.cells X 25)).alloc (.cells Y 25)) Z
    simpa using this

set_option maxHeartbeats 4000000 in
set_option maxRecDepth 100000 in
theorem radd_any (x y : U4) (w : World) (hx : x.ok) (hy : y.ok) : Calls Tryz.prog 15 #[x.val, y.val] w fun e w' => e = .returned (.tuple #[(addU x y).1.val, .bool (addU x y).2]) ∧ Below w.heap.size w w' := by
  have L1 := Lib.hid (fun W : World => rlong_any x W hx)
  have L2 := Lib.hid (fun W : World => rlong_any y W hy)
  have NX := Lib.hid (nat_long hx)
  have NY := Lib.hid (nat_long hy)
  unfold U4.val U4.cells at L1 L2
  unfold U4.val
  obtain ⟨hb0, hb1, hbr, hbw⟩ := three' w x.cells y.cells #[.int .u64 0, .int .u64 0, .int .u64 0, .int .u64 0]
  have hlt0 := hb0.lt
  have hlt1 := hb1.lt
  have hlt2 := hbr.lt
  have a0 := hb0.all
  have a1 := hb1.all
  unfold U4.cells at a0 a1 hbw hlt0 hlt1 hlt2 hbr ⊢
  go_enter Tryz.func15, Tryz.ntmps15
  go_wp2_with fail
  generalize ((w.alloc (.cells #[.int .u64 (x.a : Int), .int .u64 (x.b : Int), .int .u64 (x.c : Int), .int .u64 (x.d : Int)] 25)).alloc (.cells #[.int .u64 (y.a : Int), .int .u64 (y.b : Int), .int .u64 (y.c : Int), .int .u64 (y.d : Int)] 25)).alloc (.cells #[.int .u64 0, .int .u64 0, .int .u64 0, .int .u64 0] 25) = w0 at *
  have HBR : Hid (LBlk w0 (w.heap.size + 1 + 1) U4.zero.cells) := Lib.hid hbr
  clear hbr
  have HP : Hid (∀ W : World, Below w0.heap.size w0 W → (W.cell? ⟨w.heap.size, 0, none⟩ = some (.int .u64 (x.a : Int)) ∧ W.cell? ⟨w.heap.size, 1, none⟩ = some (.int .u64 (x.b : Int)) ∧ W.cell? ⟨w.heap.size, 2, none⟩ = some (.int .u64 (x.c : Int)) ∧ W.cell? ⟨w.heap.size, 3, none⟩ = some (.int .u64 (x.d : Int))) ∧
      W.cell? ⟨w.heap.size + 1, 0, none⟩ = some (.int .u64 (y.a : Int)) ∧ W.cell? ⟨w.heap.size + 1, 1, none⟩ = some (.int .u64 (y.b : Int)) ∧ W.cell? ⟨w.heap.size + 1, 2, none⟩ = some (.int .u64 (y.c : Int)) ∧ W.cell? ⟨w.heap.size + 1, 3, none⟩ = some (.int .u64 (y.d : Int))) := Lib.hid (fun W h =>
    ⟨⟨(h.cell (p := ⟨w.heap.size, 0, none⟩) hlt0).trans a0.1, (h.cell (p := ⟨w.heap.size, 1, none⟩) hlt0).trans a0.2.1, (h.cell (p := ⟨w.heap.size, 2, none⟩) hlt0).trans a0.2.2.1, (h.cell (p := ⟨w.heap.size, 3, none⟩) hlt0).trans a0.2.2.2⟩,
      (h.cell (p := ⟨w.heap.size + 1, 0, none⟩) hlt1).trans a1.1, (h.cell (p := ⟨w.heap.size + 1, 1, none⟩) hlt1).trans a1.2.1, (h.cell (p := ⟨w.heap.size + 1, 2, none⟩) hlt1).trans a1.2.2.1, (h.cell (p := ⟨w.heap.size + 1, 3, none⟩) hlt1).trans a1.2.2.2⟩)
  have hd0 : Below w0.heap.size w0 w0.drew := (Below.refl _ _).drew
  clear hb0 hb1 a0 a1 hlt0 hlt1
  go_region_held_law (fun W => (W.cell? ⟨w.heap.size, 0, none⟩ = some (.int .u64 (x.a : Int)) ∧ W.cell? ⟨w.heap.size, 1, none⟩ = some (.int .u64 (x.b : Int)) ∧ W.cell? ⟨w.heap.size, 2, none⟩ = some (.int .u64 (x.c : Int)) ∧ W.cell? ⟨w.heap.size, 3, none⟩ = some (.int .u64 (x.d : Int))) ∧
      W.cell? ⟨w.heap.size + 1, 0, none⟩ = some (.int .u64 (y.a : Int)) ∧ W.cell? ⟨w.heap.size + 1, 1, none⟩ = some (.int .u64 (y.b : Int)) ∧ W.cell? ⟨w.heap.size + 1, 2, none⟩ = some (.int .u64 (y.c : Int)) ∧ W.cell? ⟨w.heap.size + 1, 3, none⟩ = some (.int .u64 (y.d : Int)))
    (first | exact HP.out _ hy2 | exact HP.out _ hy1 | exact HP.out _ hd0)
    ((go_at_call 48; first
      | (have hq := hy1; refine (L2.out _).mono ?_; rintro e w2 ⟨v2, rfl, ho2, hb2⟩; have hy2 := below_chain hy1 hy1.size hb2)
      | (refine (L1.out _).mono ?_; rintro e w1 ⟨v1, rfl, ho1, hb1⟩; have hy1 := below_chain hd0 hd0.size hb1)))
  have hXl := byL_length x.nat 32
  have hYl := byL_length y.nat 32
  have hXb := byL_lt x.nat 32
  have hYb := byL_lt y.nat 32
  have NX2 := NX.out
  have NY2 := NY.out
  have ho1' := ho1.up hb2
  have ho2' := ho2
  generalize byL x.nat 32 = X at *
  generalize byL y.nat 32 = Y at *
  have CN : Hid (x.nat + y.nat = valL X + valL Y) := Lib.hid (by rw [NX2, NY2])
  obtain ⟨AX, cX, rfl⟩ := ho1.form
  obtain ⟨AY, cY, rfl⟩ := ho2.form
  obtain ⟨gX, rfl, -, hgX, -⟩ := ho1.at_ 0 (by omega)
  obtain ⟨gY, rfl, -, hgY, -⟩ := ho2.at_ 0 (by omega)
  have hgYl := (ho2.lt gY rfl).1
  have hgX0 := (ho1.lt gX rfl).1
  have hne : gX ≠ gY := by omega
  rw [hXl] at ho1' ⊢
  rw [hYl] at ho2' ⊢
  have HXl := Lib.hid hXl
  have HYl := Lib.hid hYl
  have HXb := Lib.hid hXb
  have HYb := Lib.hid hYb
  have hq2 := below_chain hbw hbw.size hy2
  replace ho1' : OwnI w2 w0.heap.size (.slice (some ⟨gX, 0, none⟩) 32 cX) X := ho1'
  replace ho2' : OwnI w2 w0.heap.size (.slice (some ⟨gY, 0, none⟩) 32 cY) Y := ho2'.more hy1.size
  clear ho1 ho2 hb1 hb2 hy1 hq HP hd0 NX2 NY2 NX NY L1 L2 hXl hYl hXb hYb
  go_wp2_with fail
  go_loopw [8, 9] (fun cv i wr => ∃ (k c : Nat) (z : List Nat), k ≤ 32 ∧ i = .int .i64 (k : Int) ∧ cv = .int .i64 (c : Int) ∧ z.length = k ∧ (∀ d ∈ z, d < 256) ∧ c ≤ 1 ∧ valL z + 256 ^ k * c = valL (X.take k) + valL (Y.take k) ∧ OwnI wr w0.heap.size (.slice (some ⟨gX, 0, none⟩) 32 cX) (z ++ X.drop k) ∧ OwnI wr w0.heap.size (.slice (some ⟨gY, 0, none⟩) 32 cY) Y ∧ Below w0.heap.size w0 wr)
    (fun _ i _ => 32 - (intOf i).toNat)
  case atStart => exact ⟨0, 0, [], by omega, rfl, rfl, rfl, by simp, by omega, by simp [valL], ho1', ho2', hy2⟩
  case round =>
    clear ho1' ho2' hy2
    obtain ⟨k, c, z, hk, rfl, rfl, hzl, hzb, hc1, hv, hoX, hoY, hb⟩ := hrel
    by_cases hlt : k < 32
    · have i1 : (k : Int) < 32 := by omega
      have i0 : (0 : Int) ≤ (k : Int) := by omega
      have hXk : k < X.length := by have := HXl.out; omega
      have hYk : k < Y.length := by have := HYl.out; omega
      obtain ⟨g', e', hgB, hgs, hcx, hfx, hput⟩ := hoX.put (k := k) (by rw [List.length_append, List.length_drop, hzl]; omega)
      injection e' with e'
      injection e' with e' _ _
      subst e'
      rw [get_mid z X k hzl hXk] at hcx
      obtain ⟨g'', e'', -, -, hcy⟩ := hoY.at_ k hYk
      injection e'' with e''
      injection e'' with e'' _ _
      subst e''
      rw [show Y.getD k 0 = Y[k] by rw [List.getD_eq_getElem?_getD, List.getElem?_eq_getElem hYk]; rfl] at hcy
      have hstep := add_step z X Y k c hzl hXk hYk hv
      have hxb := HXb.out X[k] (List.getElem_mem _)
      have hyb := HYb.out Y[k] (List.getElem_mem _)
      have hput2 := hput ((X[k] + Y[k] + c) % 256)
      rw [set_mid z X k _ hzl hXk] at hput2
      have HPUT := Lib.hid hput2
      have HSTEP := Lib.hid hstep
      have HZB := Lib.hid hzb
      have HY := Lib.hid hoY
      generalize X[k] = a at *
      generalize Y[k] = b at *
      obtain ⟨s, hs⟩ : ∃ s, s = a + b + c := ⟨_, rfl⟩
      rw [← hs] at HPUT HSTEP
      have hs2 : s ≤ 511 := by omega
      have w1' : IntKind.i64.wrap ((a : Int) + (b : Int)) = (a : Int) + (b : Int) := IntWalk.i64_in _ (by omega)
      have w2' : IntKind.i64.wrap ((a : Int) + (b : Int) + (c : Int)) = (a : Int) + (b : Int) + (c : Int) := IntWalk.i64_in _ (by omega)
      have HSS : Hid ((a : Int) + (b : Int) + (c : Int) = (s : Int)) := Lib.hid (by omega)
      clear hput hput2 hstep hzb hoX hoY hv hs
      go_wp2_with fail
      go_quiet (fail)
      clear w1' w2'
      rw [HSS.out]
      have hcx2 : (wr.drewN nq).cell? ⟨gX, k, none⟩ = some (.int .i64 (a : Int)) := hcx
      have hfx2 : (wr.drewN nq).frozen? ⟨gX, k, none⟩ = false := hfx
      have hpn : OwnI ((wr.drewN nq).setCell ⟨gX, k, none⟩ (.int .i64 ((s % 256 : Nat) : Int))) w0.heap.size (.slice (some ⟨gX, 0, none⟩) 32 cX) ((z ++ [s % 256]) ++ X.drop (k + 1)) := HPUT.out
      have hyn : OwnI ((wr.drewN nq).setCell ⟨gX, k, none⟩ (.int .i64 ((s % 256 : Nat) : Int))) w0.heap.size (.slice (some ⟨gY, 0, none⟩) 32 cY) Y := (HY.out.drewN nq).grown (grown_setI _ _ _ _) (.inr (by simp [Value.ownBlock]; omega))
      have hbn : Below w0.heap.size w0 ((wr.drewN nq).setCell ⟨gX, k, none⟩ (.int .i64 ((s % 256 : Nat) : Int))) := (below_drewN' hb nq).setCell (by show w0.heap.size ≤ gX; omega) _
      have HN1 := Lib.hid hpn
      have HN2 := Lib.hid hyn
      have HN3 := Lib.hid hbn
      clear hpn hyn hbn hcx hcy hfx hb
      go_wp2_with fail
      have em : ((s % 256 : Nat) : Int) = (s : Int) % 256 := rfl
      rw [em] at HN1 HN2 HN3
      refine ⟨⟨k + 1, s / 256, z ++ [s % 256], by omega, by go_num, rfl, by rw [List.length_append, hzl]; rfl, ?_, by omega, HSTEP.out, HN1.out, HN2.out, HN3.out⟩, by simp [intOf]; omega⟩
      intro q hq
      rcases List.mem_append.1 hq with hq | hq
      · exact HZB.out q hq
      · simp only [List.mem_cons, List.not_mem_nil, or_false] at hq; subst hq; exact Nat.mod_lt _ (by decide)
    · have i1 : ¬ (k : Int) < 32 := by omega
      obtain rfl : k = 32 := by omega
      rw [List.take_of_length_le (by have := HXl.out; omega), List.take_of_length_le (by have := HYl.out; omega), ← CN.out, ← top_pow] at hv
      rw [List.drop_of_length_le (by have := HXl.out; omega), List.append_nil] at hoX
      have hvz := valL_lt z hzb
      rw [hzl, ← top_pow] at hvz
      have hb0 := HBR.out.below hb hlt2
      have hbz := below_chain hbw hbw.size hb
      by_cases hc0 : c = 0
      · subst hc0
        have HA : Hid (addU x y = (ofN (valL z), true)) := Lib.hid (by
          unfold addU
          rw [if_pos (by omega), show x.nat + y.nat = valL z by omega])
        have hzl2 : Hid (z.length = 32) := Lib.hid hzl
        have hzb2 := Lib.hid hzb
        have e0 : ((0 : Nat) : Int) = 0 := rfl
        rw [e0]
        clear hv hzl hzb hc1 hvz e0
        go_wp2_with fail
        refine (rshort_any _ 32 cX w0.heap.size z wr hoX hzl2.out hzb2.out).mono ?_
        rintro e w5 ⟨rfl, hb5⟩
        have hb05 := hb0.below hb5 hb0.lt
        obtain ⟨d0, d1, d2, d3⟩ := hb05.all
        have f0 := hb05.free 0
        have f1 := hb05.free 1
        have f2 := hb05.free 2
        have f3 := hb05.free 3
        have BB := Lib.hid (below_chain hbz hbz.size hb5)
        obtain ⟨r, hr⟩ : ∃ r, r = ofN (valL z) := ⟨_, rfl⟩
        rw [← hr] at HA ⊢
        unfold U4.val U4.cells
        clear hr hb0 hb05 hb hbz hb5 hoX hoY
        go_wp2
        refine bodyPost_ret (v := .tuple #[.agg r.cells, .bool true]) ?_ rfl ⟨?_, ?_⟩
        · simp [results, Tryz.results15, go_sem, U4.cells, d0, d1, d2, d3]
        · rw [HA.out]; rfl
        · have hg : w.heap.size ≤ w.heap.size + 1 + 1 := by omega
          exact (((BB.out.setCell hg _).setCell hg _).setCell hg _).setCell hg _
      · have hc1' : c = 1 := by omega
        subst hc1'
        have HA : Hid (addU x y = (U4.zero, false)) := Lib.hid (by
          unfold addU
          rw [if_neg (by omega)])
        obtain ⟨d0, d1, d2, d3⟩ := hb0.all
        have f0 := hb0.free 0
        have f1 := hb0.free 1
        have f2 := hb0.free 2
        have f3 := hb0.free 3
        have BB := Lib.hid hbz
        have e0 : ((1 : Nat) : Int) = 1 := rfl
        rw [e0]
        clear hv hzl hzb hc1 hvz e0 hb0 hb hbz hoX hoY
        go_wp2
        refine bodyPost_ret (v := .tuple #[.agg U4.zero.cells, .bool false]) ?_ rfl ⟨?_, ?_⟩
        · simp [results, Tryz.results15, go_sem, U4.cells, U4.zero, d0, d1, d2, d3]
        · rw [HA.out]; rfl
        · have hg : w.heap.size ≤ w.heap.size + 1 + 1 := by omega
          exact (((BB.out.setCell hg _).setCell hg _).setCell hg _).setCell hg _
end Go.Proofs.YtniclaapiabmdaaGreatDoor
namespace Go.Proofs.YtniclaapiabmdaaGreatDoor
set_option maxRecDepth 100000
open Go Go.RowKit

set_option maxHeartbeats 4000000 in
set_option maxRecDepth 100000 in
theorem rsub_any (x y : U4) (w : World) (hx : x.ok) (hy : y.ok) : Calls Tryz.prog 16 #[x.val, y.val] w fun e w' => e = .returned (.tuple #[(subU x y).1.val, .bool (subU x y).2]) ∧ Below w.heap.size w w' := by
  have LC := Lib.hid (fun W : World => rcmp_any x y W hx hy)
  have L1 := Lib.hid (fun W : World => rlong_any x W hx)
  have L2 := Lib.hid (fun W : World => rlong_any y W hy)
  have NX := Lib.hid (nat_long hx)
  have NY := Lib.hid (nat_long hy)
  unfold U4.val U4.cells at L1 L2 LC
  unfold U4.val
  obtain ⟨hb0, hb1, hbr, hbw⟩ := three' w x.cells y.cells #[.int .u64 0, .int .u64 0, .int .u64 0, .int .u64 0]
  have hlt0 := hb0.lt
  have hlt1 := hb1.lt
  have hlt2 := hbr.lt
  have a0 := hb0.all
  have a1 := hb1.all
  unfold U4.cells at a0 a1 hbw hlt0 hlt1 hlt2 hbr ⊢
  go_enter Tryz.func16, Tryz.ntmps16
  go_wp2_with fail
  generalize ((w.alloc (.cells #[.int .u64 (x.a : Int), .int .u64 (x.b : Int), .int .u64 (x.c : Int), .int .u64 (x.d : Int)] 25)).alloc (.cells #[.int .u64 (y.a : Int), .int .u64 (y.b : Int), .int .u64 (y.c : Int), .int .u64 (y.d : Int)] 25)).alloc (.cells #[.int .u64 0, .int .u64 0, .int .u64 0, .int .u64 0] 25) = w0 at *
  have HBR : Hid (LBlk w0 (w.heap.size + 1 + 1) U4.zero.cells) := Lib.hid hbr
  clear hbr
  have HP : Hid (∀ W : World, Below w0.heap.size w0 W → (W.cell? ⟨w.heap.size, 0, none⟩ = some (.int .u64 (x.a : Int)) ∧ W.cell? ⟨w.heap.size, 1, none⟩ = some (.int .u64 (x.b : Int)) ∧ W.cell? ⟨w.heap.size, 2, none⟩ = some (.int .u64 (x.c : Int)) ∧ W.cell? ⟨w.heap.size, 3, none⟩ = some (.int .u64 (x.d : Int))) ∧
      W.cell? ⟨w.heap.size + 1, 0, none⟩ = some (.int .u64 (y.a : Int)) ∧ W.cell? ⟨w.heap.size + 1, 1, none⟩ = some (.int .u64 (y.b : Int)) ∧ W.cell? ⟨w.heap.size + 1, 2, none⟩ = some (.int .u64 (y.c : Int)) ∧ W.cell? ⟨w.heap.size + 1, 3, none⟩ = some (.int .u64 (y.d : Int))) := Lib.hid (fun W h =>
    ⟨⟨(h.cell (p := ⟨w.heap.size, 0, none⟩) hlt0).trans a0.1, (h.cell (p := ⟨w.heap.size, 1, none⟩) hlt0).trans a0.2.1, (h.cell (p := ⟨w.heap.size, 2, none⟩) hlt0).trans a0.2.2.1, (h.cell (p := ⟨w.heap.size, 3, none⟩) hlt0).trans a0.2.2.2⟩,
      (h.cell (p := ⟨w.heap.size + 1, 0, none⟩) hlt1).trans a1.1, (h.cell (p := ⟨w.heap.size + 1, 1, none⟩) hlt1).trans a1.2.1, (h.cell (p := ⟨w.heap.size + 1, 2, none⟩) hlt1).trans a1.2.2.1, (h.cell (p := ⟨w.heap.size + 1, 3, none⟩) hlt1).trans a1.2.2.2⟩)
  clear hb0 hb1 a0 a1
  refine (LC.out _).mono ?_
  rintro e wc ⟨rfl, hbc⟩
  have hwc := below_chain hbw hbw.size hbc
  by_cases hlt' : x.nat < y.nat
  · have hcn : cmpN x.nat y.nat = -1 := by unfold cmpN; rw [if_neg (by omega), if_neg (by omega)]
    rw [hcn]
    have HA : Hid (subU x y = (U4.zero, false)) := Lib.hid (by unfold subU; rw [if_neg (by omega)])
    have hb0 := HBR.out.below hbc hlt2
    obtain ⟨d0, d1, d2, d3⟩ := hb0.all
    have f0 := hb0.free 0
    have f1 := hb0.free 1
    have f2 := hb0.free 2
    have f3 := hb0.free 3
    have BB := Lib.hid hwc
    clear hcn hb0 hbc hwc HP hlt0 hlt1 hlt2 hbw hlt'
    go_wp2
    refine bodyPost_ret (v := .tuple #[.agg U4.zero.cells, .bool false]) ?_ rfl ⟨?_, ?_⟩
    · simp [results, Tryz.results16, go_sem, U4.cells, U4.zero, d0, d1, d2, d3]
    · rw [HA.out]; rfl
    · have hg : w.heap.size ≤ w.heap.size + 1 + 1 := by omega
      exact (((BB.out.setCell hg _).setCell hg _).setCell hg _).setCell hg _
  have HGE := Lib.hid hlt'
  have hcn : (cmpN x.nat y.nat) = 0 ∨ (cmpN x.nat y.nat) = 1 := by
    unfold cmpN
    by_cases e : x.nat = y.nat
    · rw [if_pos e]; exact .inl rfl
    · rw [if_neg e, if_pos (by omega)]; exact .inr rfl
  have hcc : decide (cmpN x.nat y.nat < 0) = false := by simp; omega
  generalize cmpN x.nat y.nat = cm at *
  clear hcn hlt'
  go_wp2_with fail
  have hd0 : Below w0.heap.size w0 wc.drew := hbc.drew
  clear hcc
  go_region_held_law (fun W => (W.cell? ⟨w.heap.size, 0, none⟩ = some (.int .u64 (x.a : Int)) ∧ W.cell? ⟨w.heap.size, 1, none⟩ = some (.int .u64 (x.b : Int)) ∧ W.cell? ⟨w.heap.size, 2, none⟩ = some (.int .u64 (x.c : Int)) ∧ W.cell? ⟨w.heap.size, 3, none⟩ = some (.int .u64 (x.d : Int))) ∧
      W.cell? ⟨w.heap.size + 1, 0, none⟩ = some (.int .u64 (y.a : Int)) ∧ W.cell? ⟨w.heap.size + 1, 1, none⟩ = some (.int .u64 (y.b : Int)) ∧ W.cell? ⟨w.heap.size + 1, 2, none⟩ = some (.int .u64 (y.c : Int)) ∧ W.cell? ⟨w.heap.size + 1, 3, none⟩ = some (.int .u64 (y.d : Int)))
    (first | exact HP.out _ hy2 | exact HP.out _ hy1 | exact HP.out _ hd0)
    ((go_at_call 48; first
      | (have hq := hy1; refine (L2.out _).mono ?_; rintro e w2 ⟨v2, rfl, ho2, hb2⟩; have hy2 := below_chain hy1 hy1.size hb2)
      | (refine (L1.out _).mono ?_; rintro e w1 ⟨v1, rfl, ho1, hb1⟩; have hy1 := below_chain hd0 hd0.size hb1)))
  have hXl := byL_length x.nat 32
  have hYl := byL_length y.nat 32
  have hXb := byL_lt x.nat 32
  have hYb := byL_lt y.nat 32
  have NX2 := NX.out
  have NY2 := NY.out
  have ho1' := ho1.up hb2
  have ho2' := ho2
  generalize byL x.nat 32 = X at *
  generalize byL y.nat 32 = Y at *
  have CN : Hid (x.nat = valL X ∧ y.nat = valL Y) := Lib.hid ⟨NX2.symm, NY2.symm⟩
  obtain ⟨AX, cX, rfl⟩ := ho1.form
  obtain ⟨AY, cY, rfl⟩ := ho2.form
  obtain ⟨gX, rfl, -, hgX, -⟩ := ho1.at_ 0 (by omega)
  obtain ⟨gY, rfl, -, hgY, -⟩ := ho2.at_ 0 (by omega)
  have hgYl := (ho2.lt gY rfl).1
  have hgX0 := (ho1.lt gX rfl).1
  have hne : gX ≠ gY := by omega
  rw [hXl] at ho1' ⊢
  rw [hYl] at ho2' ⊢
  have HXl := Lib.hid hXl
  have HYl := Lib.hid hYl
  have HXb := Lib.hid hXb
  have HYb := Lib.hid hYb
  have hq2 := below_chain hbw hbw.size hy2
  replace ho1' : OwnI w2 w0.heap.size (.slice (some ⟨gX, 0, none⟩) 32 cX) X := ho1'.more hbc.size
  replace ho2' : OwnI w2 w0.heap.size (.slice (some ⟨gY, 0, none⟩) 32 cY) Y := ho2'.more hy1.size
  clear ho1 ho2 hb1 hb2 hy1 hq HP hd0 NX2 NY2 NX NY L1 L2 hXl hYl hXb hYb
  go_wp2_with fail
  go_loopw [8, 9] (fun cv i wr => ∃ (k c : Nat) (z : List Nat), k ≤ 32 ∧ i = .int .i64 (k : Int) ∧ cv = .int .i64 (c : Int) ∧ z.length = k ∧ (∀ d ∈ z, d < 256) ∧ c ≤ 1 ∧ valL z + valL (Y.take k) = valL (X.take k) + 256 ^ k * c ∧ OwnI wr w0.heap.size (.slice (some ⟨gX, 0, none⟩) 32 cX) (z ++ X.drop k) ∧ OwnI wr w0.heap.size (.slice (some ⟨gY, 0, none⟩) 32 cY) Y ∧ Below w0.heap.size w0 wr)
    (fun _ i _ => 32 - (intOf i).toNat)
  case atStart => exact ⟨0, 0, [], by omega, rfl, rfl, rfl, by simp, by omega, by simp [valL], ho1', ho2', hy2⟩
  case round =>
    clear ho1' ho2' hy2
    obtain ⟨k, c, z, hk, rfl, rfl, hzl, hzb, hc1, hv, hoX, hoY, hb⟩ := hrel
    by_cases hlt : k < 32
    · have i1 : (k : Int) < 32 := by omega
      have i0 : (0 : Int) ≤ (k : Int) := by omega
      have hXk : k < X.length := by have := HXl.out; omega
      have hYk : k < Y.length := by have := HYl.out; omega
      obtain ⟨g', e', hgB, hgs, hcx, hfx, hput⟩ := hoX.put (k := k) (by rw [List.length_append, List.length_drop, hzl]; omega)
      injection e' with e'
      injection e' with e' _ _
      subst e'
      rw [get_mid z X k hzl hXk] at hcx
      obtain ⟨g'', e'', -, -, hcy⟩ := hoY.at_ k hYk
      injection e'' with e''
      injection e'' with e'' _ _
      subst e''
      rw [show Y.getD k 0 = Y[k] by rw [List.getD_eq_getElem?_getD, List.getElem?_eq_getElem hYk]; rfl] at hcy
      have hxb := HXb.out X[k] (List.getElem_mem _)
      have hyb := HYb.out Y[k] (List.getElem_mem _)
      have HST := Lib.hid (fun (d b' : Nat) (hd : d + Y[k] + c = X[k] + 256 * b') => sub_step z X Y k c d b' hzl hXk hYk hv hd)
      have HPUT : Hid (∀ d : Nat, OwnI (wr.setCell ⟨gX, k, none⟩ (.int .i64 (d : Int))) w0.heap.size (.slice (some ⟨gX, 0, none⟩) 32 cX) ((z ++ [d]) ++ X.drop (k + 1))) := Lib.hid (fun d => by have h := hput d; rw [set_mid z X k _ hzl hXk] at h; exact h)
      have HZB := Lib.hid hzb
      have HY := Lib.hid hoY
      generalize X[k] = a at *
      generalize Y[k] = b at *
      have w1' : IntKind.i64.wrap ((a : Int) - (b : Int)) = (a : Int) - (b : Int) := IntWalk.i64_in _ (by omega)
      have w2' : IntKind.i64.wrap ((a : Int) - (b : Int) - (c : Int)) = (a : Int) - (b : Int) - (c : Int) := IntWalk.i64_in _ (by omega)
      clear hput hzb hoX hoY hv
      by_cases hneg : a < b + c
      · obtain ⟨d, hd⟩ : ∃ d, d + b + c = a + 256 := ⟨a + 256 - b - c, by omega⟩
        have hd256 : d < 256 := by omega
        have HSTEP := Lib.hid (HST.out d 1 (by omega))
        have g1 : (a : Int) - (b : Int) - (c : Int) < 0 := by omega
        have HSS : Hid ((a : Int) - (b : Int) - (c : Int) + 256 = (d : Int)) := Lib.hid (by omega)
        go_wp2_with fail
        go_quiet (fail)
        clear w1' w2'
        have hcx2 : (wr.drewN nq).cell? ⟨gX, k, none⟩ = some (.int .i64 (a : Int)) := hcx
        have hfx2 : (wr.drewN nq).frozen? ⟨gX, k, none⟩ = false := hfx
        have HN1 : Hid (OwnI ((wr.drewN nq).setCell ⟨gX, k, none⟩ (.int .i64 ((a : Int) - (b : Int) - (c : Int) + 256))) w0.heap.size (.slice (some ⟨gX, 0, none⟩) 32 cX) ((z ++ [d]) ++ X.drop (k + 1))) := Lib.hid (by rw [HSS.out]; exact HPUT.out d)
        have HN2 : Hid (OwnI ((wr.drewN nq).setCell ⟨gX, k, none⟩ (.int .i64 ((a : Int) - (b : Int) - (c : Int) + 256))) w0.heap.size (.slice (some ⟨gY, 0, none⟩) 32 cY) Y) := Lib.hid ((HY.out.drewN nq).grown (grown_setI _ _ _ _) (.inr (by simp [Value.ownBlock]; omega)))
        have HN3 : Hid (Below w0.heap.size w0 ((wr.drewN nq).setCell ⟨gX, k, none⟩ (.int .i64 ((a : Int) - (b : Int) - (c : Int) + 256)))) := Lib.hid ((below_drewN' hb nq).setCell (by show w0.heap.size ≤ gX; omega) _)
        clear hcx hcy hfx hb
        go_wp2_with fail
        refine ⟨⟨k + 1, 1, z ++ [d], by omega, by go_num, rfl, by rw [List.length_append, hzl]; rfl, ?_, by omega, HSTEP.out, HN1.out, HN2.out, HN3.out⟩, by simp [intOf]; omega⟩
        intro q hq
        rcases List.mem_append.1 hq with hq | hq
        · exact HZB.out q hq
        · simp only [List.mem_cons, List.not_mem_nil, or_false] at hq; subst hq; exact hd256
      · obtain ⟨d, hd⟩ : ∃ d, d + b + c = a := ⟨a - b - c, by omega⟩
        have hd256 : d < 256 := by omega
        have HSTEP := Lib.hid (HST.out d 0 (by omega))
        have g1 : ¬ (a : Int) - (b : Int) - (c : Int) < 0 := by omega
        have HSS : Hid ((a : Int) - (b : Int) - (c : Int) = (d : Int)) := Lib.hid (by omega)
        go_wp2_with fail
        go_quiet (fail)
        clear w1' w2'
        have hcx2 : (wr.drewN nq).cell? ⟨gX, k, none⟩ = some (.int .i64 (a : Int)) := hcx
        have hfx2 : (wr.drewN nq).frozen? ⟨gX, k, none⟩ = false := hfx
        have HN1 : Hid (OwnI ((wr.drewN nq).setCell ⟨gX, k, none⟩ (.int .i64 ((a : Int) - (b : Int) - (c : Int)))) w0.heap.size (.slice (some ⟨gX, 0, none⟩) 32 cX) ((z ++ [d]) ++ X.drop (k + 1))) := Lib.hid (by rw [HSS.out]; exact HPUT.out d)
        have HN2 : Hid (OwnI ((wr.drewN nq).setCell ⟨gX, k, none⟩ (.int .i64 ((a : Int) - (b : Int) - (c : Int)))) w0.heap.size (.slice (some ⟨gY, 0, none⟩) 32 cY) Y) := Lib.hid ((HY.out.drewN nq).grown (grown_setI _ _ _ _) (.inr (by simp [Value.ownBlock]; omega)))
        have HN3 : Hid (Below w0.heap.size w0 ((wr.drewN nq).setCell ⟨gX, k, none⟩ (.int .i64 ((a : Int) - (b : Int) - (c : Int))))) := Lib.hid ((below_drewN' hb nq).setCell (by show w0.heap.size ≤ gX; omega) _)
        clear hcx hcy hfx hb
        go_wp2_with fail
        refine ⟨⟨k + 1, 0, z ++ [d], by omega, by go_num, rfl, by rw [List.length_append, hzl]; rfl, ?_, by omega, HSTEP.out, HN1.out, HN2.out, HN3.out⟩, by simp [intOf]; omega⟩
        intro q hq
        rcases List.mem_append.1 hq with hq | hq
        · exact HZB.out q hq
        · simp only [List.mem_cons, List.not_mem_nil, or_false] at hq; subst hq; exact hd256
    · have i1 : ¬ (k : Int) < 32 := by omega
      obtain rfl : k = 32 := by omega
      rw [List.take_of_length_le (by have := HYl.out; omega), List.take_of_length_le (by have := HXl.out; omega), ← top_pow] at hv
      rw [List.drop_of_length_le (by have := HXl.out; omega), List.append_nil] at hoX
      have hvz := valL_lt z hzb
      rw [hzl, ← top_pow] at hvz
      have hb0 := HBR.out.below hb hlt2
      have hbz := below_chain hbw hbw.size hb
      have hge := HGE.out
      obtain ⟨cn1, cn2⟩ := CN.out
      have HA : Hid (subU x y = (ofN (valL z), true)) := Lib.hid (by
        have hc0 : c = 0 := by
          rcases Nat.lt_or_ge 0 c with h | h
          · have : c = 1 := by omega
            subst this
            omega
          · omega
        subst hc0
        unfold subU
        rw [if_pos (by omega), show x.nat - y.nat = valL z by omega])
      have hzl2 : Hid (z.length = 32) := Lib.hid hzl
      have hzb2 := Lib.hid hzb
      clear hv hzl hzb hc1 hvz hge cn1 cn2
      go_wp2_with fail
      refine (rshort_any _ 32 cX w0.heap.size z wr hoX hzl2.out hzb2.out).mono ?_
      rintro e w5 ⟨rfl, hb5⟩
      have hb05 := hb0.below hb5 hb0.lt
      obtain ⟨d0, d1, d2, d3⟩ := hb05.all
      have f0 := hb05.free 0
      have f1 := hb05.free 1
      have f2 := hb05.free 2
      have f3 := hb05.free 3
      have BB := Lib.hid (below_chain hbz hbz.size hb5)
      obtain ⟨r, hr⟩ : ∃ r, r = ofN (valL z) := ⟨_, rfl⟩
      rw [← hr] at HA ⊢
      unfold U4.val U4.cells
      clear hr hb0 hb05 hb hbz hb5 hoX hoY
      go_wp2
      refine bodyPost_ret (v := .tuple #[.agg r.cells, .bool true]) ?_ rfl ⟨?_, ?_⟩
      · simp [results, Tryz.results16, go_sem, U4.cells, d0, d1, d2, d3]
      · rw [HA.out]; rfl
      · have hg : w.heap.size ≤ w.heap.size + 1 + 1 := by omega
        exact (((BB.out.setCell hg _).setCell hg _).setCell hg _).setCell hg _
end Go.Proofs.YtniclaapiabmdaaGreatDoor
