
/- What a branch says is written to its parent. -/
import Derived.Test.YtaafaaoioleokaaGreatDoorPrX
import Derived.Test.YtaafaaoioleokaaGreatDoorStoM0
import Derived.Test.YtaafaaoioleokaaGreatDoorInfo0
import Derived.Test.YtaafaaoioleokaaGreatDoorStoA1
import Derived.Deep.LoopGhost
import Derived.Deep.RegionHeldLaw
import Derived.StillTailTactics
namespace Go.Proofs.YtaafaaoioleokaaGreatDoor
set_option maxRecDepth 100000
open Go Go.RowKit
set_option linter.unusedVariables false

/-- what a change of a branch is in its parent: in the lowest store, 'gone' is nothing -/
def wrC (bot : Bool) (x : Option (List UInt8)) : Option (Option (List UInt8)) := if bot = true ∧ x = none then none else some x
/-- what a parent says of a key when a branch with f has been written -/
def wrF (bot : Bool) (f h : LF) (left : ByteArray → Bool) : LF := fun s => if left s = true then h s else match f s with | none => h s | some x => wrC bot x
theorem wrF_other {bot : Bool} {f h : LF} {left : ByteArray → Bool} {x s : ByteArray} (e : s ≠ x) : wrF bot f h (fun s => left s && !decide (s = x)) s = wrF bot f h left s := by
  unfold wrF; simp [e]
theorem wrF_here {bot : Bool} {f h : LF} {left : ByteArray → Bool} {x : ByteArray} {v : Option (List UInt8)} (e : f x = some v) : wrF bot f h (fun s => left s && !decide (s = x)) x = wrC bot v := by
  unfold wrF; simp [e]
/-- in the midst of writing a branch -/
structure WrS (w : World) (y z : Lyr) (l : List Lyr) (g : ByteArray → Option Value) (it : Nat) (left : ByteArray → Bool) (cnt : Nat) (left' : ByteArray → Bool) (cnt' : Nat) (n : Nat) (f : LF) (W : World) : Prop where
  it_ge : w.heap.size ≤ it
  hp0 : PileS w (y :: z :: l)
  hs : SaysF w g y.f
  hr : RangeS Tryz.prog 9 W y.m it y.n g left cnt
  hp : PileS W (⟨z.b, z.m, n, f⟩ :: l)
  hf : ∀ s : ByteArray, s.size ≤ maxLen → f s = wrF l.isEmpty y.f z.f left' s
  hn : n + cnt' ≤ z.n + y.n
  hc : Chg w W (fun k => k = z.m)
section
variable {w W W' : World} {y z : Lyr} {l : List Lyr} {g : ByteArray → Option Value} {it : Nat} {left left' : ByteArray → Bool} {cnt cnt' n : Nat} {f : LF}
theorem WrS.maps (h : WrS w y z l g it left cnt left' cnt' n f W) : AllMaps w (fun k => k = z.m) := h.hp0.2.2.1.maps
theorem WrS.up (h : WrS w y z l g it left cnt left' cnt' n f W) (hb : Below W.heap.size W W') : WrS w y z l g it left cnt left' cnt' n f W' where
  it_ge := h.it_ge
  hp0 := h.hp0
  hs := h.hs
  hr := h.hr.kept (below_grown hb none) (by simp) (by simp)
  hp := h.hp.up hb
  hf := h.hf
  hn := h.hn
  hc := h.hc.trans' (.of_below hb _)
theorem Rd.off {w w' : World} {B : Nat} {v : Value} {b : List UInt8} (h : Rd w B v b) {i : Nat} (hg : w.grownBy w' (some i)) (hB : B ≤ w.heap.size) (hi : NoRow w i) : Rd w' B v b := by
  obtain ⟨A, c, rfl, hc, hm, hp⟩ := h
  refine ⟨A, c, rfl, hc, hm, fun h0 => ?_⟩
  obtain ⟨b', o, rfl, hlt, hcell⟩ := hp h0
  refine ⟨b', o, rfl, hlt, fun j hj => ?_⟩
  have hc := hcell j hj
  have hne : some b' ≠ some i := by
    intro e
    injection e with e
    subst e
    unfold World.cell? at hc
    cases hh : w.heap[b']? with
    | none => simp [hh] at hc
    | some o =>
      cases o with
      | cells cs t fr => exact hi _ _ _ hh
      | _ => simp [hh] at hc
  rw [World.cell?_of_block (a := ⟨b', o + j, none⟩) (hg.block b' (by omega) hne)]
  exact hc
end

section
variable {y : Lyr} {g : ByteArray → Option Value} {left : ByteArray → Bool} {cnt : Nat}
/-- block i is neither a row nor a map: an iterator -/
def Idle (w : World) (i : Nat) : Prop := NoRow w i ∧ ∀ es c, w.heap[i]? ≠ some (.map es c)
theorem RangeS.idle {w : World} {m r n : Nat} (h : RangeS Tryz.prog 9 w m r n g left cnt) : Idle w r := by
  refine ⟨h.noRow, fun es c e => ?_⟩
  obtain ⟨D, lf, h1, _⟩ := h
  obtain ⟨_, _, _, _, _, _, _, _, _, hit, _⟩ := h1
  rw [hit] at e; cases e
variable {w w' : World} {i : Nat}
theorem LayS.off {p : Value} (h : LayS w y p) (hg : w.grownBy w' (some i)) (hi : Idle w i) : LayS w' y p := by
  have hb : some y.b ≠ some i := fun e => by injection e with e; subst e; exact hi.1 _ _ _ h.cells
  obtain ⟨g, h1, h2⟩ := h.own
  have hm : ¬ y.m = i := fun e => by
    obtain ⟨es, c, e'⟩ := h1.isMap
    rw [e] at e'; exact hi.2 _ _ e'
  refine ⟨(hg.block _ h.lt.1 hb).trans h.cells, ⟨g, h1.chg (F := fun k => k = i) (.of_grown hg fun k e => (Option.some.inj e).symm) hm, fun s hs => ?_⟩, h.ok⟩
  rcases h2 s hs with q | ⟨e, x, q1, q2, q3⟩
  · exact .inl q
  · refine .inr ⟨e, x, q1, q2, ?_⟩
    cases x with
    | none => exact q3
    | some l =>
      obtain ⟨sl, r1, r2⟩ := q3
      exact ⟨sl, r1, (r2.off hg (Nat.le_refl _) hi.1).more hg.size⟩
theorem PileS.off {l : List Lyr} (h : PileS w l) (hg : w.grownBy w' (some i)) (hi : Idle w i) : PileS w' l := by
  induction l with
  | nil => trivial
  | cons y l ih =>
    obtain ⟨h1, h2, h3⟩ := h
    exact ⟨h1.off hg hi, h2, ih h3⟩
end
section
variable {w W W' : World} {y z : Lyr} {l : List Lyr} {g : ByteArray → Option Value} {it : Nat} {left left' : ByteArray → Bool} {cnt cnt' n : Nat} {f : LF}
theorem WrS.next (h : WrS w y z l g it left cnt left' cnt' n f W) {lR : ByteArray → Bool} {cR : Nat} (hr : RangeS Tryz.prog 9 W' y.m it y.n g lR cR) (hg : W.grownBy W' (some it)) : WrS w y z l g it lR cR left' cnt' n f W' where
  it_ge := h.it_ge
  hp0 := h.hp0
  hs := h.hs
  hr := hr
  hp := h.hp.off hg h.hr.idle
  hf := h.hf
  hn := h.hn
  hc := h.hc.trans (.of_grown hg fun k e => .inr ⟨by injection e; have := h.it_ge; omega, by injection e; have := h.hr.lt; omega⟩)
theorem WrS.ne (h : WrS w y z l g it left cnt left' cnt' n f W) : z.m ≠ y.m := h.hp0.2.1 z (by simp)
theorem WrS.turn (h : WrS w y z l g it left cnt left' cnt' n f W) {x : ByteArray} {v : Option (List UInt8)} {c : Nat} (hx : y.f x = some v) (hcl : c < cnt') {n2 : Nat} {f2 : LF} (hp : PileS W' (⟨z.b, z.m, n2, f2⟩ :: l)) (hf2 : ∀ s, f2 s = if s = x then wrC l.isEmpty v else f s) (hn2 : n2 ≤ n + 1) (hc : Chg W W' (fun k => k = z.m)) :
    WrS w y z l g it left cnt (fun s => left' s && !decide (s = x)) c n2 f2 W' where
  it_ge := h.it_ge
  hp0 := h.hp0
  hs := h.hs
  hr := by
    have hz := h.ne
    have hlt := h.hp0.2.2.1.lt.2
    refine h.hr.kept (row := some z.m) ⟨hc.os, hc.tape, hc.output, hc.size, fun k hk hn => hc.block k hk fun e => hn (by rw [e])⟩ (fun e => hz (Option.some.inj e).symm) (fun e => ?_)
    have := h.it_ge
    injection e with e
    omega
  hp := hp
  hf := by
    intro s hs
    rw [hf2]
    by_cases e : s = x
    · subst e
      rw [if_pos rfl, wrF_here hx]
    · rw [if_neg e, wrF_other e, h.hf s hs]
  hn := by have := h.hn; omega
  hc := h.hc.trans' hc
end
end Go.Proofs.YtaafaaoioleokaaGreatDoor
namespace Go.Proofs.YtaafaaoioleokaaGreatDoor
set_option maxRecDepth 100000
open Go Go.RowKit
set_option linter.unusedVariables false

theorem wrC_some (bot : Bool) (l : List UInt8) : wrC bot (some l) = some (some l) := by unfold wrC; rw [if_neg (by simp)]
set_option maxHeartbeats 8000000 in
theorem write_any {w : World} {y z : Lyr} {l : List Lyr} (h : PileS w (y :: z :: l)) (hn : z.n + y.n < maxLen) :
    Calls Tryz.prog 61 #[.pointer (some ⟨y.b, 0, none⟩)] w fun e w' => e = .returned (.tuple #[]) ∧ ∃ n f, PileS w' (⟨y.b, y.m, 0, fun _ => none⟩ :: ⟨z.b, z.m, n, f⟩ :: l) ∧ n ≤ z.n + y.n ∧ (∀ s : ByteArray, s.size ≤ maxLen → f s = wrF l.isEmpty y.f z.f (fun _ => false) s) ∧ Chg w w' (fun k => k = z.m ∨ k = y.m) := by
  have hS := sound_yes h.1
  have hS2 := sound_yes h.2.2.1
  have c1 : w.cell? ⟨y.b, 1, none⟩ = some (.pointer (some ⟨z.b, 0, none⟩)) := blk_cell h.1.cells 1
  have c2 : w.cell? ⟨y.b, 2, none⟩ = some (.map (some y.m)) := blk_cell h.1.cells 2
  obtain ⟨g, hm, hs⟩ := h.1.own
  have HH := Lib.hid h
  have HS := Lib.hid hs
  clear h hs
  go_enter Tryz.func61, Tryz.ntmps61
  go_wp2_with fail
  refine hS.mono ?_
  rintro e w1 ⟨rfl, rfl⟩
  go_wp2_with fail
  refine hS2.mono ?_
  rintro e w1 ⟨rfl, rfl⟩
  go_wp2_with (at_range; refine wpList_range_s _ rfl _ 116 rfl _ _ Tryz.isString Tryz.underlying116 y.m y.n g rfl hm ?_; intro W0 cnt hcn hrg0 hg0 hs0)
  go_frame
  have HI0 : Hid (WrS w y z l g w.heap.size (fun s => (g s).isSome) cnt (fun s => (g s).isSome) cnt z.n z.f W0) := Lib.hid (by
    have hb : Below w.heap.size w W0 := ⟨hg0.os, hg0.tape, hg0.output, hg0.size, fun k hk => hg0.block k hk (by simp)⟩
    refine ⟨Nat.le_refl _, HH.out, HS.out, hrg0, (HH.out.2.2.up hb), fun s hs => ?_, by omega, .of_below hb _⟩
    unfold wrF
    rcases HS.out s hs with ⟨k1, k2⟩ | ⟨e, x, k1, k2, _⟩
    · simp [k1, k2]
    · simp [k1])
  clear hrg0 hg0 hs0 hm c1 c2 hS hS2
  go_loopw [2] (fun _ Z => ∃ left cnt n f, WrS w y z l g w.heap.size left cnt left cnt n f Z) (fun _ Z => Z.rangeLeft y.m w.heap.size)
  case atStart => exact ⟨_, _, _, _, HI0.out⟩
  case round =>
    rename World => Z
    clear HI0
    obtain ⟨left, cnt, n, f, hI⟩ := hrel
    have hrZ := hI.hr
    have HI := Lib.hid hI
    have hyb : ¬ y.b = z.m := fun e => by
      obtain ⟨es, c, e'⟩ := hI.hp0.2.2.1.maps z.m rfl
      rw [← e, hI.hp0.1.cells] at e'; cases e'
    have hyblt := hI.hp0.1.lt.1
    clear hI
    go_wp2_with (at_next; refine wpList_next_s _ rfl _ rfl _ Tryz.isString y.m w.heap.size y.n g left cnt rfl hrZ ?_ ?_)
    · intro hd
      have c2 : Z.cell? ⟨y.b, 2, none⟩ = some (.map (some y.m)) := (cell_same (p := ⟨y.b, 2, none⟩) (HI.out.hc.block y.b hyblt hyb)).trans (blk_cell HI.out.hp0.1.cells 2)
      have hmZ := hrZ.owns
      go_wp2_with (refine wpList_clear_s _ rfl (.tmp 45) _ _ rfl _ Tryz.underlying116 y.m y.n g rfl hmZ ?_; intro w3 hm3 ht3)
      go_end0
      have hc3 := mapTurned_chg ht3
      have hMaps : AllMaps Z (fun k => k = y.m) := by rintro k rfl; exact hmZ.isMap
      refine ⟨rfl, n, f, ⟨⟨?_, ⟨_, hm3, SaysF.none _⟩, fun s l h => by cases h⟩, ?_, ?_⟩, by have := HI.out.hn; omega, fun s hs => ?_, ?_⟩
      · have hne : ¬ y.b = y.m := HI.out.hp0.ne
        exact (hc3.block y.b (Nat.lt_of_lt_of_le hyblt HI.out.hc.size) hne).trans ((HI.out.hc.block y.b hyblt hyb).trans HI.out.hp0.1.cells)
      · intro q hq
        rcases List.mem_cons.1 hq with rfl | hq
        · exact HI.out.ne
        · exact HI.out.hp0.2.1 q (by simp [hq])
      · refine HI.out.hp.chg hc3 hMaps fun q hq => ?_
        rcases List.mem_cons.1 hq with rfl | hq
        · exact HI.out.ne
        · exact HI.out.hp0.2.1 q (by simp [hq])
      · rw [HI.out.hf s hs]
        unfold wrF
        simp [hd s hs]
      · exact (HI.out.hc.mono fun k _ e => Or.inl e).trans' (hc3.mono fun k _ e => Or.inr e)
    · intro x c Z1 cnt1 hx hl hgx hr1 hlt hg1 hs1 hen
      obtain ⟨sl, gone, lv, rfl, hrd, hfx⟩ : ∃ sl gone lv, c = .agg #[sl, .bool gone] ∧ Rd w w.heap.size sl lv ∧ y.f x = some (if gone = true then none else some lv) := by
        rcases HS.out x hx with ⟨k1, k2⟩ | ⟨e, x', k1, k2, k3⟩
        · rw [hgx] at k1; cases k1
        · obtain rfl : c = e := by rw [hgx] at k1; exact Option.some.inj k1
          cases x' with
          | none => exact ⟨_, true, [], k3, Rd.nil _ _, k2⟩
          | some v =>
            obtain ⟨sl, q1, q2⟩ := k3
            exact ⟨sl, false, v, q1, q2, k2⟩
      have hI1 := HI.out.next hr1 hg1
      have hal : Below Z1.heap.size Z1 (Z1.alloc (.cells #[sl, .bool gone] 115)) := (Below.refl _ _).alloc (Nat.le_refl _) _
      have hI2 := hI1.up hal
      obtain ⟨A, k, rfl⟩ := hrd.form
      have hcs := heap_alloc_new Z1 (.cells #[.slice A lv.length k, .bool gone] 115)
      have d0 : (Z1.alloc (.cells #[.slice A lv.length k, .bool gone] 115)).cell? ⟨Z1.heap.size, 0, none⟩ = some (.slice A lv.length k) := blk_cell hcs 0
      have d1 : (Z1.alloc (.cells #[.slice A lv.length k, .bool gone] 115)).cell? ⟨Z1.heap.size, 1, none⟩ = some (.bool gone) := blk_cell hcs 1
      have c1 : (Z1.alloc (.cells #[.slice A lv.length k, .bool gone] 115)).cell? ⟨y.b, 1, none⟩ = some (.pointer (some ⟨z.b, 0, none⟩)) := (cell_same (p := ⟨y.b, 1, none⟩) (hI2.hc.block y.b hyblt hyb)).trans (blk_cell hI2.hp0.1.cells 1)
      have hn2 : n < maxLen := by have := hI2.hn; omega
      have HF := Lib.hid hfx
      have HR := Lib.hid hrd
      have HL := Lib.hid (And.intro hx (And.intro hl hlt))
      have HI2 := Lib.hid hI2
      cases gone with
      | true =>
        have hD := del_any hI2.hp hn2 x hx
        clear hr1 hg1 hgx hrZ hfx hI1 hI2 hl hlt hs1 hcs d0
        go_wp2_with fail
        refine hD.mono ?_
        rintro e w3 ⟨rfl, hp3, hc3⟩
        go_wp2_with fail
        have h4 : ∃ n2 f2, PileS w3 (⟨z.b, z.m, n2, f2⟩ :: l) ∧ (∀ s, f2 s = if s = x then wrC l.isEmpty none else f s) ∧ n2 ≤ n + 1 := by
          unfold Lyr.del at hp3
          cases l with
          | nil => exact ⟨_, _, hp3, fun s => by simp [wrC], Nat.le_succ _⟩
          | cons a l => exact ⟨_, _, hp3, fun s => by simp [wrC], Nat.le_refl _⟩
        obtain ⟨n2, f2, h5, h6, h7⟩ := h4
        have h8 := HI2.out.turn HF.out HL.out.2.2 h5 h6 h7 hc3
        exact ⟨⟨_, cnt1, _, _, h8⟩, by rw [h8.hr.left_eq, HI.out.hr.left_eq]; exact HL.out.2.2⟩
      | false =>
        have c2 : (Z1.alloc (.cells #[.slice A lv.length k, .bool false] 115)).cell? ⟨z.b, 2, none⟩ = some (.map (some z.m)) := blk_cell hI2.hp.1.cells 2
        obtain ⟨gz, hmz, hsz⟩ := hI2.hp.1.own
        have HSZ := Lib.hid hsz
        clear hr1 hg1 hgx hrZ hfx hI1 hI2 hl hlt hs1 hcs hsz
        go_wp2_with fail
        generalize Z1.alloc (.cells #[.slice A lv.length k, .bool false] 115) = Y at *
        have hYd : Below Y.heap.size Y Y.drew := (Below.refl _ _).drew
        have c1' : Y.drew.cell? ⟨y.b, 1, none⟩ = some (.pointer (some ⟨z.b, 0, none⟩)) := c1
        have c2' : Y.drew.cell? ⟨z.b, 2, none⟩ = some (.map (some z.m)) := c2
        have d0' : Y.drew.cell? ⟨Z1.heap.size, 0, none⟩ = some (.slice A lv.length k) := d0
        have d1' : Y.drew.cell? ⟨Z1.heap.size, 1, none⟩ = some (.bool false) := d1
        have hmz' : MapS Tryz.prog 9 Y.drew z.m n gz := hmz.chg (F := fun _ => False) (Chg.drew Y _) id
        have HI3 := Lib.hid (HI2.out.up hYd)
        have HZ3 : Hid (SaysF Y.drew gz f) := Lib.hid (HSZ.out.chg (F := fun _ => False) (Chg.drew Y _) (fun _ k => k.elim))
        clear hYd hmz
        go_still_tail 9, (by kernel_rfl)
        change wpList _ _ _ _ _ Y.drew
        generalize Y.drew = Y2 at *
        go_wp2_with (at_mapUpdate; refine wpList_store_s _ rfl (.tmp 39) (.tmp 40) (.tmp 41) _ rfl _ _ Tryz.isString Tryz.underlying116 z.m n gz rfl hmz' hn2 x _ rfl rfl hx ?_; intro w3 hm3 ht3; go_frame)
        have hc3 := mapTurned_chg ht3
        have hp3 := HI3.out.hp
        have hE : EntryIs w3 (.agg #[.slice A lv.length k, .bool false]) (some lv) := ⟨_, rfl, by
          have h1 := (HR.out.chg HI3.out.hc HI3.out.maps (Nat.le_refl _)).more HI3.out.hc.size
          exact (h1.chg hc3 hp3.1.maps (Nat.le_refl _)).more hc3.size⟩
        have hok : keyB x = true ∧ lv.length ≤ 65535 := HH.out.1.ok x lv (by rw [HF.out]; rfl)
        have h5 := hp3.turned hc3 hm3 ((HZ3.out.chg hc3 hp3.1.maps).put x hE) (hp3.1.ok.put x (some lv) fun v e => by injection e with e; subst e; exact hok)
        have h8 := HI3.out.turn (f2 := fun s => if s = x then some (some lv) else f s) (v := some lv) HF.out HL.out.2.2 h5 (fun s => by rw [wrC_some]) (Nat.le_refl _) hc3
        exact ⟨⟨_, cnt1, _, _, h8⟩, by rw [h8.hr.left_eq, HI.out.hr.left_eq]; exact HL.out.2.2⟩
end Go.Proofs.YtaafaaoioleokaaGreatDoor
