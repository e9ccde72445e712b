
/- The walks of package vals: Header, HashOf; and of the document's. -/
import Derived.Test.YtmphegeiclgjbaaGreatDoorValB
import Derived.Test.YtmphegeiclgjbaaGreatDoorWireDoc0
import Derived.Deep.RegionHeldLaw
namespace Go.Proofs.YtmphegeiclgjbaaGreatDoor
set_option maxRecDepth 100000
open Go Go.RowKit

/-- a header as it is handed about -/
structure HV where
  chain : ByteArray
  height : Nat
  time : Nat
  vrA : Option Addr
  vrC : Nat
  vvA : Option Addr
  vvC : Nat
  vnA : Option Addr
  vnC : Nat
  root : List UInt8
  vals : List UInt8
  next : List UInt8
def HV.cells (h : HV) : Array Value := #[.string h.chain, .int .u64 (h.height : Int), .int .u64 (h.time : Int), .slice h.vrA h.root.length h.vrC, .slice h.vvA h.vals.length h.vvC, .slice h.vnA h.next.length h.vnC]
structure HV.at (h : HV) (w : World) : Prop where
  c : h.chain.size ≤ maxLen
  h1 : h.height < 18446744073709551616
  h2 : h.time < 18446744073709551616
  r : Rd w w.heap.size (.slice h.vrA h.root.length h.vrC) h.root
  v : Rd w w.heap.size (.slice h.vvA h.vals.length h.vvC) h.vals
  n : Rd w w.heap.size (.slice h.vnA h.next.length h.vnC) h.next
theorem HV.at.up {h : HV} {w w' : World} (a : h.at w) (hb : Below w.heap.size w w') : h.at w' :=
  ⟨a.c, a.h1, a.h2, a.r.up (Nat.le_refl _) hb, a.v.up (Nat.le_refl _) hb, a.n.up (Nat.le_refl _) hb⟩
def headL1 (h : HV) : List UInt8 := formB (strBytes h.chain) ++ be h.height 8 ++ be h.time 8
def headL (h : HV) : List UInt8 := headL1 h ++ formB h.root ++ formB h.vals ++ formB h.next
theorem headL1_length (h : HV) : (headL1 h).length ≤ 65555 := by
  have := formB_length (strBytes h.chain)
  simp only [headL1, List.length_append, be_length]; omega
/-- the box of a header, and what is known behind each call -/
def HB (g : Nat) (w : World) (h : HV) (w' : World) : Prop :=
  w'.heap[g]? = some (.cells h.cells 34 (0, 0)) ∧ Below w.heap.size w w' ∧ w.heap.size ≤ w'.heap.size
theorem HB.below {g : Nat} {w w' w'' : World} {h : HV} (a : HB g w h w') (hb : Below w'.heap.size w' w'') : HB g w h w'' :=
  ⟨(hb.block g (blk_lt a.1)).trans a.1, below_chain a.2.1 a.2.2 hb, Nat.le_trans a.2.2 hb.size⟩
theorem HB.drew {g : Nat} {w w' : World} {h : HV} (a : HB g w h w') : HB g w h w'.drew := ⟨a.1, a.2.1.drew, a.2.2⟩
theorem HB.r {g : Nat} {w w' : World} {h : HV} (a : HB g w h w') (hh : h.at w) : Rd w' w'.heap.size (.slice h.vrA h.root.length h.vrC) h.root := hh.r.up (Nat.le_refl _) a.2.1
theorem HB.v {g : Nat} {w w' : World} {h : HV} (a : HB g w h w') (hh : h.at w) : Rd w' w'.heap.size (.slice h.vvA h.vals.length h.vvC) h.vals := hh.v.up (Nat.le_refl _) a.2.1
theorem HB.n {g : Nat} {w w' : World} {h : HV} (a : HB g w h w') (hh : h.at w) : Rd w' w'.heap.size (.slice h.vnA h.next.length h.vnC) h.next := hh.n.up (Nat.le_refl _) a.2.1
theorem HB.c {g : Nat} {w w' : World} {h : HV} (a : HB g w h w') :
    w'.cell? ⟨g, 0, none⟩ = some (.string h.chain) ∧ w'.cell? ⟨g, 1, none⟩ = some (.int .u64 (h.height : Int)) ∧ w'.cell? ⟨g, 2, none⟩ = some (.int .u64 (h.time : Int)) ∧ w'.cell? ⟨g, 3, none⟩ = some (.slice h.vrA h.root.length h.vrC) ∧ w'.cell? ⟨g, 4, none⟩ = some (.slice h.vvA h.vals.length h.vvC) ∧ w'.cell? ⟨g, 5, none⟩ = some (.slice h.vnA h.next.length h.vnC) :=
  ⟨blk_cell a.1 0, blk_cell a.1 1, blk_cell a.1 2, blk_cell a.1 3, blk_cell a.1 4, blk_cell a.1 5⟩
theorem HB.new (w : World) (h : HV) : HB w.heap.size w h (w.alloc (.cells h.cells 34)) := ⟨heap_alloc_new w _, (Below.refl _ _).alloc (Nat.le_refl _) _, by simp⟩

set_option maxHeartbeats 4000000 in
set_option maxRecDepth 100000 in
theorem header_any (h : HV) (w : World) (hh : h.at w) :
    Calls Tryz.prog 132 #[.agg #[.string h.chain, .int .u64 (h.height : Int), .int .u64 (h.time : Int), .slice h.vrA h.root.length h.vrC, .slice h.vvA h.vals.length h.vvC, .slice h.vnA h.next.length h.vnC]] w fun e w' => ∃ v', e = .returned v' ∧ Own w' w.heap.size v' (headL h) ∧ Below w.heap.size w w' := by
  have hb0 := HB.new w h
  have hT := Lib.hid (fun W : World => T_any (.slice none 0 0) h.chain [] W (Rd.nil _ _) hh.c (by simp))
  have hh1 := hh.h1
  have hh2 := hh.h2
  have HH := Lib.hid hh
  go_enter Tryz.func132, Tryz.ntmps132
  go_wp2
  generalize hw0 : w.alloc (.cells #[.string h.chain, .int .u64 (h.height : Int), .int .u64 (h.time : Int), .slice h.vrA h.root.length h.vrC, .slice h.vvA h.vals.length h.vvC, .slice h.vnA h.next.length h.vnC] 34) = w0 at *
  have hB0 : HB w.heap.size w h w0 := by rw [← hw0]; exact hb0
  clear hb0 hw0
  obtain ⟨g, hg⟩ : ∃ g, g = w.heap.size := ⟨_, rfl⟩
  rw [← hg] at hB0
  simp only [← hg]
  have HG := Lib.hid hg
  clear hg hh
  go_region_held_law (fun w' => w'.cell? ⟨g, 0, none⟩ = some (.string h.chain) ∧ w'.cell? ⟨g, 1, none⟩ = some (.int .u64 (h.height : Int)) ∧ w'.cell? ⟨g, 2, none⟩ = some (.int .u64 (h.time : Int)) ∧ w'.cell? ⟨g, 3, none⟩ = some (.slice h.vrA h.root.length h.vrC) ∧ w'.cell? ⟨g, 4, none⟩ = some (.slice h.vvA h.vals.length h.vvC) ∧ w'.cell? ⟨g, 5, none⟩ = some (.slice h.vnA h.next.length h.vnC))
    (first | exact hB0.drew.c | exact hB3.c | exact hB5.c | exact hB7.c)
    (first
      | (go_at_call 82; refine (hT.out _).mono ?_; rintro e w3 ⟨v3, rfl, ho3, hb3⟩; have hB3 := hB0.drew.below hb3)
      | (go_at_call 42; first
          | ((with_reducible refine (N_any v3 _ h.height _ ho3.rd hh1 (by simp only [List.length_append, be_length, List.length_take, List.length_nil]; omega)).mono ?_); rintro e w5 ⟨v5, rfl, ho5, hb5⟩; have hB5 := hB3.below hb5)
          | ((with_reducible refine (N_any v5 _ h.time _ ho5.rd hh2 (by simp only [List.length_append, be_length, List.length_take, List.length_nil]; omega)).mono ?_); rintro e w7 ⟨v7, rfl, ho7, hb7⟩; have hB7 := hB5.below hb7)))
  replace ho7 : Own w7 w5.heap.size v7 (headL1 h) := ho7
  have hl7 := headL1_length h
  clear hB0 hB3 hB5 ho3 hb3 ho5 hb5 hb7 hT hh1 hh2
  obtain ⟨L, hL⟩ : ∃ L, L = headL1 h := ⟨_, rfl⟩
  rw [← hL] at ho7 hl7
  have HL := Lib.hid hL
  have hrd7 : Rd w7.drew w7.drew.heap.size v7 L := ho7.rd
  clear hL
  have h9 := formB_length h.root
  have h11 := formB_length h.vals
  go_wp2_with fail
  go_region_held_law (fun w' => w'.cell? ⟨g, 0, none⟩ = some (.string h.chain) ∧ w'.cell? ⟨g, 1, none⟩ = some (.int .u64 (h.height : Int)) ∧ w'.cell? ⟨g, 2, none⟩ = some (.int .u64 (h.time : Int)) ∧ w'.cell? ⟨g, 3, none⟩ = some (.slice h.vrA h.root.length h.vrC) ∧ w'.cell? ⟨g, 4, none⟩ = some (.slice h.vvA h.vals.length h.vvC) ∧ w'.cell? ⟨g, 5, none⟩ = some (.slice h.vnA h.next.length h.vnC))
    (first | assumption | exact hB7.c | exact hB7.drew.c | exact hB9.c | exact hB11.c | exact hB13.c)
    ((go_at_call 106; first
          | ((refine (B_any v11 (.slice h.vnA h.next.length h.vnC) (L ++ formB h.root ++ formB h.vals) _ _ ho11.rd (hB11.n HH.out) (by simp only [List.length_append]; omega)).mono ?_); rintro e w13 ⟨v13, rfl, ho13, hb13⟩; have hB13 := hB11.below hb13)
          | ((refine (B_any v9 (.slice h.vvA h.vals.length h.vvC) (L ++ formB h.root) _ _ ho9.rd (hB9.v HH.out) (by simp only [List.length_append]; omega)).mono ?_); rintro e w11 ⟨v11, rfl, ho11, hb11⟩; rw [List.append_assoc] at ho11; replace ho11 : Own w11 _ v11 ((L ++ formB h.root) ++ formB h.vals) := ho11; have hB11 := hB9.below hb11)
          | ((refine (B_any v7 (.slice h.vrA h.root.length h.vrC) L _ _ hrd7 (hB7.drew.r HH.out) (by omega)).mono ?_); rintro e w9 ⟨v9, rfl, ho9, hb9⟩; rw [List.append_assoc] at ho9; replace ho9 : Own w9 _ v9 (L ++ formB h.root) := ho9; have hB9 := hB7.drew.below hb9)))
  rw [List.append_assoc] at ho13
  replace ho13 : Own w13 w11.heap.size v13 (headL h) := by rw [HL.out] at ho13; exact ho13
  clear HL ho7 ho9 ho11 hB7 hB9 hb9 hb11 hb13 hrd7
  go_wp2_with fail
  go_ret
  have hg := HG.out
  subst hg
  exact ⟨_, rfl, ho13.more hB11.2.2, hB13.2.1⟩

end Go.Proofs.YtmphegeiclgjbaaGreatDoor
