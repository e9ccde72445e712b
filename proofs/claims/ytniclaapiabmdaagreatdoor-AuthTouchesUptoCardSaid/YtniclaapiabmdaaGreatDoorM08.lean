/- Texts joined: StoA1. -/
import Derived.Test.YtniclaapiabmdaaGreatDoorM05
import Derived.LoopTactic
import Derived.OwnWalk
import Derived.LaidEqlPtr
import Derived.Test.YtniclaapiabmdaaGreatDoorM01
import Derived.Deep.RegionHeldLaw
import Derived.Deep.LoopGhost
import Derived.Lib.Strings
import Derived.Lib.Slices
import Derived.Lib.Walk
import Derived.Test.YtniclaapiabmdaaGreatDoorM07
namespace Go.Proofs.YtniclaapiabmdaaGreatDoor
set_option maxRecDepth 100000
open Go Go.RowKit
set_option linter.unusedVariables false

/-- what a layer says of each key -/
abbrev LF := ByteArray → Option (Option (List UInt8))
/-- values are of keys that fit, and fit -/
def OkF (f : LF) : Prop := ∀ s l, f s = some (some l) → keyB s = true ∧ l.length ≤ 65535
/-- a layer: its block, its map's block, how many entries there may be, what it says -/
structure Lyr where
  b : Nat
  m : Nat
  n : Nat
  f : LF
def topV : List Lyr → Value
  | [] => .pointer none
  | y :: _ => .pointer (some ⟨y.b, 0, none⟩)
structure LayS (w : World) (y : Lyr) (p : Value) : Prop where
  cells : w.heap[y.b]? = some (.cells #[.pointer (some ⟨y.b, 0, none⟩), p, .map (some y.m)] 88 (0, 0))
  own : ∃ g, MapS Tryz.prog 9 w y.m y.n g ∧ SaysF w g y.f
  ok : OkF y.f
def PileS (w : World) : List Lyr → Prop
  | [] => True
  | y :: l => LayS w y (topV l) ∧ (∀ z ∈ l, z.m ≠ y.m) ∧ PileS w l
/-- what is seen of a key -/
def visD : List Lyr → LF
  | [], _ => none
  | y :: l, s => match y.f s with | some x => some x | none => visD l s
def visV (l : List Lyr) (s : ByteArray) : Option (List UInt8) := (visD l s).getD none

section
variable {w w' : World} {F : Nat → Prop} {y : Lyr} {l : List Lyr} {p : Value}
theorem LayS.lt (h : LayS w y p) : y.b < w.heap.size ∧ y.m < w.heap.size := by
  obtain ⟨g, h1, _⟩ := h.own
  exact ⟨blk_lt h.cells, h1.lt⟩
theorem MapS.isMap {m n : Nat} {g : ByteArray → Option Value} (h : MapS Tryz.prog 9 w m n g) : ∃ es c, w.heap[m]? = some (.map es c) := by
  obtain ⟨D, ⟨es, clock, hb, F, _, rfl⟩, hF⟩ := h
  exact ⟨es, clock, hb⟩
theorem MapS.chg {m n : Nat} {g : ByteArray → Option Value} (h : MapS Tryz.prog 9 w m n g) (hc : Chg w w' F) (hn : ¬ F m) : MapS Tryz.prog 9 w' m n g := by
  obtain ⟨D, ⟨es, clock, hb, F, h1, h2⟩, hF⟩ := h
  exact ⟨D, ⟨es, clock, (hc.block m (Array.getElem?_eq_some_iff.1 hb).1 hn).trans hb, F, h1, h2⟩, hF⟩
theorem LayS.chg (h : LayS w y p) (hc : Chg w w' F) (hF : AllMaps w F) (hn : ¬ F y.m) : LayS w' y p := by
  have hb : ¬ F y.b := fun k => by
    obtain ⟨es, c, e⟩ := hF _ k
    rw [h.cells] at e; cases e
  obtain ⟨g, h1, h2⟩ := h.own
  exact ⟨(hc.block _ h.lt.1 hb).trans h.cells, ⟨g, h1.chg hc hn, h2.chg hc hF⟩, h.ok⟩
theorem PileS.chg (h : PileS w l) (hc : Chg w w' F) (hF : AllMaps w F) (hn : ∀ z ∈ l, ¬ F z.m) : PileS w' l := by
  induction l with
  | nil => trivial
  | cons y l ih =>
    obtain ⟨h1, h2, h3⟩ := h
    exact ⟨h1.chg hc hF (hn y (by simp)), h2, ih h3 fun z hz => hn z (by simp [hz])⟩
theorem PileS.up (h : PileS w l) (hb : Below w.heap.size w w') : PileS w' l :=
  h.chg (F := fun _ => False) (.of_below hb _) (fun _ hk => hk.elim) fun _ _ => id
theorem PileS.lt (h : PileS w l) : ∀ y ∈ l, y.b < w.heap.size ∧ y.m < w.heap.size := by
  induction l with
  | nil => intro y hy; cases hy
  | cons y l ih =>
    obtain ⟨h1, h2, h3⟩ := h
    intro z hz
    rcases List.mem_cons.1 hz with rfl | hz
    · exact h1.lt
    · exact ih h3 z hz
theorem PileS.tail (h : PileS w (y :: l)) : PileS w l := h.2.2
end

theorem Tryz.infoStore : (Tryz.prog.info? 88).map (fun i => (i.zero, i.size, i.bytes)) = some (some (.agg #[.pointer none, .pointer none, .map none]), 3, 24) := by kernel_rfl
set_option maxHeartbeats 400000 in
theorem sound_no (w : World) : Calls Tryz.prog 29 #[.pointer none] w fun e w' => e = .returned (.bool false) ∧ w = w' := by
  go_enter Tryz.func29, Tryz.ntmps29
  go_wp2
  go_ret
  exact ⟨rfl, rfl⟩
set_option maxHeartbeats 400000 in
theorem sound_yes {w : World} {y : Lyr} {p : Value} (h : LayS w y p) : Calls Tryz.prog 29 #[.pointer (some ⟨y.b, 0, none⟩)] w fun e w' => e = .returned (.bool true) ∧ w = w' := by
  have c0 : w.cell? ⟨y.b, 0, none⟩ = some (.pointer (some ⟨y.b, 0, none⟩)) := blk_cell h.cells 0
  obtain ⟨i0, hi, -, -, -⟩ := info_parts Tryz.infoStore
  have he := fun W : World => run_eql_ptr_same (P := Tryz.prog) (w := W) ⟨y.b, 0, none⟩ Tryz.underlying30 hi
  go_enter Tryz.func29, Tryz.ntmps29
  go_wp2
  go_ret
  exact ⟨rfl, rfl⟩
theorem takes_any (s : ByteArray) (v : Value) (l : List UInt8) (w : World) (hs : s.size ≤ maxLen) (hr : Rd w w.heap.size v l) : Calls Tryz.prog 66 #[.string s, v] w fun e w' => e = .returned (.bool (pairB (s, l))) ∧ w = w' := by
  obtain ⟨A, c, rfl, hc, hm, _⟩ := hr
  unfold maxLen at hs hm
  by_cases h1 : 1 ≤ s.size
  · by_cases h2 : s.size ≤ 200
    · by_cases h3 : l.length ≤ 65535
      · have e : pairB (s, l) = true := by simp [pairB, keyB, h1, h2, h3]
        have i1 : (1 : Int) ≤ (s.size : Int) := by omega
        have i2 : (s.size : Int) ≤ 200 := by omega
        have i3 : (l.length : Int) ≤ 65535 := by omega
        rw [e]; clear e
        go_enter Tryz.func66, Tryz.ntmps66
        go_wp2
        go_ret
        exact ⟨rfl, rfl⟩
      · have e : pairB (s, l) = false := by simp [pairB, h3]
        have i1 : (1 : Int) ≤ (s.size : Int) := by omega
        have i2 : (s.size : Int) ≤ 200 := by omega
        have i3 : ¬ (l.length : Int) ≤ 65535 := by omega
        rw [e]; clear e
        go_enter Tryz.func66, Tryz.ntmps66
        go_wp2
        go_ret
        exact ⟨rfl, rfl⟩
    · have e : pairB (s, l) = false := by simp [pairB, keyB, h2]
      have i1 : (1 : Int) ≤ (s.size : Int) := by omega
      have i2 : ¬ (s.size : Int) ≤ 200 := by omega
      rw [e]; clear e
      go_enter Tryz.func66, Tryz.ntmps66
      go_wp2
      go_ret
      exact ⟨rfl, rfl⟩
  · have e : pairB (s, l) = false := by simp [pairB, keyB, h1]
    have i1 : ¬ (1 : Int) ≤ (s.size : Int) := by omega
    rw [e]; clear e
    go_enter Tryz.func66, Tryz.ntmps66
    go_wp2
    go_ret
    exact ⟨rfl, rfl⟩

theorem SaysF.none (w : World) : SaysF w (fun _ => Option.none) (fun _ => Option.none) := fun _ _ => .inl ⟨rfl, rfl⟩
set_option maxHeartbeats 1000000 in
/-- a store over a parent, or over none -/
theorem fresh_any {w : World} (l : List Lyr) (h : PileS w l) : Calls Tryz.prog 27 #[topV l] w fun e w' => ∃ b m, e = .returned (.pointer (some ⟨b, 0, none⟩)) ∧ w.heap.size ≤ b ∧ w.heap.size ≤ m ∧ PileS w' (⟨b, m, 0, fun _ => none⟩ :: l) ∧ Below w.heap.size w w' := by
  have hmm := @run_makeMap Tryz.prog
  obtain ⟨p, hp⟩ : ∃ p, topV l = .pointer p := by cases l <;> exact ⟨_, rfl⟩
  rw [hp]
  go_enter Tryz.func27, Tryz.ntmps27
  go_wp2
  go_ret
  have h1 : Below w.heap.size w (w.alloc (.map #[] 0)) := (Below.refl _ _).alloc (Nat.le_refl _) _
  have h2 := h1.alloc h1.size (.cells #[.pointer (some ⟨w.heap.size + 1, 0, none⟩), .pointer p, .map (some w.heap.size)] 88)
  have hs : (w.alloc (.map #[] 0)).heap.size = w.heap.size + 1 := by simp
  refine ⟨w.heap.size + 1, w.heap.size, rfl, by omega, by omega, ⟨⟨?_, ⟨fun _ => none, ?_, SaysF.none _⟩, fun s l h => by cases h⟩, fun z hz => Nat.ne_of_lt ((h.lt z hz).2), h.up h2⟩, h2⟩
  · rw [hp]
    have := heap_alloc_new (w.alloc (.map #[] 0)) (.cells #[.pointer (some ⟨w.heap.size + 1, 0, none⟩), .pointer p, .map (some w.heap.size)] 88)
    rw [hs] at this
    exact this
  · exact (MapS.made w).chg (F := fun _ => False) (.of_below ((Below.refl _ _).alloc (Nat.le_refl _) _) _) id
end Go.Proofs.YtniclaapiabmdaaGreatDoor
namespace Go.Proofs.YtniclaapiabmdaaGreatDoor
set_option maxRecDepth 100000
open Go Go.RowKit
set_option linter.unusedVariables false

section
variable {P : Program} {w : World}
theorem mapTurned_chg {w' : World} {b : Nat} (h : w.mapTurned w' b) : Chg w w' (fun k => k = b) := .of_grown h.grown fun k hk => by injection hk with hk; exact hk.symm
end

/-- a layer in which a key is set, or said to be gone -/
def Lyr.put (y : Lyr) (key : ByteArray) (x : Option (List UInt8)) : Lyr := ⟨y.b, y.m, y.n + 1, fun s => if s = key then some x else y.f s⟩
/-- the lowest layer, a key of which is deleted -/
def Lyr.cut (y : Lyr) (key : ByteArray) : Lyr := ⟨y.b, y.m, y.n, fun s => if s = key then none else y.f s⟩
/-- Del, at a layer over some others -/
def Lyr.del (y : Lyr) (bot : Bool) (key : ByteArray) : Lyr := if bot = true then y.cut key else y.put key none

section
variable {w w' : World} {y : Lyr} {l : List Lyr} {p : Value}
theorem LayS.maps (h : LayS w y p) : AllMaps w (fun k => k = y.m) := by
  obtain ⟨g, h1, _⟩ := h.own
  rintro k rfl
  exact h1.isMap
theorem OkF.put {f : LF} (h : OkF f) (key : ByteArray) (x : Option (List UInt8)) (hx : ∀ v, x = some v → keyB key = true ∧ v.length ≤ 65535) : OkF (fun s => if s = key then some x else f s) := by
  intro s v e
  dsimp only at e
  by_cases k : s = key
  · subst k
    rw [if_pos rfl] at e
    exact hx v (Option.some.inj e)
  · rw [if_neg k] at e
    exact h s v e
theorem OkF.cut {f : LF} (h : OkF f) (key : ByteArray) : OkF (fun s => if s = key then none else f s) := by
  intro s v e
  dsimp only at e
  by_cases k : s = key
  · rw [if_pos k] at e; cases e
  · rw [if_neg k] at e
    exact h s v e
theorem PileS.ne (h : PileS w (y :: l)) : y.b ≠ y.m := fun e => by
  obtain ⟨es, c, e'⟩ := h.1.maps y.m rfl
  rw [← e, h.1.cells] at e'; cases e'
theorem PileS.turned (h : PileS w (y :: l)) (hc : Chg w w' (fun k => k = y.m)) {n : Nat} {f : LF} {g : ByteArray → Option Value} (hm : MapS Tryz.prog 9 w' y.m n g) (hs : SaysF w' g f) (hf : OkF f) : PileS w' (⟨y.b, y.m, n, f⟩ :: l) := by
  obtain ⟨h1, h2, h3⟩ := h
  refine ⟨⟨?_, ⟨g, hm, hs⟩, hf⟩, h2, h3.chg hc h1.maps fun z hz => h2 z hz⟩
  have hb : ¬ y.b = y.m := fun e => by
    obtain ⟨es, c, e'⟩ := h1.maps y.m rfl
    rw [← e, h1.cells] at e'; cases e'
  exact (hc.block _ h1.lt.1 hb).trans h1.cells
end

theorem Tryz.zeroEntry (w : World) : (zeroValue 90).run Tryz.prog w = .ok (.agg #[.slice none 0 0, .bool false]) w := by kernel_rfl
set_option maxHeartbeats 2000000 in
theorem set_any {w : World} {y : Lyr} {l : List Lyr} (h : PileS w (y :: l)) (hn : y.n < maxLen) (key : ByteArray) (hk : key.size ≤ maxLen) (v : Value) (val : List UInt8) (hr : Rd w w.heap.size v val) :
    Calls Tryz.prog 28 #[.pointer (some ⟨y.b, 0, none⟩), .string key, v] w fun e w' => e = .returned (.int .i64 (if pairB (key, val) = true then 0 else 60)) ∧
      ((pairB (key, val) = false ∧ w = w') ∨ (pairB (key, val) = true ∧ PileS w' (y.put key (some val) :: l) ∧ Chg w w' (fun k => k = y.m))) := by
  have hS := sound_yes h.1
  have hT := takes_any key v val w hk hr
  cases hp : pairB (key, val) with
  | false =>
    rw [hp] at hT
    obtain ⟨A, c, rfl⟩ := hr.form
    go_enter Tryz.func28, Tryz.ntmps28
    go_wp2_with fail
    refine hS.mono ?_
    rintro e w1 ⟨rfl, rfl⟩
    go_wp2_with fail
    refine hT.mono ?_
    rintro e w2 ⟨rfl, rfl⟩
    go_wp2_with fail
    go_ret
    exact ⟨rfl, rfl⟩
  | true =>
    rw [hp] at hT
    have hpl : keyB key = true ∧ val.length ≤ 65535 := by simpa [pairB] using hp
    have c2 : w.cell? ⟨y.b, 2, none⟩ = some (.map (some y.m)) := blk_cell h.1.cells 2
    have c2d : w.drew.cell? ⟨y.b, 2, none⟩ = some (.map (some y.m)) := c2
    obtain ⟨g, hm, hs⟩ := h.1.own
    have hmd : MapS Tryz.prog 9 w.drew y.m y.n g := hm.chg (F := fun _ => False) (Chg.drew w _) id
    have hbl := h.1.lt
    have HH := Lib.hid h
    obtain ⟨A, c, rfl⟩ := hr.form
    have HC : Calls Tryz.prog 47 #[.slice A val.length c] w.drew fun e w' => ∃ v', e = .returned v' ∧ Own w' w.drew.heap.size v' val ∧ Below w.drew.heap.size w.drew w' := clone_any _ val w.drew (hr.drew) (by omega)
    clear h
    go_enter Tryz.func28, Tryz.ntmps28
    go_wp2_with fail
    refine hS.mono ?_
    rintro e w1 ⟨rfl, rfl⟩
    go_wp2_with fail
    refine hT.mono ?_
    rintro e w2 ⟨rfl, rfl⟩
    go_wp2_with fail
    go_region_held_law (fun W => W.cell? ⟨y.b, 2, none⟩ = some (.map (some y.m)))
      (first | exact c2d | exact c3 | exact c4)
      ((go_at_call 47; (refine HC.mono ?_; rintro e w3 ⟨v3, rfl, ho3, hb3⟩; have c3 := (hb3.cell (p := ⟨y.b, 2, none⟩) hbl.1).trans c2d; obtain ⟨A3, k3, rfl⟩ := ho3.form; obtain ⟨w4, hrun4, hm4, ht4⟩ := (hmd.chg (.of_below hb3 (fun _ => False)) id).store Tryz.isString Tryz.underlying86 hn hk (.agg #[.slice A3 val.length k3, .bool false]); have hc4 := mapTurned_chg ht4; have hby : y.b ≠ y.m := HH.out.ne; have c4 : w4.cell? ⟨y.b, 2, none⟩ = some (.map (some y.m)) := (cell_same (p := ⟨y.b, 2, none⟩) (hc4.block y.b (Nat.lt_of_lt_of_le hbl.1 hb3.size) hby)).trans c3)))
    all_goals
      go_wp2_with fail
      go_ret
      have hb3' : Below w.heap.size w w3 := below_chain ((Below.refl w.heap.size w).drew) (Nat.le_refl _) hb3
      have hr3 : Rd w3 w3.heap.size (.slice A3 val.length k3) val := ho3.rd
      have hp3 := HH.out.up hb3'
      have hr4 : EntryIs w4 (.agg #[.slice A3 val.length k3, .bool false]) (some val) := ⟨_, rfl, (hr3.chg hc4 hp3.1.maps (Nat.le_refl _)).more hc4.size⟩
      have hs4 := (((hs.chg (.of_below hb3' (fun _ => False)) (fun _ k => k.elim)).chg hc4 hp3.1.maps).put key hr4)
      exact ⟨rfl, hp3.turned hc4 hm4 hs4 (hp3.1.ok.put key _ fun v e => by injection e with e; subst e; exact hpl), (Chg.of_below hb3' _).trans' hc4⟩

set_option maxHeartbeats 1000000 in
theorem del_any {w : World} {y : Lyr} {l : List Lyr} (h : PileS w (y :: l)) (hn : y.n < maxLen) (key : ByteArray) (hk : key.size ≤ maxLen) :
    Calls Tryz.prog 141 #[.pointer (some ⟨y.b, 0, none⟩), .string key] w fun e w' => e = .returned (.tuple #[]) ∧ PileS w' (y.del l.isEmpty key :: l) ∧ Chg w w' (fun k => k = y.m) := by
  have hS := sound_yes h.1
  have c1 : w.cell? ⟨y.b, 1, none⟩ = some (topV l) := blk_cell h.1.cells 1
  have c2 : w.cell? ⟨y.b, 2, none⟩ = some (.map (some y.m)) := blk_cell h.1.cells 2
  obtain ⟨g, hm, hs⟩ := h.1.own
  have HH := Lib.hid h
  have hok := h.1.ok
  cases l with
  | nil =>
    have c1' : w.cell? ⟨y.b, 1, none⟩ = some (.pointer none) := c1
    clear h c1
    go_enter Tryz.func141, Tryz.ntmps141
    go_wp2_with fail
    refine hS.mono ?_
    rintro e w1 ⟨rfl, rfl⟩
    go_wp2_with (refine wpList_drop_s _ rfl (.tmp 15) (.tmp 16) _ _ rfl _ Tryz.isString Tryz.underlying86 y.m y.n g rfl hm key rfl hk ?_; intro w3 hm3 ht3)
    refine bodyPost_ret (results_none rfl _ _ _) rfl ?_
    have hc3 := mapTurned_chg ht3
    exact ⟨rfl, HH.out.turned hc3 hm3 ((hs.chg hc3 HH.out.1.maps).del key) (hok.cut key), hc3⟩
  | cons z l =>
    have c1' : w.cell? ⟨y.b, 1, none⟩ = some (.pointer (some ⟨z.b, 0, none⟩)) := c1
    clear h c1
    go_enter Tryz.func141, Tryz.ntmps141
    go_wp2_with fail
    refine hS.mono ?_
    rintro e w1 ⟨rfl, rfl⟩
    go_wp2_with (refine wpList_store_s _ rfl (.tmp 20) (.tmp 21) (.tmp 22) _ rfl _ _ Tryz.isString Tryz.underlying86 y.m y.n g rfl hm hn key _ rfl rfl hk ?_; intro w3 hm3 ht3)
    go_end0
    have hc3 := mapTurned_chg ht3
    exact ⟨rfl, HH.out.turned hc3 hm3 ((hs.chg hc3 HH.out.1.maps).put key (x := none) rfl) (hok.put key none fun v e => by cases e), hc3⟩
end Go.Proofs.YtniclaapiabmdaaGreatDoor
namespace Go.Proofs.YtniclaapiabmdaaGreatDoor
set_option maxRecDepth 100000
open Go Go.RowKit
set_option linter.unusedVariables false

theorem visD_none {y : Lyr} {l : List Lyr} {s : ByteArray} (h : y.f s = none) : visD (y :: l) s = visD l s := by
  show (match y.f s with | some x => some x | none => visD l s) = _
  rw [h]
theorem visD_some {y : Lyr} {l : List Lyr} {s : ByteArray} {x : Option (List UInt8)} (h : y.f s = some x) : visD (y :: l) s = some x := by
  show (match y.f s with | some x => some x | none => visD l s) = _
  rw [h]
theorem OkF.len {w : World} {y : Lyr} {p : Value} (h : LayS w y p) {key : ByteArray} {v : List UInt8} (e : y.f key = some (some v)) : v.length ≤ 65535 := (h.ok key v e).2

set_option maxHeartbeats 4000000 in
theorem get_any {w : World} {l : List Lyr} (h : PileS w l) (key : ByteArray) (hk : key.size ≤ maxLen) :
    Calls Tryz.prog 17 #[topV l, .string key] w fun e w' => ∃ v, e = .returned (.tuple #[v, .bool (visV l key).isSome]) ∧ Own w' w.heap.size v ((visV l key).getD []) ∧ Below w.heap.size w w' := by
  have HH := Lib.hid h
  obtain ⟨V, hV⟩ : ∃ V, V = topV l := ⟨_, rfl⟩
  have HV := Lib.hid hV
  rw [← hV]
  clear h hV
  have hz := Tryz.zeroEntry
  go_enter Tryz.func17, Tryz.ntmps17
  go_wp2_with fail
  go_loopg [6] l.length (fun k a wr => ∃ suf : List Lyr, suf.length = k ∧ a = topV suf ∧ PileS w suf ∧ visD l key = visD suf key ∧ Below w.heap.size w wr)
  case atStart => exact ⟨l, rfl, HV.out, HH.out, rfl, Below.refl _ _⟩
  case round =>
    obtain ⟨suf, hsl, rfl, hp, hv, hb⟩ := hrel
    cases suf with
    | nil =>
      have HV2 : Hid (visV l key = none) := Lib.hid (by unfold visV; rw [hv]; rfl)
      have hS := sound_no wr
      have hS' : Calls Tryz.prog 29 #[topV []] wr fun e w' => e = .returned (.bool false) ∧ wr = w' := hS
      clear hS hv hp
      go_wp2_with fail
      refine hS'.mono ?_
      rintro e w1 ⟨rfl, rfl⟩
      go_wp2_with fail
      go_ret2
      exact ⟨_, by rw [HV2.out]; rfl, by rw [HV2.out]; exact Own.nil _ _, hb⟩
    | cons y r =>
      have hpr := hp.up hb
      have hS := sound_yes hpr.1
      have hS' : Calls Tryz.prog 29 #[topV (y :: r)] wr fun e w' => e = .returned (.bool true) ∧ wr = w' := hS
      have ht : topV (y :: r) = .pointer (some ⟨y.b, 0, none⟩) := rfl
      have c1 : wr.cell? ⟨y.b, 1, none⟩ = some (topV r) := blk_cell hpr.1.cells 1
      have c2 : wr.cell? ⟨y.b, 2, none⟩ = some (.map (some y.m)) := blk_cell hpr.1.cells 2
      obtain ⟨g, hm, hs⟩ := hpr.1.own
      have HP := Lib.hid hp
      have HPR := Lib.hid hpr
      have HO := Lib.hid hpr.1.ok
      rw [ht] at hS' ⊢
      clear hS hp ht hpr
      rcases hs key hk with ⟨h1, h2⟩ | ⟨e, x, h1, h2, h3⟩
      · have HV2 : Hid (visD l key = visD r key) := Lib.hid (by rw [hv, visD_none h2])
        have hlk := hm.look Tryz.isString Tryz.underlying86 (hz wr) hk
        rw [h1] at hlk
        have hlk' : (Instr.lookup 86 (.map (some y.m)) (.string key) true).run Tryz.prog wr = .ok (.tuple #[.agg #[.slice none 0 0, .bool false], .bool false]) wr := hlk
        clear hv h1 h2 hlk
        have hp1 : ∃ p, topV r = .pointer p := by cases r <;> exact ⟨_, rfl⟩
        obtain ⟨p1, hp1⟩ := hp1
        have HT := Lib.hid hp1
        rw [hp1] at c1
        clear hp1
        have hal : Below wr.heap.size wr (wr.alloc (.cells #[.slice none 0 0, .bool false] 90)) := (Below.refl _ _).alloc (Nat.le_refl _) _
        have c1' := (hal.cell (p := ⟨y.b, 1, none⟩) HPR.out.1.lt.1).trans c1
        go_wp2_with fail
        refine hS'.mono ?_
        rintro e w1 ⟨rfl, rfl⟩
        go_wp2_with fail
        go_roundg r.length
        case measure => simp at hsl; omega
        case rel => exact ⟨r, rfl, HT.out.symm, HP.out.tail, HV2.out, hb.alloc hb.size _⟩
      · have HV2 : Hid (visV l key = x) := Lib.hid (by unfold visV; rw [hv, visD_some h2]; rfl)
        have hlk := hm.look Tryz.isString Tryz.underlying86 (hz wr) hk
        rw [h1] at hlk
        have hlk' : (Instr.lookup 86 (.map (some y.m)) (.string key) true).run Tryz.prog wr = .ok (.tuple #[e, .bool true]) wr := hlk
        have hvl : ∀ v, x = some v → v.length ≤ 65535 := fun v e => OkF.len HPR.out.1 (by rw [h2, e])
        obtain ⟨sl, gone, lv, he, hrd, hx1, hx2, hlen⟩ : ∃ sl gone lv, e = .agg #[sl, .bool gone] ∧ Rd wr wr.heap.size sl lv ∧ x.isSome = !gone ∧ x.getD [] = lv ∧ lv.length ≤ 65535 := by
          cases x with
          | none => exact ⟨_, true, [], h3, Rd.nil _ _, rfl, rfl, by simp⟩
          | some v =>
            obtain ⟨sl, q1, q2⟩ := h3
            exact ⟨sl, false, v, q1, q2, rfl, rfl, hvl v rfl⟩
        subst he
        obtain ⟨A, c, rfl⟩ := hrd.form
        have hal : Below wr.heap.size wr (wr.alloc (.cells #[.slice A lv.length c, .bool gone] 90)) := (Below.refl _ _).alloc (Nat.le_refl _) _
        have hcs := heap_alloc_new wr (.cells #[.slice A lv.length c, .bool gone] 90)
        have d0 : (wr.alloc (.cells #[.slice A lv.length c, .bool gone] 90)).cell? ⟨wr.heap.size, 0, none⟩ = some (.slice A lv.length c) := blk_cell hcs 0
        have d1 : (wr.alloc (.cells #[.slice A lv.length c, .bool gone] 90)).cell? ⟨wr.heap.size, 1, none⟩ = some (.bool gone) := blk_cell hcs 1
        have hrd1 := (hrd.below hal).more hal.size
        have hq1 := hb.alloc hb.size (.cells #[.slice A lv.length c, .bool gone] 90)
        have hltN : wr.heap.size < (wr.alloc (.cells #[.slice A lv.length c, .bool gone] 90)).heap.size := by simp
        have HX := Lib.hid (And.intro hx1 hx2)
        clear hv h1 h2 hlk c1 h3 hx1 hx2 hvl hcs
        go_wp2_with fail
        refine hS'.mono ?_
        rintro e w1 ⟨rfl, rfl⟩
        go_wp2_with fail
        clear hS' c2 hlk'
        generalize wr.alloc (.cells #[.slice A lv.length c, .bool gone] 90) = W1 at *
        have e0 : W1.drew.cell? ⟨wr.heap.size, 0, none⟩ = some (.slice A lv.length c) := d0
        have e1 : W1.drew.cell? ⟨wr.heap.size, 1, none⟩ = some (.bool gone) := d1
        have HC : Calls Tryz.prog 47 #[.slice A lv.length c] W1.drew fun e w' => ∃ v', e = .returned v' ∧ Own w' W1.drew.heap.size v' lv ∧ Below W1.drew.heap.size W1.drew w' := clone_any _ lv W1.drew (hrd1.drew) (by omega)
        go_region_held_law (fun W => W.cell? ⟨wr.heap.size, 0, none⟩ = some (.slice A lv.length c) ∧ W.cell? ⟨wr.heap.size, 1, none⟩ = some (.bool gone))
          (first | exact ⟨e0, e1⟩ | exact ⟨f0, f1⟩)
          ((go_at_call 47; (refine HC.mono ?_; rintro e w3 ⟨v3, rfl, ho3, hb3⟩; have f0 := (hb3.cell (p := ⟨wr.heap.size, 0, none⟩) hltN).trans e0; have f1 := (hb3.cell (p := ⟨wr.heap.size, 1, none⟩) hltN).trans e1)))
        all_goals
          go_wp2_with fail
          go_ret2
          exact ⟨v3, by rw [HV2.out, HX.out.1]; rfl, by rw [HV2.out, HX.out.2]; exact ho3.more (Nat.le_trans hq1.size (Nat.le_refl _)), below_chain hq1 hq1.size (below_chain ((Below.refl W1.heap.size W1).drew) (Nat.le_refl _) hb3)⟩
end Go.Proofs.YtniclaapiabmdaaGreatDoor
namespace Go.Proofs.YtniclaapiabmdaaGreatDoor
set_option maxRecDepth 100000
open Go Go.RowKit
set_option linter.unusedVariables false

theorem set_no {w : World} {y : Lyr} {l : List Lyr} (h : PileS w (y :: l)) (hn : y.n < maxLen) (key : ByteArray) (hk : key.size ≤ maxLen) (v : Value) (val : List UInt8) (hr : Rd w w.heap.size v val) (hp : pairB (key, val) = false) :
    Calls Tryz.prog 28 #[.pointer (some ⟨y.b, 0, none⟩), .string key, v] w fun e w' => e = .returned (.int .i64 60) ∧ w = w' := by
  refine (set_any h hn key hk v val hr).mono ?_
  rintro e w' ⟨h1, h2⟩
  rw [hp] at h1 h2
  exact ⟨by rw [h1]; rfl, by rcases h2 with h2 | h2; exact h2.2; cases h2.1⟩
theorem set_yes {w : World} {y : Lyr} {l : List Lyr} (h : PileS w (y :: l)) (hn : y.n < maxLen) (key : ByteArray) (hk : key.size ≤ maxLen) (v : Value) (val : List UInt8) (hr : Rd w w.heap.size v val) (hp : pairB (key, val) = true) :
    Calls Tryz.prog 28 #[.pointer (some ⟨y.b, 0, none⟩), .string key, v] w fun e w' => e = .returned (.int .i64 0) ∧ PileS w' (y.put key (some val) :: l) ∧ Chg w w' (fun k => k = y.m) := by
  refine (set_any h hn key hk v val hr).mono ?_
  rintro e w' ⟨h1, h2⟩
  rw [hp] at h1 h2
  exact ⟨by rw [h1]; rfl, by rcases h2 with h2 | h2; cases h2.1; exact h2.2.1, by rcases h2 with h2 | h2; cases h2.1; exact h2.2.2⟩

/-- a layer that holds just these pairs -/
def LyrIs (ps : List Pr) (y : Lyr) : Prop := ∀ s, y.f s = (getL ps s).map some
theorem Rise.snoc {l : List Pr} (h : Rise l) (q : Pr) (hq : ∀ a, prevK (l ++ [q]) l.length = some a → ltS a q.1 = true) : Rise (l ++ [q]) := by
  refine List.pairwise_append.2 ⟨h, by simp, fun a ha b hb => ?_⟩
  rw [List.mem_singleton.1 hb]
  obtain ⟨i, hi, rfl⟩ := List.getElem_of_mem ha
  have hz : prevK (l ++ [q]) l.length = some (l[l.length - 1]'(by omega)).1 := by
    unfold prevK
    rw [if_neg (by omega), List.getElem?_append_left (by omega), List.getElem?_eq_getElem (by omega)]; rfl
  have h1 := hq _ hz
  rcases Nat.lt_or_ge i (l.length - 1) with hlt | hge
  · exact ltS_trans (List.pairwise_iff_getElem.1 h i (l.length - 1) hi (by omega) hlt) h1
  · have : i = l.length - 1 := by omega
    subst this
    exact h1
theorem rise_take {ps : List Pr} (k : Nat) (h : k < ps.length) (hr : Rise (ps.take k)) (hp : ∀ a, prevK ps k = some a → ltS a ps[k].1 = true) : Rise (ps.take (k + 1)) := by
  rw [← List.take_append_getElem (l := ps) (i := k) h]
  refine hr.snoc _ fun a e => hp a ?_
  rw [← e]
  unfold prevK
  rw [List.length_take, Nat.min_eq_left (by omega)]
  by_cases h0 : k = 0
  · rw [if_pos h0, if_pos h0]
  · rw [if_neg h0, if_neg h0, List.getElem?_append_left (by rw [List.length_take]; omega), List.getElem?_take, if_pos (by omega)]
theorem getL_snoc {l : List Pr} {q : Pr} (h : Rise (l ++ [q])) (s : ByteArray) : (getL (l ++ [q]) s).map some = if s = q.1 then some (some q.2) else (getL l s).map some := by
  obtain ⟨h1, _, h3⟩ := List.pairwise_append.1 h
  rw [getL_append]
  by_cases e : s = q.1
  · rw [if_pos e, getL_none.2 fun x hx k => ltS_ne (h3 x hx q (by simp)) (k.trans e), getL_cons, if_pos e.symm]; rfl
  · rw [if_neg e, getL_cons, if_neg (fun k => e k.symm)]
    cases getL l s <;> rfl

set_option maxHeartbeats 4000000 in
theorem new_any (w : World) (v : Value) (ps : List Pr) (hr : RdP w w.heap.size v ps) (hnl : ∀ p ∈ ps, p.1.size ≤ maxLen) :
    Calls Tryz.prog 6 #[v] w fun e w' => (ordR none ps = false ∧ e = .returned (.tuple #[.pointer none, .int .i64 60]) ∨
      ordR none ps = true ∧ ∃ y : Lyr, e = .returned (.tuple #[.pointer (some ⟨y.b, 0, none⟩), .int .i64 0]) ∧ w.heap.size ≤ y.b ∧ w.heap.size ≤ y.m ∧ y.n = ps.length ∧ LyrIs ps y ∧ Rise ps ∧ PileS w' [y]) ∧ Below w.heap.size w w' := by
  have hr0 := hr
  obtain ⟨A, c, rfl, hc, hm, hp⟩ := hr
  unfold maxLen at hm
  obtain ⟨n, hn⟩ : ∃ n, n = ps.length := ⟨_, rfl⟩
  rw [← hn] at hc ⊢
  have HN := Lib.hid hn
  have HP := Lib.hid hp
  have HL := Lib.hid hnl
  have hF := fresh_any (w := w) [] trivial
  have hF' : Calls Tryz.prog 27 #[.pointer none] w fun e w' => ∃ b m, e = .returned (.pointer (some ⟨b, 0, none⟩)) ∧ w.heap.size ≤ b ∧ w.heap.size ≤ m ∧ PileS w' [⟨b, m, 0, fun _ => none⟩] ∧ Below w.heap.size w w' := hF
  clear hp hnl hn hF hr0
  go_enter Tryz.func6, Tryz.ntmps6
  go_wp2_with fail
  refine hF'.mono ?_
  rintro e w1 ⟨b, m, rfl, hwb, hwm, hp1, hb1⟩
  have HP1 := Lib.hid hp1
  clear hp1 hF'
  go_wp2_with fail
  go_loopw [11] (fun i wr => ∃ k : Nat, k ≤ n ∧ i = .int .i64 (k : Int) ∧ Below w.heap.size w wr ∧ Hid (Rise (ps.take k) ∧ ordR none ps = ordR (prevK ps k) (ps.drop k) ∧ ∃ f : LF, (∀ s, f s = (getL (ps.take k) s).map some) ∧ PileS wr [⟨b, m, k, f⟩]))
    (fun i _ => n - (intOf i).toNat)
  case atStart => exact ⟨0, Nat.zero_le _, rfl, hb1, Lib.hid ⟨by simp [Rise], by simp [prevK], _, fun s => by simp [getL], HP1.out⟩⟩
  case round =>
    clear hb1 HP1
    obtain ⟨k, hk, rfl, hb, HR⟩ := hrel
    by_cases hlt : k < n
    · have hkl : k < ps.length := by have := HN.out; omega
      obtain ⟨b0, o, rfl, hbl, hcell⟩ := HP.out (by omega)
      obtain ⟨q1, x, q2, q3⟩ := hcell k hkl
      have a1 := (hb.cell (p := ⟨b0, o + k * 2, none⟩) hbl).trans q1
      have a2 := (hb.cell (p := ⟨b0, o + k * 2 + 1, none⟩) hbl).trans q2
      have hks := HL.out _ (List.getElem_mem hkl)
      have i1 : (0 : Int) ≤ (k : Int) := by omega
      have i2 : (k : Int) < (n : Int) := by omega
      have hst := ordR_step ps k hkl
      obtain ⟨hri, hrd, f, hf, hpl⟩ := HR.out
      rw [← hrd] at hst
      have hgo : pairB ps[k] = true → (∀ a, prevK ps k = some a → ltS a ps[k].1 = true) → ∀ W : World, ∀ f' : LF, (∀ s, f' s = if s = ps[k].1 then some (some ps[k].2) else f s) → PileS W [⟨b, m, k + 1, f'⟩] → Hid (Rise (ps.take (k + 1)) ∧ ordR none ps = ordR (prevK ps (k + 1)) (ps.drop (k + 1)) ∧ ∃ f : LF, (∀ s, f s = (getL (ps.take (k + 1)) s).map some) ∧ PileS W [⟨b, m, k + 1, f⟩]) := fun hpb hlt' W f' hf' hP => by
        have hrk := rise_take k hkl hri hlt'
        refine Lib.hid ⟨hrk, ?_, f', fun s => ?_, hP⟩
        · rw [hst, hpb]
          cases hpk : prevK ps k with
          | none => rfl
          | some a => rw [hpk] at hlt'; simp [hlt' a rfl]
        · rw [hf', hf, ← List.take_append_getElem (l := ps) (i := k) hkl]
          rw [← List.take_append_getElem (l := ps) (i := k) hkl] at hrk
          rw [getL_snoc hrk]
      have hbadP : pairB ps[k] = false → ordR none ps = false := fun e => by rw [hst, e]; rfl
      have hbadO : ∀ a, prevK ps k = some a → ltS a ps[k].1 = false → ordR none ps = false := fun a e e' => by rw [hst, e]; dsimp only; rw [e']; simp
      obtain ⟨Ax, cx, rfl⟩ := q3.form
      have hxl : (ps[k].2).length ≤ 9223372036854775807 := q3.len
      have hbz : Below wr.heap.size wr (wr.alloc (.cells #[.string ps[k].1, .slice Ax ps[k].2.length cx] 48)) := (Below.refl _ _).alloc (Nat.le_refl _) _
      have hbx := hb.alloc hb.size (.cells #[.string ps[k].1, .slice Ax ps[k].2.length cx] 48)
      have hrx := (q3.below hbx).more hbx.size
      have hcs := heap_alloc_new wr (.cells #[.string ps[k].1, .slice Ax ps[k].2.length cx] 48)
      have hpx := hpl.up hbz
      have hprev : ∀ (q : Nat) (hq : q + 1 = k), (wr.alloc (.cells #[.string ps[k].1, .slice Ax ps[k].2.length cx] 48)).cell? ⟨b0, o + q * 2, none⟩ = some (.string (ps[q]'(by omega)).1) := fun q hq =>
        (hbx.cell (p := ⟨b0, o + q * 2, none⟩) hbl).trans (hcell q (by omega)).1
      have hpk : ∀ (q : Nat) (hq : q + 1 = k), prevK ps k = some (ps[q]'(by omega)).1 := fun q hq => by
        subst hq
        unfold prevK
        rw [if_neg (by omega), Nat.add_sub_cancel, List.getElem?_eq_getElem (by omega)]
        rfl
      have hp0 : k = 0 → prevK ps k = none := fun h0 => by unfold prevK; rw [if_pos h0]
      have HF := Lib.hid (And.intro hgo (And.intro hbadP (And.intro hbadO (And.intro hpk hp0))))
      have HX := Lib.hid (And.intro hpx (And.intro hrx hbx))
      have HPV := Lib.hid hprev
      clear hgo hbadP hbadO hst hri hrd hf hpl hcell hpx hrx HR hprev hpk hp0
      have HPS : Hid (ps[k] = (ps[k].1, ps[k].2)) := Lib.hid rfl
      clear q1 q2 q3
      generalize ps[k].1 = s at *
      generalize ps[k].2 = L at *
      go_wp2_with fail
      have z0 : (wr.alloc (.cells #[.string s, .slice Ax L.length cx] 48)).cell? ⟨wr.heap.size, 0, none⟩ = some (.string s) := blk_cell hcs 0
      have z1 : (wr.alloc (.cells #[.string s, .slice Ax L.length cx] 48)).cell? ⟨wr.heap.size, 1, none⟩ = some (.slice Ax L.length cx) := blk_cell hcs 1
      generalize wr.alloc (.cells #[.string s, .slice Ax L.length cx] 48) = W1 at *
      by_cases h0 : k = 0
      · have HLT : Hid (∀ a, prevK ps k = some a → ltS a s = true) := Lib.hid fun a e => by rw [HF.out.2.2.2.2 h0] at e; cases e
        have j1 : ¬ (0 : Int) < (k : Int) := by omega
        have j2 : decide (0 < k) = false := by simp [h0]
        clear h0
        go_wp2_with fail
        go_quiet (fail)
        go_wp2_with fail
        obtain ⟨hpx, hrx, hbx2⟩ := HX.out
        have hpx2 : ∀ nq, PileS (W1.drewN nq) [⟨b, m, k, f⟩] := fun nq => hpx.up (below_drewN' (Below.refl _ _) _)
        have hrx2 : ∀ nq, Rd (W1.drewN nq) (W1.drewN nq).heap.size (.slice Ax L.length cx) L := fun nq => hrx
        have hnk : (⟨b, m, k, f⟩ : Lyr).n < maxLen := by show k < maxLen; unfold maxLen; omega
        cases hpb : pairB (s, L) with
        | false =>
          have HS := Lib.hid (fun nq => set_no (hpx2 nq) hnk s hks _ L (hrx2 nq) hpb)
          have HR : Hid (ordR none ps = false) := Lib.hid (HF.out.2.1 (by rw [HPS.out]; exact hpb))
          clear hpx hrx hpx2 hrx2 hpb hnk
          go_wp2_with fail
          refine (HS.out _).mono ?_
          rintro e w2 ⟨rfl, rfl⟩
          go_wp2_with fail
          go_ret2
          exact ⟨Or.inl ⟨HR.out, rfl⟩, below_drewN' hbx2 _⟩
        | true =>
          have HS := Lib.hid (fun nq => set_yes (hpx2 nq) hnk s hks _ L (hrx2 nq) hpb)
          have HG := Lib.hid (HF.out.1 (by rw [HPS.out]; exact hpb) HLT.out)
          clear hpx hrx hpx2 hrx2 hpb hnk
          go_wp2_with fail
          refine (HS.out _).mono ?_
          rintro e w2 ⟨rfl, hp2, hc2⟩
          have hb2 : Below w.heap.size w w2 := (below_drewN' hbx2 _).trans (hc2.below (B := w.heap.size) (fun k hk => by rw [hk]; exact hwm) (below_drewN' hbx2 _).size)
          have HE := HG.out w2 _ (fun s' => rfl) hp2
          clear hp2 hc2 HG
          go_wp2_with fail
          exact ⟨⟨k + 1, by omega, by go_num, hb2, HE⟩, by simp [intOf]; omega⟩
      · obtain ⟨q, hq⟩ : ∃ q, q + 1 = k := ⟨k - 1, by omega⟩
        have hcq := HPV.out q hq
        have hpq := HF.out.2.2.2.1 q hq
        have j1 : (0 : Int) < (k : Int) := by omega
        have j2 : IntKind.i64.wrap ((k : Int) - 1) = (q : Int) := by rw [IntKind.wrap_i64]; omega
        have j3 : (q : Int) < (n : Int) := by omega
        have j4 : (0 : Int) ≤ (q : Int) := by omega
        have j5 : decide (0 < k) = true := by simp; omega
        have hql : q < ps.length := by omega
        generalize (ps[q]'(by omega)).1 = s0 at *
        clear hq h0
        cases hlt0 : ltS s0 s with
        | false =>
          have hl : Op.bytesLess s0.toList s.toList = false := hlt0
          have HR : Hid (ordR none ps = false) := Lib.hid (HF.out.2.2.1 s0 hpq hlt0)
          have hbx2 := HX.out.2.2
          clear hlt0 hpq
          go_wp2_with fail
          go_quiet (fail)
          go_wp2_with fail
          go_ret2
          exact ⟨Or.inl ⟨HR.out, rfl⟩, below_drewN' hbx2 _⟩
        | true =>
          have hl : Op.bytesLess s0.toList s.toList = true := hlt0
          have HLT : Hid (∀ a, prevK ps k = some a → ltS a s = true) := Lib.hid fun a e => by rw [hpq] at e; injection e with e; rw [← e]; exact hlt0
          clear hlt0 hpq
          go_wp2_with fail
          go_quiet (fail)
          go_wp2_with fail
          obtain ⟨hpx, hrx, hbx2⟩ := HX.out
          have hpx2 : ∀ nq, PileS (W1.drewN nq) [⟨b, m, k, f⟩] := fun nq => hpx.up (below_drewN' (Below.refl _ _) _)
          have hrx2 : ∀ nq, Rd (W1.drewN nq) (W1.drewN nq).heap.size (.slice Ax L.length cx) L := fun nq => hrx
          have hnk : (⟨b, m, k, f⟩ : Lyr).n < maxLen := by show k < maxLen; unfold maxLen; omega
          cases hpb : pairB (s, L) with
          | false =>
            have HS := Lib.hid (fun nq => set_no (hpx2 nq) hnk s hks _ L (hrx2 nq) hpb)
            have HR : Hid (ordR none ps = false) := Lib.hid (HF.out.2.1 (by rw [HPS.out]; exact hpb))
            clear hpx hrx hpx2 hrx2 hpb hnk
            go_wp2_with fail
            refine (HS.out _).mono ?_
            rintro e w2 ⟨rfl, rfl⟩
            go_wp2_with fail
            go_ret2
            exact ⟨Or.inl ⟨HR.out, rfl⟩, below_drewN' hbx2 _⟩
          | true =>
            have HS := Lib.hid (fun nq => set_yes (hpx2 nq) hnk s hks _ L (hrx2 nq) hpb)
            have HG := Lib.hid (HF.out.1 (by rw [HPS.out]; exact hpb) HLT.out)
            clear hpx hrx hpx2 hrx2 hpb hnk
            go_wp2_with fail
            refine (HS.out _).mono ?_
            rintro e w2 ⟨rfl, hp2, hc2⟩
            have hb2 : Below w.heap.size w w2 := (below_drewN' hbx2 _).trans (hc2.below (B := w.heap.size) (fun k hk => by rw [hk]; exact hwm) (below_drewN' hbx2 _).size)
            have HE := HG.out w2 _ (fun s' => rfl) hp2
            clear hp2 hc2 HG
            go_wp2_with fail
            exact ⟨⟨k + 1, by omega, by go_num, hb2, HE⟩, by simp [intOf]; omega⟩
    · have i2 : ¬ (k : Int) < (n : Int) := by omega
      obtain rfl : k = n := by omega
      have hfull : ps.take k = ps := List.take_of_length_le (by rw [← HN.out]; exact Nat.le_refl _)
      have HRR : Hid (ordR none ps = true ∧ Rise ps ∧ ∃ f : LF, (∀ s, f s = (getL ps s).map some) ∧ PileS wr [⟨b, m, k, f⟩]) := Lib.hid (by
        obtain ⟨h1, h2, h3⟩ := HR.out
        rw [hfull] at h1 h3
        refine ⟨?_, h1, h3⟩
        rw [h2, HN.out]; exact ordR_end ps)
      clear hfull HR
      go_wp2_with fail
      go_ret2
      obtain ⟨h1, h2, f, h3, h4⟩ := HRR.out
      exact ⟨Or.inr ⟨h1, ⟨b, m, k, f⟩, rfl, hwb, hwm, rfl, h3, h2, h4⟩, hb⟩
end Go.Proofs.YtniclaapiabmdaaGreatDoor
namespace Go.Proofs.YtniclaapiabmdaaGreatDoor
set_option maxRecDepth 100000
open Go
set_option linter.unusedVariables false

/-- the pairs gathered so far: those that D decides, of the keys that b takes -/
structure Gath (b : ByteArray → Bool) (D : LF) (L : List Pr) : Prop where
  keys : L.Pairwise (fun p q => p.1 ≠ q.1)
  small : ∀ p ∈ L, p.1.size ≤ maxLen
  mem : ∀ (s : ByteArray) (v : List UInt8), s.size ≤ maxLen → ((s, v) ∈ L ↔ b s = true ∧ D s = some (some v))
section
variable {b : ByteArray → Bool} {D D' : LF} {L : List Pr}
theorem Gath.nil (b : ByteArray → Bool) : Gath b (fun _ => none) [] := ⟨by simp, by simp, fun s v _ => by simp⟩
theorem Gath.congr (h : Gath b D L) (e : ∀ s : ByteArray, s.size ≤ maxLen → b s = true → ∀ v, D' s = some (some v) ↔ D s = some (some v)) : Gath b D' L :=
  ⟨h.keys, h.small, fun s v hs => by
    rw [h.mem s v hs]
    constructor
    · rintro ⟨h1, h2⟩; exact ⟨h1, (e s hs h1 v).2 h2⟩
    · rintro ⟨h1, h2⟩; exact ⟨h1, (e s hs h1 v).1 h2⟩⟩
theorem Gath.add (h : Gath b D L) {x : ByteArray} {v : List UInt8} (hx : x.size ≤ maxLen) (hb : b x = true) (h0 : D x = none) (h1 : D' x = some (some v)) (h2 : ∀ s : ByteArray, s.size ≤ maxLen → s ≠ x → D' s = D s) : Gath b D' (L ++ [(x, v)]) where
  keys := by
    refine List.pairwise_append.2 ⟨h.keys, by simp, fun p hp q hq e => ?_⟩
    rw [List.mem_singleton.1 hq] at e
    have := (h.mem p.1 p.2 (h.small p hp)).1 hp
    rw [e, h0] at this
    exact absurd this.2 (by simp)
  small := by
    intro p hp
    rcases List.mem_append.1 hp with hp | hp
    · exact h.small p hp
    · rw [List.mem_singleton.1 hp]; exact hx
  mem := by
    intro s u hs
    rw [List.mem_append, List.mem_singleton]
    by_cases e : s = x
    · subst e
      rw [h.mem s u hs, h0, h1]
      simp [hb]
      exact eq_comm
    · rw [h.mem s u hs, h2 s hs e]
      simp [e]
end
/-- what is decided in the midst of a layer: what nearer layers decide, and of this one's what is no longer to come -/
def midD (D : LF) (f : LF) (left : ByteArray → Bool) : LF := fun s => (D s).or (if left s = true then none else f s)
section
variable {b : ByteArray → Bool} {D f : LF} {left left' : ByteArray → Bool} {L : List Pr}
theorem midD_start {g : ByteArray → Option Value} {w : World} (h : SaysF w g f) (s : ByteArray) (hs : s.size ≤ maxLen) : midD D f (fun s => (g s).isSome) s = D s := by
  unfold midD
  rcases h s hs with ⟨h1, h2⟩ | ⟨e, x, h1, h2, _⟩
  · simp [h1, h2]
  · simp [h1]
theorem midD_done (h : ∀ s : ByteArray, s.size ≤ maxLen → left s = false) (s : ByteArray) (hs : s.size ≤ maxLen) : midD D f left s = (D s).or (f s) := by
  unfold midD
  simp [h s hs]
theorem midD_other {x s : ByteArray} (e : s ≠ x) : midD D f (fun s => left s && !decide (s = x)) s = midD D f left s := by
  unfold midD
  simp [e]
theorem midD_here {x : ByteArray} (hl : left x = true) : midD D f left x = D x := by
  unfold midD
  simp [hl]
theorem midD_then {x : ByteArray} : midD D f (fun s => left s && !decide (s = x)) x = (D x).or (f x) := by
  unfold midD
  simp
/-- a key that b doesn't take, or that is hidden, or is gone -/
theorem Gath.skip (h : Gath b (midD D f left) L) {x : ByteArray} (hl : left x = true) (hc : b x = false ∨ (D x).isSome = true ∨ f x = some none) : Gath b (midD D f (fun s => left s && !decide (s = x))) L := by
  refine h.congr fun s hs hb v => ?_
  by_cases e : s = x
  · subst e
    rw [midD_then, midD_here hl]
    rcases hc with hc | hc | hc
    · rw [hc] at hb; cases hb
    · obtain ⟨y, hy⟩ := Option.isSome_iff_exists.1 hc
      simp [hy]
    · rw [hc]
      cases D s <;> simp
  · rw [midD_other e]
theorem Gath.take (h : Gath b (midD D f left) L) {x : ByteArray} {v : List UInt8} (hx : x.size ≤ maxLen) (hl : left x = true) (hb : b x = true) (hD : D x = none) (hf : f x = some (some v)) : Gath b (midD D f (fun s => left s && !decide (s = x))) (L ++ [(x, v)]) := by
  refine h.add hx hb ?_ ?_ ?_
  · rw [midD_here hl]; exact hD
  · rw [midD_then, hD, hf]; rfl
  · exact fun s _ e => midD_other e
end
/-- which keys the nearer layers have of their own -/
def NearF (b : ByteArray → Bool) (D : LF) (r : ByteArray → Option Value) : Prop := ∀ s : ByteArray, s.size ≤ maxLen → (r s).isSome = (b s && (D s).isSome)
section
variable {b : ByteArray → Bool} {D f : LF} {left : ByteArray → Bool} {r : ByteArray → Option Value}
theorem NearF.nil : NearF b (fun _ => none) (fun _ => none) := fun s _ => by simp
theorem NearF.skip (h : NearF b (midD D f left) r) {x : ByteArray} (hl : left x = true) (hc : b x = false ∨ (D x).isSome = true) : NearF b (midD D f (fun s => left s && !decide (s = x))) r := by
  intro s hs
  by_cases e : s = x
  · subst e
    rw [h s hs, midD_then, midD_here hl]
    rcases hc with hc | hc
    · simp [hc]
    · obtain ⟨y, hy⟩ := Option.isSome_iff_exists.1 hc
      simp [hy]
  · rw [h s hs, midD_other e]
theorem NearF.put (h : NearF b (midD D f left) r) {x : ByteArray} (u : Value) (hb : b x = true) (hf : (f x).isSome = true) : NearF b (midD D f (fun s => left s && !decide (s = x))) (fun s => if s = x then some u else r s) := by
  intro s hs
  by_cases e : s = x
  · subst e
    rw [midD_then]
    obtain ⟨y, hy⟩ := Option.isSome_iff_exists.1 hf
    cases D s <;> simp [hb, hy]
  · rw [midD_other e]
    simp [e, h s hs]
theorem NearF.congr {D' : LF} (h : NearF b D r) (e : ∀ s : ByteArray, s.size ≤ maxLen → D' s = D s) : NearF b D' r := fun s hs => by rw [h s hs, e s hs]
end
theorem visD_cons (y : Lyr) (l : List Lyr) (s : ByteArray) : visD (y :: l) s = (y.f s).or (visD l s) := by
  show (match y.f s with | some x => some x | none => visD l s) = _
  cases y.f s <;> rfl
/-- gathered, and in order: they are those that are seen -/
theorem Gath.seen {b : ByteArray → Bool} {l : List Lyr} {L : List Pr} (h : Gath b (visD l) L) {R : List Pr} (hR : Rise R) (hR2 : ∀ p ∈ R, p.1.size ≤ maxLen) (hv : ∀ s : ByteArray, s.size ≤ maxLen → getL R s = if b s = true then visV l s else none) {L' : List Pr} (hp : L'.Perm L) (hs : L'.Pairwise (fun p q => ltS q.1 p.1 = false)) : L' = R := by
  have hk : L'.Pairwise (fun p q => p.1 ≠ q.1) := (hp.pairwise_iff (fun {a b} h => Ne.symm h)).2 h.keys
  refine (Rise.of_sorted hs hk).eq_of_mem hR fun p => ?_
  rw [hp.mem_iff]
  constructor
  · intro hm
    have h1 := h.small p hm
    have h2 := (h.mem p.1 p.2 h1).1 hm
    rw [hR.mem, hv p.1 h1, if_pos h2.1]
    unfold visV
    rw [h2.2]; rfl
  · intro hm
    have h1 := hR2 p hm
    have h2 := hv p.1 h1
    rw [hR.get hm] at h2
    refine (h.mem p.1 p.2 h1).2 ?_
    by_cases hb : b p.1 = true
    · rw [if_pos hb] at h2
      refine ⟨hb, ?_⟩
      unfold visV at h2
      cases hd : visD l p.1 with
      | none => rw [hd] at h2; cases h2
      | some x => rw [hd] at h2; rw [show x = some p.2 from h2.symm]
    · rw [if_neg hb] at h2; cases h2
end Go.Proofs.YtniclaapiabmdaaGreatDoor
namespace Go.Proofs.YtniclaapiabmdaaGreatDoor
set_option maxRecDepth 100000
open Go Go.RowKit
set_option linter.unusedVariables false

/-- does the text s begin with p? -/
def begB (p s : ByteArray) : Bool := Lib.hasPrefix s.data.toList p.data.toList
theorem begB_empty (s : ByteArray) : begB ⟨#[]⟩ s = true := by simp [begB, Lib.hasPrefix]
theorem begB_long {p s : ByteArray} (h : ¬ p.size ≤ s.size) : begB p s = false := by
  unfold begB
  rw [← Lib.hasPrefix_of_take, ← Lib.size_eq, ← Lib.size_eq]
  simp [h]
theorem begB_cut {p s : ByteArray} (h : p.size ≤ s.size) : begB p s = ((s.extract 0 p.size).toList == p.toList) := by
  unfold begB
  rw [← Lib.hasPrefix_of_take, ← Lib.size_eq, ← Lib.size_eq]
  rw [Lib.extract_toList, Lib.toList_data]
  simp [h]

set_option maxHeartbeats 1000000 in
theorem litePrefix_any (s p : ByteArray) (w : World) :
    Calls Tryz.prog 123 #[.string s, .string p] w fun e w' => e = .returned (.bool (begB p s)) ∧ w' = w := by
  by_cases h : p.size ≤ s.size
  · rw [begB_cut h]
    have i1 : (p.size : Int) ≤ (s.size : Int) := by omega
    go_enter Tryz.func123, Tryz.ntmps123
    go_wp2
    all_goals first
      | (go_ret; exact ⟨rfl, rfl⟩)
      | (exfalso; rename_i h'; simp at h'; omega)
  · rw [begB_long h]
    have i1 : ¬ (p.size : Int) ≤ (s.size : Int) := by omega
    go_enter Tryz.func123, Tryz.ntmps123
    go_wp2
    all_goals first
      | (go_ret; exact ⟨rfl, rfl⟩)
      | (exfalso; rename_i h'; simp at h'; omega)
theorem prefix_any (s p : ByteArray) (w : World) :
    Calls Tryz.prog 72 #[.string s, .string p] w fun e w' => e = .returned (.bool (begB p s)) ∧ w' = w := by
  have hc := fun W => litePrefix_any s p W
  go_enter Tryz.func72, Tryz.ntmps72
  go_wp2_with fail
  refine (hc _).mono ?_
  rintro e w' ⟨rfl, rfl⟩
  go_wp2_with fail
  go_ret
  exact ⟨rfl, rfl⟩
end Go.Proofs.YtniclaapiabmdaaGreatDoor
namespace Go.Proofs.YtniclaapiabmdaaGreatDoor
set_option maxRecDepth 100000
open Go Go.RowKit
set_option linter.unusedVariables false

/-- block i is no row -/
def NoRow (w : World) (i : Nat) : Prop := ∀ cs t fr, w.heap[i]? ≠ some (.cells cs t fr)
section
variable {w w' : World} {B0 B b i : Nat} {t E : TypeId} {x v : Value} {l : List UInt8} {L : List Pr}
theorem Of.nc (h : Of w B0 t b) (hi : B0 ≤ i) (hn : NoRow w i) : b ≠ i := by
  rintro rfl
  rcases h with h | ⟨cs, fr, e⟩
  · omega
  · exact hn _ _ _ e
theorem RdS.nc (h : RdS w B0 x l) (hg : w.grownBy w' (some i)) (hi : B0 ≤ i) (hn : NoRow w i) : RdS w' B0 x l := by
  obtain ⟨h1, h2⟩ := h
  obtain ⟨A, c, rfl, hc, hm, hp⟩ := h1
  have key : ∀ b, 0 < l.length → (Value.slice A l.length c).ownBlock = some b → b < w.heap.size → w'.heap[b]? = w.heap[b]? := fun b h0 e hb =>
    hg.block b hb (fun e' => (h2 b h0 e).nc hi hn (Option.some.inj e'))
  refine ⟨⟨A, c, rfl, hc, hm, fun h0 => ?_⟩, fun b h0 e => ?_⟩
  · obtain ⟨b, o, rfl, hlt, hcell⟩ := hp h0
    exact ⟨b, o, rfl, Nat.lt_of_lt_of_le hlt hg.size, fun j hj => (World.cell?_of_block (a := ⟨b, o + j, none⟩) (key b h0 rfl hlt)).trans (hcell j hj)⟩
  · obtain ⟨b', o, rfl, hlt, hcell⟩ := hp h0
    have e' : b' = b := by simpa [Value.ownBlock] using e
    subst e'
    rcases h2 b' h0 rfl with h | ⟨cs, fr, e2⟩
    · exact .inl h
    · exact .inr ⟨cs, fr, (key b' h0 rfl hlt).trans e2⟩
theorem PrC.nc {c : List Value} {p : Pr} (h : PrC B0 w c p) (hg : w.grownBy w' (some i)) (hi : B0 ≤ i) (hn : NoRow w i) : PrC B0 w' c p := by
  obtain ⟨v, e, q⟩ := h
  exact ⟨v, e, q.nc hg hi hn⟩
theorem OwnP.nc (h : OwnP B0 w B v L) (hg : w.grownBy w' (some i)) (hi : B0 ≤ i) (hn : NoRow w i) : OwnP B0 w' B v L := by
  obtain ⟨cs, h, h1, h2, h3⟩ := h
  refine ⟨cs, World.ownsRow.kept h hg ?_, h1, h2, fun j hj hj' => (h3 j hj hj').nc hg hi hn⟩
  cases hv : v.ownBlock with
  | none => exact .inl rfl
  | some b =>
    right
    intro e
    rcases h.2 with ⟨rfl, _⟩ | ⟨g', cap, cur, rfl, hb, hg', _⟩
    · simp [Value.ownBlock] at hv
    · simp only [Value.ownBlock, Option.some.injEq] at hv
      subst hv
      injection e with e
      subst e
      exact hn _ _ _ hg'
theorem OwnP.notMap (h : OwnP B0 w B v L) (hn : NoRow w i) : some i ≠ v.ownBlock := by
  obtain ⟨cs, h, _⟩ := h
  rcases h.2 with ⟨rfl, _⟩ | ⟨g', cap, cur, rfl, hb, hg', _⟩
  · simp [Value.ownBlock]
  · intro e
    simp only [Value.ownBlock, Option.some.injEq] at e
    subst e
    exact hn _ _ _ hg'
theorem below_grown (hb : Below w.heap.size w w') (row : Option Nat) : w.grownBy w' row := ⟨hb.os, hb.tape, hb.output, hb.size, fun k hk _ => hb.block k hk⟩
theorem noRow_map {es : Array MapEntry} {c : Nat} (h : w.heap[i]? = some (.map es c)) : NoRow w i := by
  intro cs t fr e
  rw [h] at e; cases e
theorem MapS.noRow {m n : Nat} {g : ByteArray → Option Value} (h : MapS Tryz.prog 9 w m n g) : NoRow w m := by
  obtain ⟨es, c, e⟩ := h.isMap
  exact noRow_map e
theorem RangeS.noRow {m r n : Nat} {g : ByteArray → Option Value} {left : ByteArray → Bool} {cnt : Nat} (h : RangeS Tryz.prog 9 w m r n g left cnt) : NoRow w r := by
  obtain ⟨D, lf, h1, _⟩ := h
  obtain ⟨_, _, _, _, _, _, _, _, _, hit, _⟩ := h1
  intro cs t fr e
  rw [hit] at e; cases e
theorem RangeS.lt {m r n : Nat} {g : ByteArray → Option Value} {left : ByteArray → Bool} {cnt : Nat} (h : RangeS Tryz.prog 9 w m r n g left cnt) : r < w.heap.size := by
  obtain ⟨D, lf, h1, _⟩ := h
  exact h1.lt
end

def sumN (l : List Lyr) : Nat := (l.map (·.n)).sum
theorem sumN_cons (y : Lyr) (l : List Lyr) : sumN (y :: l) = y.n + sumN l := by simp [sumN]
/-- which keys the nearer layers have of their own: as the map of nothings holds them -/
def NearU (b : ByteArray → Bool) (D : LF) (r : ByteArray → Option Value) : Prop := ∀ s : ByteArray, s.size ≤ maxLen → r s = if (b s && (D s).isSome) = true then some (.agg #[]) else none
section
variable {b : ByteArray → Bool} {D D' f : LF} {left : ByteArray → Bool} {r : ByteArray → Option Value}
theorem NearU.nil : NearU b (fun _ => none) (fun _ => none) := fun s _ => by simp
theorem NearU.congr (h : NearU b D r) (e : ∀ s : ByteArray, s.size ≤ maxLen → D' s = D s) : NearU b D' r := fun s hs => by rw [h s hs, e s hs]
theorem NearU.skip (h : NearU b (midD D f left) r) {x : ByteArray} (hl : left x = true) (hc : b x = false ∨ (D x).isSome = true) : NearU b (midD D f (fun s => left s && !decide (s = x))) r := by
  intro s hs
  by_cases e : s = x
  · subst e
    rw [h s hs, midD_then, midD_here hl]
    rcases hc with hc | hc
    · simp [hc]
    · obtain ⟨y, hy⟩ := Option.isSome_iff_exists.1 hc
      simp [hy]
  · rw [h s hs, midD_other e]
theorem NearU.put (h : NearU b (midD D f left) r) {x : ByteArray} (hb : b x = true) (hf : (f x).isSome = true) : NearU b (midD D f (fun s => left s && !decide (s = x))) (fun s => if s = x then some (.agg #[]) else r s) := by
  intro s hs
  by_cases e : s = x
  · subst e
    rw [midD_then]
    obtain ⟨y, hy⟩ := Option.isSome_iff_exists.1 hf
    cases D s <;> simp [hb, hy]
  · rw [midD_other e]
    simp [e, h s hs]
end

/-- ahead of a layer -/
structure OutS (pfx : ByteArray) (w : World) (m0 N : Nat) (l suf : List Lyr) (bv : Value) (W : World) : Prop where
  hp : PileS w suf
  rest : ∃ D L, (∀ s : ByteArray, s.size ≤ maxLen → visD l s = (D s).or (visD suf s)) ∧ Gath (begB pfx) D L ∧ OwnP w.heap.size W (w.heap.size + 1) bv L ∧
    (∃ n nr, MapS Tryz.prog 9 W m0 n nr ∧ (suf.isEmpty = false → NearU (begB pfx) D nr) ∧ n + sumN suf ≤ N) ∧ L.length + sumN suf ≤ N
  hb : Below w.heap.size w W
  hs : w.heap.size + 1 ≤ W.heap.size
/-- in the midst of one -/
structure InS (pfx : ByteArray) (w : World) (m0 N : Nat) (l : List Lyr) (y : Lyr) (r : List Lyr) (it : Nat) (g : ByteArray → Option Value) (D : LF) (lR : ByteArray → Bool) (cR : Nat) (lG : ByteArray → Bool) (cG : Nat) (lN : ByteArray → Bool) (cN : Nat) (L : List Pr) (n : Nat) (nr : ByteArray → Option Value) (bv : Value) (W : World) : Prop where
  it_ge : w.heap.size + 1 ≤ it
  m0_is : m0 = w.heap.size
  hp : PileS w (y :: r)
  hv : ∀ s : ByteArray, s.size ≤ maxLen → visD l s = (D s).or (visD (y :: r) s)
  hr : RangeS Tryz.prog 9 W y.m it y.n g lR cR
  hg : Gath (begB pfx) (midD D y.f lG) L
  ho : OwnP w.heap.size W (w.heap.size + 1) bv L
  hm : MapS Tryz.prog 9 W m0 n nr
  hn : NearU (begB pfx) (if r.isEmpty = true then D else midD D y.f lN) nr
  hcN : n + cN + sumN r ≤ N
  hcL : L.length + cG + sumN r ≤ N
  hb : Below w.heap.size w W
section
variable {pfx : ByteArray} {w W W' : World} {m0 N : Nat} {l r : List Lyr} {y : Lyr} {it : Nat} {g : ByteArray → Option Value} {D : LF} {lR lG lN : ByteArray → Bool} {cR cG cN : Nat} {L : List Pr} {n : Nat} {nr : ByteArray → Option Value} {bv : Value}
theorem InS.ym (h : InS pfx w m0 N l y r it g D lR cR lG cG lN cN L n nr bv W) : y.m < w.heap.size := h.hp.1.lt.2
theorem InS.up (h : InS pfx w m0 N l y r it g D lR cR lG cG lN cN L n nr bv W) (hb : Below W.heap.size W W') : InS pfx w m0 N l y r it g D lR cR lG cG lN cN L n nr bv W' where
  it_ge := h.it_ge
  m0_is := h.m0_is
  hp := h.hp
  hv := h.hv
  hr := h.hr.kept (below_grown hb none) (by simp) (by simp)
  hg := h.hg
  ho := h.ho.up hb
  hm := h.hm.chg (.of_below hb (fun _ => False)) id
  hn := h.hn
  hcN := h.hcN
  hcL := h.hcL
  hb := below_chain h.hb h.hb.size hb
theorem InS.next (h : InS pfx w m0 N l y r it g D lR cR lG cG lN cN L n nr bv W) {lR' : ByteArray → Bool} {cR' : Nat} (hr : RangeS Tryz.prog 9 W' y.m it y.n g lR' cR') (hg : W.grownBy W' (some it)) : InS pfx w m0 N l y r it g D lR' cR' lG cG lN cN L n nr bv W' where
  it_ge := h.it_ge
  m0_is := h.m0_is
  hp := h.hp
  hv := h.hv
  hr := hr
  hg := h.hg
  ho := h.ho.nc hg (by have := h.it_ge; omega) h.hr.noRow
  hm := h.hm.chg (F := fun k => k = it) (.of_grown hg fun k e => (Option.some.inj e).symm) (by have := h.it_ge; have := h.m0_is; omega)
  hn := h.hn
  hcN := h.hcN
  hcL := h.hcL
  hb := h.hb.grown hg h.hb.size (fun k e => by have := h.it_ge; injection e; omega)
theorem InS.skipN (h : InS pfx w m0 N l y r it g D lR cR lG cG lN cN L n nr bv W) {x : ByteArray} {c : Nat} (hl : lN x = true) (hc : c ≤ cN) (hk : r.isEmpty = true ∨ begB pfx x = false ∨ (D x).isSome = true) : InS pfx w m0 N l y r it g D lR cR lG cG (fun s => lN s && !decide (s = x)) c L n nr bv W :=
  { h with
    hn := by
      have := h.hn
      cases hr : r.isEmpty with
      | true => rw [hr] at this; simpa using this
      | false =>
        rw [hr] at this hk
        simp only [Bool.false_eq_true, if_false, false_or] at this hk ⊢
        exact this.skip hl hk
    hcN := by have := h.hcN; omega }
theorem InS.skipG (h : InS pfx w m0 N l y r it g D lR cR lG cG lN cN L n nr bv W) {x : ByteArray} {c : Nat} (hl : lG x = true) (hc : c ≤ cG) (hk : begB pfx x = false ∨ (D x).isSome = true ∨ y.f x = some none) : InS pfx w m0 N l y r it g D lR cR (fun s => lG s && !decide (s = x)) c lN cN L n nr bv W :=
  { h with
    hg := h.hg.skip hl hk
    hcL := by have := h.hcL; omega }
theorem InS.put (h : InS pfx w m0 N l y r it g D lR cR lG cG lN cN L n nr bv W) {x : ByteArray} {c : Nat} (hc : c < cN) (hb : begB pfx x = true) (hf : (y.f x).isSome = true) (hre : r.isEmpty = false) (hm : MapS Tryz.prog 9 W' m0 (n + 1) (fun s => if s = x then some (.agg #[]) else nr s)) (ht : W.mapTurned W' m0) :
    InS pfx w m0 N l y r it g D lR cR lG cG (fun s => lN s && !decide (s = x)) c L (n + 1) (fun s => if s = x then some (.agg #[]) else nr s) bv W' where
  it_ge := h.it_ge
  m0_is := h.m0_is
  hp := h.hp
  hv := h.hv
  hr := h.hr.kept ht.grown (by have := h.ym; have := h.m0_is; intro e; injection e; omega) (by have := h.it_ge; have := h.m0_is; intro e; injection e; omega)
  hg := h.hg
  ho := h.ho.nc ht.grown (by have := h.m0_is; omega) h.hm.noRow
  hm := hm
  hn := by
    have := h.hn
    rw [hre] at this ⊢
    simp only [Bool.false_eq_true, if_false] at this ⊢
    exact this.put hb hf
  hcN := by have := h.hcN; omega
  hcL := h.hcL
  hb := h.hb.grown ht.grown h.hb.size (fun k e => by have := h.m0_is; injection e; omega)
theorem InS.take (h : InS pfx w m0 N l y r it g D lR cR lG cG lN cN L n nr bv W) {x : ByteArray} {v : List UInt8} {c : Nat} {bv' : Value} (hc : c < cG) (hx : x.size ≤ maxLen) (hl : lG x = true) (hb : begB pfx x = true) (hD : D x = none) (hf : y.f x = some (some v)) (ho : OwnP w.heap.size W' (w.heap.size + 1) bv' (L ++ [(x, v)])) (hg : W.grownBy W' bv.ownBlock) :
    InS pfx w m0 N l y r it g D lR cR (fun s => lG s && !decide (s = x)) c lN cN (L ++ [(x, v)]) n nr bv' W' where
  it_ge := h.it_ge
  m0_is := h.m0_is
  hp := h.hp
  hv := h.hv
  hr := h.hr.kept hg (h.ho.notMap h.hr.owns.noRow) (h.ho.notMap h.hr.noRow)
  hg := h.hg.take hx hl hb hD hf
  ho := ho
  hm := h.hm.chg (F := fun k => bv.ownBlock = some k) (.of_grown hg fun k e => e) (fun e => h.ho.notMap h.hm.noRow e.symm)
  hn := h.hn
  hcN := h.hcN
  hcL := by have := h.hcL; rw [List.length_append, List.length_singleton]; omega
  hb := h.hb.grown hg h.hb.size (fun k e => by have := (OwnX.lt h.ho k e).1; omega)
theorem InS.near (h : InS pfx w m0 N l y r it g D lR cR lG cG lN cN L n nr bv W) {x : ByteArray} (hx : x.size ≤ maxLen) (hl : lN x = true) (hb : begB pfx x = true) : nr x = if (D x).isSome = true then some (.agg #[]) else none := by
  rw [h.hn x hx, hb]
  cases hr : r.isEmpty with
  | true => simp
  | false => simp [midD_here hl]
theorem InS.close (h : InS pfx w m0 N l y r it g D lR cR lR cG lR cN L n nr bv W) (hd : ∀ s : ByteArray, s.size ≤ maxLen → lR s = false) : OutS pfx w m0 N l r bv W where
  hp := h.hp.tail
  rest := by
    have h1 := midD_done (D := D) (f := y.f) hd
    refine ⟨fun s => (D s).or (y.f s), L, fun s hs => ?_, h.hg.congr fun s hs _ v => by rw [h1 s hs], h.ho, ⟨n, nr, h.hm, fun hre => ?_, by have := h.hcN; omega⟩, by have := h.hcL; omega⟩
    · rw [h.hv s hs, visD_cons]
      show _ = ((D s).or (y.f s)).or (visD r s)
      cases D s <;> rfl
    · have := h.hn
      rw [hre] at this
      simp only [Bool.false_eq_true, if_false] at this
      exact this.congr fun s hs => (h1 s hs).symm
  hb := h.hb
  hs := by have := h.hr.lt; have := h.it_ge; omega
theorem OutS.open (h : OutS pfx w m0 N l (y :: r) bv W) (hm0 : m0 = w.heap.size) {it cnt : Nat} (hS : SaysF w g y.f) (hr : RangeS Tryz.prog 9 W' y.m it y.n g (fun s => (g s).isSome) cnt) (hit : it = W.heap.size) (hc : cnt ≤ y.n) (hg : W.grownBy W' none) :
    ∃ D L n nr, InS pfx w m0 N l y r it g D (fun s => (g s).isSome) cnt (fun s => (g s).isSome) cnt (fun s => (g s).isSome) cnt L n nr bv W' := by
  obtain ⟨D, L, h1, h2, h3, ⟨n, nr, h4, h5, h6⟩, h7⟩ := h.rest
  have hbl : Below W.heap.size W W' := ⟨hg.os, hg.tape, hg.output, hg.size, fun k hk => hg.block k hk (by simp)⟩
  have hms := midD_start (D := D) hS
  refine ⟨D, L, n, nr, ⟨by have := h.hs; omega, hm0, h.hp, h1, hr, h2.congr fun s hs _ v => by rw [hms s hs], h3.up hbl, h4.chg (.of_below hbl (fun _ => False)) id, ?_, by rw [sumN_cons] at h6; omega, by rw [sumN_cons] at h7; omega, below_chain h.hb h.hb.size hbl⟩⟩
  have := h5 rfl
  split
  · exact this
  · exact this.congr hms
theorem OutS.up {suf : List Lyr} (h : OutS pfx w m0 N l suf bv W) (hb : Below W.heap.size W W') : OutS pfx w m0 N l suf bv W' where
  hp := h.hp
  rest := by
    obtain ⟨D, L, h1, h2, h3, ⟨n, nr, h4, h5, h6⟩, h7⟩ := h.rest
    exact ⟨D, L, h1, h2, h3.up hb, ⟨n, nr, h4.chg (.of_below hb (fun _ => False)) id, h5, h6⟩, h7⟩
  hb := below_chain h.hb h.hb.size hb
  hs := Nat.le_trans h.hs hb.size
end
/-- what is seen under a prefix, in order -/
structure SeenL (pfx : ByteArray) (l : List Lyr) (R : List Pr) : Prop where
  rise : Rise R
  small : ∀ p ∈ R, p.1.size ≤ maxLen
  get : ∀ s : ByteArray, s.size ≤ maxLen → getL R s = if begB pfx s = true then visV l s else none
end Go.Proofs.YtniclaapiabmdaaGreatDoor
