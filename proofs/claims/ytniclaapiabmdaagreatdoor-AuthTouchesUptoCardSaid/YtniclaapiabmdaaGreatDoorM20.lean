/- Texts joined: StoS3, StoR. -/
import Derived.Test.YtniclaapiabmdaaGreatDoorM07
import Derived.Test.YtniclaapiabmdaaGreatDoorM05
import Derived.Test.YtniclaapiabmdaaGreatDoorM01
import Derived.Test.YtniclaapiabmdaaGreatDoorM08
import Derived.Deep.LoopGhost
import Derived.Deep.RegionHeldLaw
import Derived.StillTailTactics
import Derived.Test.YtniclaapiabmdaaGreatDoorShfS
import Derived.Shelf.SlSortFuncK.HeapSortK
import Derived.Shelf.SlSortCmp.NoneTotal
import Derived.Shelf.SlSortCmp.WholeK
namespace Go.Proofs.YtniclaapiabmdaaGreatDoor
set_option maxRecDepth 100000
open Go Go.RowKit
set_option linter.unusedVariables false

/-- what a change of a branch is in its parent: in the lowest store, 'gone' is nothing -/
def wrC (bot : Bool) (x : Option (List UInt8)) : Option (Option (List UInt8)) := if bot = true ∧ x = none then none else some x
/-- what a parent says of a key when a branch with f has been written -/
def wrF (bot : Bool) (f h : LF) (left : ByteArray → Bool) : LF := fun s => if left s = true then h s else match f s with | none => h s | some x => wrC bot x
theorem wrF_other {bot : Bool} {f h : LF} {left : ByteArray → Bool} {x s : ByteArray} (e : s ≠ x) : wrF bot f h (fun s => left s && !decide (s = x)) s = wrF bot f h left s := by
  unfold wrF; simp [e]
theorem wrF_here {bot : Bool} {f h : LF} {left : ByteArray → Bool} {x : ByteArray} {v : Option (List UInt8)} (e : f x = some v) : wrF bot f h (fun s => left s && !decide (s = x)) x = wrC bot v := by
  unfold wrF; simp [e]
/-- in the midst of writing a branch -/
structure WrS (w : World) (y z : Lyr) (l : List Lyr) (g : ByteArray → Option Value) (it : Nat) (left : ByteArray → Bool) (cnt : Nat) (left' : ByteArray → Bool) (cnt' : Nat) (n : Nat) (f : LF) (W : World) : Prop where
  it_ge : w.heap.size ≤ it
  hp0 : PileS w (y :: z :: l)
  hs : SaysF w g y.f
  hr : RangeS Tryz.prog 9 W y.m it y.n g left cnt
  hp : PileS W (⟨z.b, z.m, n, f⟩ :: l)
  hf : ∀ s : ByteArray, s.size ≤ maxLen → f s = wrF l.isEmpty y.f z.f left' s
  hn : n + cnt' ≤ z.n + y.n
  hc : Chg w W (fun k => k = z.m)
section
variable {w W W' : World} {y z : Lyr} {l : List Lyr} {g : ByteArray → Option Value} {it : Nat} {left left' : ByteArray → Bool} {cnt cnt' n : Nat} {f : LF}
theorem WrS.maps (h : WrS w y z l g it left cnt left' cnt' n f W) : AllMaps w (fun k => k = z.m) := h.hp0.2.2.1.maps
theorem WrS.up (h : WrS w y z l g it left cnt left' cnt' n f W) (hb : Below W.heap.size W W') : WrS w y z l g it left cnt left' cnt' n f W' where
  it_ge := h.it_ge
  hp0 := h.hp0
  hs := h.hs
  hr := h.hr.kept (below_grown hb none) (by simp) (by simp)
  hp := h.hp.up hb
  hf := h.hf
  hn := h.hn
  hc := h.hc.trans' (.of_below hb _)
theorem Rd.off {w w' : World} {B : Nat} {v : Value} {b : List UInt8} (h : Rd w B v b) {i : Nat} (hg : w.grownBy w' (some i)) (hB : B ≤ w.heap.size) (hi : NoRow w i) : Rd w' B v b := by
  obtain ⟨A, c, rfl, hc, hm, hp⟩ := h
  refine ⟨A, c, rfl, hc, hm, fun h0 => ?_⟩
  obtain ⟨b', o, rfl, hlt, hcell⟩ := hp h0
  refine ⟨b', o, rfl, hlt, fun j hj => ?_⟩
  have hc := hcell j hj
  have hne : some b' ≠ some i := by
    intro e
    injection e with e
    subst e
    unfold World.cell? at hc
    cases hh : w.heap[b']? with
    | none => simp [hh] at hc
    | some o =>
      cases o with
      | cells cs t fr => exact hi _ _ _ hh
      | _ => simp [hh] at hc
  rw [World.cell?_of_block (a := ⟨b', o + j, none⟩) (hg.block b' (by omega) hne)]
  exact hc
end

section
variable {y : Lyr} {g : ByteArray → Option Value} {left : ByteArray → Bool} {cnt : Nat}
/-- block i is neither a row nor a map: an iterator -/
def Idle (w : World) (i : Nat) : Prop := NoRow w i ∧ ∀ es c, w.heap[i]? ≠ some (.map es c)
theorem RangeS.idle {w : World} {m r n : Nat} (h : RangeS Tryz.prog 9 w m r n g left cnt) : Idle w r := by
  refine ⟨h.noRow, fun es c e => ?_⟩
  obtain ⟨D, lf, h1, _⟩ := h
  obtain ⟨_, _, _, _, _, _, _, _, _, hit, _⟩ := h1
  rw [hit] at e; cases e
variable {w w' : World} {i : Nat}
theorem LayS.off {p : Value} (h : LayS w y p) (hg : w.grownBy w' (some i)) (hi : Idle w i) : LayS w' y p := by
  have hb : some y.b ≠ some i := fun e => by injection e with e; subst e; exact hi.1 _ _ _ h.cells
  obtain ⟨g, h1, h2⟩ := h.own
  have hm : ¬ y.m = i := fun e => by
    obtain ⟨es, c, e'⟩ := h1.isMap
    rw [e] at e'; exact hi.2 _ _ e'
  refine ⟨(hg.block _ h.lt.1 hb).trans h.cells, ⟨g, h1.chg (F := fun k => k = i) (.of_grown hg fun k e => (Option.some.inj e).symm) hm, fun s hs => ?_⟩, h.ok⟩
  rcases h2 s hs with q | ⟨e, x, q1, q2, q3⟩
  · exact .inl q
  · refine .inr ⟨e, x, q1, q2, ?_⟩
    cases x with
    | none => exact q3
    | some l =>
      obtain ⟨sl, r1, r2⟩ := q3
      exact ⟨sl, r1, (r2.off hg (Nat.le_refl _) hi.1).more hg.size⟩
theorem PileS.off {l : List Lyr} (h : PileS w l) (hg : w.grownBy w' (some i)) (hi : Idle w i) : PileS w' l := by
  induction l with
  | nil => trivial
  | cons y l ih =>
    obtain ⟨h1, h2, h3⟩ := h
    exact ⟨h1.off hg hi, h2, ih h3⟩
end
section
variable {w W W' : World} {y z : Lyr} {l : List Lyr} {g : ByteArray → Option Value} {it : Nat} {left left' : ByteArray → Bool} {cnt cnt' n : Nat} {f : LF}
theorem WrS.next (h : WrS w y z l g it left cnt left' cnt' n f W) {lR : ByteArray → Bool} {cR : Nat} (hr : RangeS Tryz.prog 9 W' y.m it y.n g lR cR) (hg : W.grownBy W' (some it)) : WrS w y z l g it lR cR left' cnt' n f W' where
  it_ge := h.it_ge
  hp0 := h.hp0
  hs := h.hs
  hr := hr
  hp := h.hp.off hg h.hr.idle
  hf := h.hf
  hn := h.hn
  hc := h.hc.trans (.of_grown hg fun k e => .inr ⟨by injection e; have := h.it_ge; omega, by injection e; have := h.hr.lt; omega⟩)
theorem WrS.ne (h : WrS w y z l g it left cnt left' cnt' n f W) : z.m ≠ y.m := h.hp0.2.1 z (by simp)
theorem WrS.turn (h : WrS w y z l g it left cnt left' cnt' n f W) {x : ByteArray} {v : Option (List UInt8)} {c : Nat} (hx : y.f x = some v) (hcl : c < cnt') {n2 : Nat} {f2 : LF} (hp : PileS W' (⟨z.b, z.m, n2, f2⟩ :: l)) (hf2 : ∀ s, f2 s = if s = x then wrC l.isEmpty v else f s) (hn2 : n2 ≤ n + 1) (hc : Chg W W' (fun k => k = z.m)) :
    WrS w y z l g it left cnt (fun s => left' s && !decide (s = x)) c n2 f2 W' where
  it_ge := h.it_ge
  hp0 := h.hp0
  hs := h.hs
  hr := by
    have hz := h.ne
    have hlt := h.hp0.2.2.1.lt.2
    refine h.hr.kept (row := some z.m) ⟨hc.os, hc.tape, hc.output, hc.size, fun k hk hn => hc.block k hk fun e => hn (by rw [e])⟩ (fun e => hz (Option.some.inj e).symm) (fun e => ?_)
    have := h.it_ge
    injection e with e
    omega
  hp := hp
  hf := by
    intro s hs
    rw [hf2]
    by_cases e : s = x
    · subst e
      rw [if_pos rfl, wrF_here hx]
    · rw [if_neg e, wrF_other e, h.hf s hs]
  hn := by have := h.hn; omega
  hc := h.hc.trans' hc
end
end Go.Proofs.YtniclaapiabmdaaGreatDoor
namespace Go.Proofs.YtniclaapiabmdaaGreatDoor
set_option maxRecDepth 100000
open Go Go.RowKit
set_option linter.unusedVariables false

end Go.Proofs.YtniclaapiabmdaaGreatDoor
namespace Go.Proofs.YtniclaapiabmdaaGreatDoor
set_option maxRecDepth 100000
open Go Go.RowKit Go.Shelf Go.Lib Go.Sort
set_option linter.unusedVariables false

theorem perm_lift {α β : Type} (f : β → α) {l' l : List α} (h : l'.Perm l) : ∀ Z : List β, Z.map f = l → ∃ Z' : List β, Z'.Perm Z ∧ Z'.map f = l' := by
  induction h with
  | nil =>
    intro Z hZ
    cases Z with
    | nil => exact ⟨[], List.Perm.nil, rfl⟩
    | cons a Z => cases hZ
  | cons x h ih =>
    intro Z hZ
    cases Z with
    | nil => cases hZ
    | cons z Z =>
      simp only [List.map_cons, List.cons.injEq] at hZ
      obtain ⟨Z', h1, h2⟩ := ih Z hZ.2
      exact ⟨z :: Z', h1.cons z, by simp [h2, hZ.1]⟩
  | swap x y l =>
    intro Z hZ
    cases Z with
    | nil => cases hZ
    | cons a Z =>
      cases Z with
      | nil => simp at hZ
      | cons b Z =>
        simp only [List.map_cons, List.cons.injEq] at hZ
        exact ⟨b :: a :: Z, List.Perm.swap _ _ _, by simp [hZ.1, hZ.2.1, hZ.2.2]⟩
  | trans h1 h2 ih1 ih2 =>
    intro Z hZ
    obtain ⟨Z2, p2, e2⟩ := ih2 Z hZ
    obtain ⟨Z1, p1, e1⟩ := ih1 Z2 e2
    exact ⟨Z1, p1.trans p2, e1⟩

/-- a pair's two cells, as the sort moves them -/
abbrev PairV := ByteArray × (Option Addr × Nat × Nat)
def encP (x : PairV) : List Value := [.string x.1, .slice x.2.1 x.2.2.1 x.2.2.2]
def cmpP (x y : PairV) : Int := Lib.compareBytes x.1.data.toList y.1.data.toList

theorem cmpB_neg : ∀ a b : List UInt8, decide (Lib.compareBytes a b < 0) = Op.bytesLess a b
  | [], [] => rfl
  | [], _ :: _ => rfl
  | _ :: _, [] => rfl
  | a :: r, b :: r' => by
    unfold Lib.compareBytes Op.bytesLess
    by_cases h1 : a < b
    · simp [h1]
    · by_cases h2 : b < a
      · simp [h1, h2]
        intro e
        subst e
        exact absurd h2 h1
      · simp [h1, h2, cmpB_neg r r']
        intro _
        rw [UInt8.lt_iff_toNat_lt] at h1 h2
        exact UInt8.toNat_inj.1 (by omega)
theorem lt_cmpP (x y : PairV) : ltOf cmpP x y = ltS x.1 y.1 := by
  unfold ltOf cmpP ltS
  rw [cmpB_neg, Lib.toList_data, Lib.toList_data]
theorem swoP : SWO (ltOf cmpP) where
  irrefl x := by rw [lt_cmpP]; exact ltS_irrefl _
  trans x y z h k := by rw [lt_cmpP] at *; exact ltS_trans h k
  ntrans x y z h k := by
    rw [lt_cmpP] at *
    cases e : ltS x.1 z.1 with
    | false => rfl
    | true =>
      by_cases exy : x.1 = y.1
      · rw [exy] at e; rw [e] at k; cases k
      · have := ltS_trans (ltS_tri h exy) e
        rw [this] at k; cases k

set_option maxHeartbeats 1000000 in
theorem cmpPair_any (x y : PairV) (W : World) : Calls Tryz.prog 74 #[.agg (encP x).toArray, .agg (encP y).toArray] W fun e w' => e = .returned (.int .i64 (cmpP x y)) ∧ ∃ q os', w' = grow (W.drewN q) os' := by
  have hcon := fun W' => Tryz.strings_Compare x.1 y.1 W'
  have e : Lib.compareBytes x.1.data.toList y.1.data.toList = cmpP x y := rfl
  rw [e] at hcon
  generalize cmpP x y = r at hcon ⊢
  unfold encP
  obtain ⟨x1, xa, xn, xc⟩ := x
  obtain ⟨y1, ya, yn, yc⟩ := y
  dsimp only at hcon ⊢
  go_enter Tryz.func74, Tryz.ntmps74
  go_wp2_with (go_at_call 75; refine (hcon _).mono ?_; rintro e w' ⟨rfl, rfl⟩)
  go_ret
  exact ⟨rfl, 0, _, by rw [alloc_eq_grow, alloc_eq_grow, grow_grow]; rfl⟩
end Go.Proofs.YtniclaapiabmdaaGreatDoor
namespace Go.Proofs.YtniclaapiabmdaaGreatDoor
set_option maxRecDepth 100000
open Go Go.RowKit Go.Shelf Go.Lib Go.Sort
set_option linter.unusedVariables false

instance : Inhabited PairV := ⟨(⟨#[]⟩, none, 0, 0)⟩
theorem encP_len (x : PairV) : (encP x).length = 2 := rfl
theorem encP_one (x : PairV) : ∀ v ∈ encP x, v.oneCell' = true := by
  intro v hv
  unfold encP at hv
  simp only [List.mem_cons, List.not_mem_nil, or_false] at hv
  rcases hv with rfl | rfl <;> rfl
theorem flatP (Z : List PairV) : (flatK encP 2 Z.toArray).toList = (Z.map encP).flatten := by
  have hl : ((Z.map encP).flatten).length = Z.length * 2 := by rw [flat_len (sz := 2) (Z.map encP) (fun c hc => by obtain ⟨z, _, rfl⟩ := List.mem_map.1 hc; rfl)]; simp
  refine List.ext_getElem? fun t => ?_
  by_cases ht : t < Z.length * 2
  · have hj : t / 2 < Z.length := by omega
    have e : t = t / 2 * 2 + t % 2 := by omega
    have h1 := flat_get (sz := 2) (Z.map encP) (fun c hc => by obtain ⟨z, _, rfl⟩ := List.mem_map.1 hc; rfl) (t / 2) (t % 2) (by simpa using hj) (by omega)
    rw [← e] at h1
    rw [h1, List.getElem_map, Array.getElem?_toList, Array.getElem?_eq_getElem (by simpa using ht), ← getElem!_pos (flatK encP 2 Z.toArray) t (by simpa using ht), get_flatK _ _ _ _ (by simpa using ht)]
    rw [getElem!_pos Z.toArray (t / 2) (by simpa using hj), List.getElem_toArray]
    have h2 : t % 2 < (encP Z[t / 2]).length := by rw [encP_len]; omega
    rw [getElem!_pos (encP Z[t / 2]) (t % 2) h2, List.getElem?_eq_getElem h2]
  · have hl2 : (flatK encP 2 Z.toArray).toList.length = Z.length * 2 := by rw [Array.length_toList, size_flatK]; simp
    rw [List.getElem?_eq_none (by omega), List.getElem?_eq_none (by omega)]

theorem heap_sortK {w : World} {g n : Nat} {os : Array Obj} {cur : Array Value} {e : TypeId} {fr : Nat × Nat} (d : Array PairV) (hb : w.heap[g]? = some (.cells cur e fr)) :
    (sortWorldK encP 2 w g 0 n d os).heap[g]? = some (.cells (putCells id 0 (flatK encP 2 d) cur) e fr) := by
  have hg : g < w.heap.size := (Array.getElem?_eq_some_iff.1 hb).1
  unfold sortWorldK putRowK
  rw [heap_grow_old _ _ (by simpa using hg)]
  simp [putRow, mapBlock, Sort.ahead, Array.getElem?_modify, hb, onCells]
theorem grownBy_sortK {w : World} {g n : Nat} {os : Array Obj} (d : Array PairV) : w.grownBy (sortWorldK encP 2 w g 0 n d os) (some g) := by
  unfold sortWorldK putRowK
  refine ⟨rfl, rfl, rfl, by simp, fun k hk hne => ?_⟩
  rw [heap_grow_old _ _ (by simpa using hk)]
  have : g ≠ k := fun e => hne (by rw [e])
  simp [putRow, mapBlock, Sort.ahead, Array.getElem?_modify, this]
theorem take_sortK (cur : Array Value) (Z : List PairV) (h : Z.length * 2 ≤ cur.size) : (putCells id 0 (flatK encP 2 Z.toArray) cur).toList.take (Z.length * 2) = (Z.map encP).flatten := by
  rw [← flatP]
  apply List.ext_getElem?
  intro j
  by_cases hj : j < Z.length * 2
  · rw [List.getElem?_take_of_lt hj, Array.getElem?_toList, Array.getElem?_toList]
    have h1 : j < (flatK encP 2 Z.toArray).size := by simpa using hj
    rw [Array.getElem?_eq_getElem h1, Array.getElem?_eq_getElem (by simp [putCells]; omega)]
    simp [putCells, hj, getElem!_pos (flatK encP 2 Z.toArray) j h1]
  · rw [List.getElem?_take_eq_none (by omega), List.getElem?_eq_none (by simp; omega)]
theorem holds_sortK {w : World} {g : Nat} {cur : Array Value} {e : TypeId} {Z : List PairV} (hb : w.heap[g]? = some (.cells cur e (0, 0))) (ht : cur.toList.take (Z.length * 2) = (Z.map encP).flatten) : HoldsK encP 2 w g 0 Z.toArray := by
  unfold HoldsK
  intro j hj
  have hj' : j < Z.length * 2 := by simpa using hj
  refine ⟨?_, by simp [World.frozen?, hb]⟩
  have h1 : (cur.toList.take (Z.length * 2))[j]? = (flatK encP 2 Z.toArray).toList[j]? := by rw [ht, flatP]
  rw [List.getElem?_take_of_lt hj'] at h1
  simp only [World.cell?, hb, Nat.zero_add]
  simp only [Option.isSome_none, Bool.false_eq_true, if_false]
  rw [← Array.getElem?_toList, h1, Array.getElem?_toList, Array.getElem?_eq_getElem hj, getElem!_pos (flatK encP 2 Z.toArray) j hj]
  rfl

theorem cmpLaysP (blk off size : Nat) (w : World) : CmpLays Tryz.prog 74 #[] encP 2 cmpP blk off size w := fun m os dk _ x y => cmpPair_any x y _

/-- pairs with where their values lie -/
theorem enc_of {B0 : Nat} {w : World} : ∀ {cs : List (List Value)} {L : List Pr}, cs.length = L.length → (∀ (j : Nat) (h : j < cs.length) (h' : j < L.length), PrC B0 w cs[j] L[j]) →
    ∃ Y : List (Pr × PairV), Y.map (fun y => y.1) = L ∧ Y.map (fun y => encP y.2) = cs ∧ ∀ y ∈ Y, y.2.1 = y.1.1 ∧ PrC B0 w (encP y.2) y.1
  | [], [], _, _ => ⟨[], rfl, rfl, by simp⟩
  | [], _ :: _, h, _ => by simp at h
  | _ :: _, [], h, _ => by simp at h
  | c :: cs, p :: L, h, k => by
    obtain ⟨Y, h1, h2, h3⟩ := enc_of (cs := cs) (L := L) (by simpa using h) (fun j hj hj' => k (j + 1) (Nat.succ_lt_succ hj) (Nat.succ_lt_succ hj'))
    have k0 : PrC B0 w c p := k 0 (by simp) (by simp)
    obtain ⟨v, hc, hr⟩ := id k0
    obtain ⟨A, q, hv⟩ := hr.1.form
    have he : encP (p.1, A, p.2.length, q) = c := by rw [hc, hv]; rfl
    refine ⟨(p, (p.1, A, p.2.length, q)) :: Y, by simp [h1], by simp [h2, he], fun y hy => ?_⟩
    rcases List.mem_cons.1 hy with rfl | hy
    · exact ⟨rfl, by rw [he]; exact k0⟩
    · exact h3 y hy

set_option maxHeartbeats 1000000 in
theorem sort_any {w : World} {B0 B : Nat} {v : Value} {L : List Pr} (h : OwnP B0 w B v L) (hB : B0 ≤ B) (hw : B ≤ w.heap.size) (hsz : L.length < 4611686018427387904) :
    Calls Tryz.prog 73 #[v, .func (.func 74) #[] #[]] w fun e w' => e = .returned (.tuple #[]) ∧ ∃ L', L'.Perm L ∧ L'.Pairwise (fun p q => ltS q.1 p.1 = false) ∧ OwnP B0 w' B v L' ∧ Below B w w' := by
  have eg : ∀ args w, (callFunc 74 args).run Tryz.prog w = .ok (.enter 74 args) w := enters_of Tryz.func74 (by kernel_rfl) rfl
  obtain ⟨A, c, rfl⟩ := h.form
  by_cases h0 : L.length = 0
  · obtain rfl : L = [] := List.eq_nil_of_length_eq_zero h0
    have hcon := AnyF.slices_SortFunc_none Tryz.sortPair A c (.func (.func 74) #[] #[]) w
    change Calls Tryz.prog 73 _ _ _ at hcon
    refine hcon.mono ?_
    rintro e w' ⟨rfl, rfl⟩
    exact ⟨rfl, [], List.Perm.refl _, by simp, h, Below.refl _ _⟩
  · obtain ⟨cs, hr, h1, h2, h3⟩ := id h
    rcases hr.2 with ⟨e, e0⟩ | ⟨g, cap, cur, hv, hb, hg, hn, hm, hs, ht⟩
    · exact absurd e0 h0
    · injection hv with e1 e2 e3
      subst e1; subst e3
      obtain ⟨Y, y1, y2, y3⟩ := enc_of h1 h3
      have hZl : (Y.map (·.2)).length = L.length := by rw [← y1]; simp
      have hZe : (Y.map (·.2)).map encP = cs := by rw [← y2, List.map_map]; rfl
      have hcur : cur.toList.take ((Y.map (·.2)).length * 2) = ((Y.map (·.2)).map encP).flatten := by rw [hZl, hZe]; exact ht
      have hH := holds_sortK hg hcur
      have hcon := AnyQ.slices_SortFunc Tryz.sortPair 2 Tryz.isAgg48 Tryz.sizeOf48 encP encP_len encP_one cmpP swoP 74 #[] g 0 c (Y.map (·.2)).toArray w eg (cmpLaysP g 0 _ w) hH (blk_lt hg) (by simpa [hZl] using hsz)
      change Calls Tryz.prog 73 _ _ _ at hcon
      rw [show (Y.map (·.2)).toArray.size = L.length by rw [List.size_toArray, hZl]] at hcon
      refine hcon.mono ?_
      rintro e w' ⟨rfl, d', n, os, ⟨p1, _, p3⟩, hsrt, rfl⟩
      have p1' : d'.size = L.length := by rw [p1, List.size_toArray, hZl]
      rw [← p1', Array.extract_size] at p3
      rw [p1'] at p3
      have hex : ((Y.map (·.2)).toArray.extract 0 L.length).toList = Y.map (·.2) := by
        rw [← hZl, ← List.size_toArray, Array.extract_size]
      rw [hex] at p3
      obtain ⟨Y', py, hy'⟩ := perm_lift (fun y : Pr × PairV => y.2) p3 Y rfl
      have hYl : Y'.length = L.length := by rw [py.length_eq, ← hZl]; simp
      have hd : d' = (Y'.map (·.2)).toArray := by rw [← Array.toArray_toList (xs := d')]; rw [hy']
      have hgr := grownBy_sortK (w := w) (g := g) (n := n) (os := os) d'
      have hGr : Grow w B0 48 (sortWorldK encP 2 w g 0 n d' os) := grow_of hgr (Nat.le_trans hB hb) hg
      refine ⟨rfl, Y'.map (·.1), ?_, ?_, ?_, (Below.refl B w).grown hgr hw (fun k hk => by injection hk with hk; rw [← hk]; exact hb)⟩
      · rw [← y1]; exact py.map _
      · refine List.pairwise_iff_getElem.2 fun i j hi hj hij => ?_
        have hj' : j < L.length := by simpa [hYl] using hj
        have hi' : i < L.length := by simpa [hYl] using hi
        have hq := hsrt i j (Nat.zero_le _) hij hj'
        rw [lt_cmpP, getElem!_pos d' j (by omega), getElem!_pos d' i (by omega)] at hq
        subst hd
        simp only [List.getElem_toArray, List.getElem_map] at hq ⊢
        rw [(y3 _ (py.mem_iff.1 (List.getElem_mem (by omega)))).1, (y3 _ (py.mem_iff.1 (List.getElem_mem (by omega)))).1] at hq
        exact hq
      · have hl' : (Y'.map (fun y => encP y.2)).length = (Y'.map (·.1)).length := by simp
        have hds : (putCells id 0 (flatK encP 2 d') cur).size = c * 2 := by simp [putCells, hs]
        refine ⟨Y'.map (fun y => encP y.2), ⟨?_, .inr ⟨g, c, _, by simp [hYl], hb, heap_sortK d' hg, by simpa [hYl] using hn, hm, hds, ?_⟩⟩, hl', fun c hc => by obtain ⟨y, _, rfl⟩ := List.mem_map.1 hc; rfl, fun j hj hj' => ?_⟩
        · rw [flat_len (sz := 2) _ (fun c hc => by obtain ⟨y, _, rfl⟩ := List.mem_map.1 hc; rfl)]; simp
        · have := take_sortK cur (Y'.map (·.2)) (by rw [List.length_map, hYl]; rw [hs]; omega)
          rw [List.map_map, List.length_map] at this
          rw [hd, List.length_map]
          exact this
        · rw [List.getElem_map, List.getElem_map]
          exact (y3 _ (py.mem_iff.1 (List.getElem_mem _))).2.grow hGr (by decide)
end Go.Proofs.YtniclaapiabmdaaGreatDoor
namespace Go.Proofs.YtniclaapiabmdaaGreatDoor
set_option maxRecDepth 100000
open Go Go.RowKit
set_option linter.unusedVariables false

theorem Tryz.zeroNothing (w : World) : (zeroValue 109).run Tryz.prog w = .ok (.agg #[]) w := by kernel_rfl
set_option maxHeartbeats 8000000 in
theorem shared_any {w : World} {l : List Lyr} (h : PileS w l) (N : Nat) (hN : sumN l ≤ N) (hN2 : N ≤ 1000000000) (pfx : ByteArray) (hpf : pfx.size ≤ maxLen) :
    Calls Tryz.prog 31 #[topV l, .string pfx] w fun e w' => ∃ v L, e = .returned v ∧ OwnP w.heap.size w' (w.heap.size + 1) v L ∧ Below w.heap.size w w' ∧ ∃ L0, L.Perm L0 ∧ L.Pairwise (fun p q => ltS q.1 p.1 = false) ∧ Gath (begB pfx) (visD l) L0 ∧ w.heap.size + 1 ≤ w'.heap.size ∧ L.length ≤ N := by
  have HH := Lib.hid h
  obtain ⟨V, hV⟩ : ∃ V, V = topV l := ⟨_, rfl⟩
  have HV := Lib.hid hV
  rw [← hV]
  clear h hV
  have hz := Tryz.zeroEntry
  have hzn := Tryz.zeroNothing
  have hmm := @run_makeMap Tryz.prog
  obtain ⟨i0, hi0, hiz, hisz, hiby⟩ := info_parts Tryz.infoPairL
  go_enter Tryz.func31, Tryz.ntmps31
  go_wp2_with fail
  go_loopg [5, 7] l.length (fun k bv a W => ∃ suf : List Lyr, suf.length = k ∧ a = topV suf ∧ OutS pfx w w.heap.size N l suf bv W)
  case atStart =>
    refine ⟨l, rfl, HV.out, ⟨HH.out, ⟨fun _ => none, [], fun s _ => rfl, Gath.nil _, OwnX.nil _ _, ⟨0, fun _ => none, MapS.made w, fun _ => NearU.nil, by omega⟩, by simpa using hN⟩, (Below.refl _ _).alloc (Nat.le_refl _) _, by simp⟩⟩
  case round =>
    rename World => W
    obtain ⟨suf, hsl, rfl, hO⟩ := hrel
    cases suf with
    | nil =>
      have hS' : Calls Tryz.prog 29 #[topV []] W fun e w' => e = .returned (.bool false) ∧ W = w' := sound_no W
      obtain ⟨D, L, h1, h2, h3, -, h5⟩ := hO.rest
      have h2' : Gath (begB pfx) (visD l) L := h2.congr fun s hs _ v => by rw [h1 s hs]; show _ ↔ _; cases D s <;> simp [visD]
      have HSo := Lib.hid (sort_any h3 (Nat.le_succ _) hO.hs (by omega))
      have HG := Lib.hid h2'
      have HB := Lib.hid hO
      have hL5 : L.length ≤ N := by omega
      clear h1 h2 h3 h5 h2' hO
      go_wp2_with fail
      refine hS'.mono ?_
      rintro e w1 ⟨rfl, rfl⟩
      go_wp2_with fail
      refine HSo.out.mono ?_
      rintro e w2 ⟨rfl, L', hp, hs, ho, hb⟩
      go_wp2_with fail
      go_ret
      exact ⟨_, L', rfl, ho, HB.out.hb.trans (hb.mono (Nat.le_succ _)), L, hp, hs, HG.out, Nat.le_trans HB.out.hs hb.size, by rw [hp.length_eq]; exact hL5⟩
    | cons y r =>
      have hW := hO.hp.up hO.hb
      have hS' : Calls Tryz.prog 29 #[topV (y :: r)] W fun e w' => e = .returned (.bool true) ∧ W = w' := sound_yes hW.1
      have ht : topV (y :: r) = .pointer (some ⟨y.b, 0, none⟩) := rfl
      have c2 : W.cell? ⟨y.b, 2, none⟩ = some (.map (some y.m)) := blk_cell hW.1.cells 2
      obtain ⟨g, hmy, hsy⟩ := hO.hp.1.own
      have hmW := hmy.chg (.of_below hO.hb (fun _ => False)) id
      have HO := Lib.hid hO
      have HS := Lib.hid hsy
      rw [ht] at hS' ⊢
      clear hW hO hmy hsy ht
      go_wp2_with fail
      refine hS'.mono ?_
      rintro e w1 ⟨rfl, rfl⟩
      go_wp2_with (at_range; refine wpList_range_s _ rfl _ 86 rfl _ _ Tryz.isString Tryz.underlying86 y.m y.n g rfl hmW ?_; intro W0 cnt hcn hrg0 hg0 hs0)
      go_frame
      obtain ⟨D, L0, n0, nr0, hI0⟩ := HO.out.open rfl HS.out hrg0 rfl hcn hg0
      have HI0 := Lib.hid hI0
      clear hrg0 hg0 hs0 hI0 hmW c2 hS'
      go_loopw [5] (fun bv Z => ∃ left cnt L n nr, InS pfx w w.heap.size N l y r W.heap.size g D left cnt left cnt left cnt L n nr bv Z)
        (fun _ Z => Z.rangeLeft y.m W.heap.size)
      case atStart => exact ⟨_, _, _, _, _, HI0.out⟩
      case round =>
        rename World => Z
        obtain ⟨left, cnt, L, n, nr, hI⟩ := hrel
        have hrZ := hI.hr
        have HIh := Lib.hid hI
        clear hI
        go_wp2_with (at_next; refine wpList_next_s _ rfl _ rfl _ Tryz.isString y.m W.heap.size y.n g left cnt rfl hrZ ?_ ?_)
        · intro hd
          have HO2 := Lib.hid (HIh.out.close hd)
          have hp1 : ∃ p, topV r = .pointer p := by cases r <;> exact ⟨_, rfl⟩
          obtain ⟨p1, hp1⟩ := hp1
          have c1 : Z.cell? ⟨y.b, 1, none⟩ = some (topV r) := (HIh.out.hb.cell (p := ⟨y.b, 1, none⟩) HIh.out.hp.1.lt.1).trans (blk_cell HIh.out.hp.1.cells 1)
          have HT := Lib.hid hp1
          rw [hp1] at c1
          clear hp1 hd hrZ
          go_wp2_with fail
          go_roundg r.length
          case measure => simp at hsl; omega
          case rel => exact ⟨r, rfl, HT.out.symm, HO2.out⟩
        · intro x c Z1 cnt1 hx hl hgx hr1 hlt hg1 hs1 hen
          obtain ⟨sl, gone, lv, rfl, hrd, hfx⟩ : ∃ sl gone lv, c = .agg #[sl, .bool gone] ∧ Rd w w.heap.size sl lv ∧ y.f x = some (if gone = true then none else some lv) := by
            rcases HS.out x hx with ⟨k1, k2⟩ | ⟨e, x', k1, k2, k3⟩
            · rw [hgx] at k1; cases k1
            · obtain rfl : c = e := by rw [hgx] at k1; exact Option.some.inj k1
              cases x' with
              | none => exact ⟨_, true, [], k3, Rd.nil _ _, k2⟩
              | some v =>
                obtain ⟨sl, q1, q2⟩ := k3
                exact ⟨sl, false, v, q1, q2, k2⟩
          have hI1 := HIh.out.next hr1 hg1
          have hZ1 : w.heap.size < Z1.heap.size := by have := hI1.hr.lt; have := hI1.it_ge; omega
          have hal : Below Z1.heap.size Z1 (Z1.alloc (.cells #[sl, .bool gone] 90)) := (Below.refl _ _).alloc (Nat.le_refl _) _
          have hI2 := hI1.up hal
          obtain ⟨A, k, rfl⟩ := hrd.form
          have HF := Lib.hid hfx
          have HR := Lib.hid hrd
          have HL := Lib.hid (And.intro hx (And.intro hl hlt))
          have HM := Lib.hid (show Z1.rangeLeft y.m W.heap.size = cnt1 from hr1.left_eq)
          have HI2 := Lib.hid hI2
          clear hr1 hg1 hgx hrZ hfx hI1 hI2 hl hlt hs1
          have hP := fun W => prefix_any x pfx W
          cases hb : begB pfx x with
          | false =>
            rw [hb] at hP
            have HB := Lib.hid hb
            clear hb
            go_wp2_with fail
            refine (hP _).mono ?_
            rintro e w1 ⟨rfl, rfl⟩
            go_wp2_with fail
            have h3 := (HI2.out.skipN HL.out.2.1 (Nat.le_of_lt HL.out.2.2) (.inr (.inl HB.out))).skipG HL.out.2.1 (Nat.le_of_lt HL.out.2.2) (.inl HB.out)
            exact ⟨⟨_, cnt1, L, n, nr, h3⟩, by rw [h3.hr.left_eq, HIh.out.hr.left_eq]; exact HL.out.2.2⟩
          | true =>
            rw [hb] at hP
            have HB := Lib.hid hb
            have hnr := HI2.out.near hx HL.out.2.1 hb
            have hlk := HI2.out.hm.look Tryz.isString Tryz.underlying108 (hzn _) hx
            have hcs := heap_alloc_new Z1 (.cells #[.slice A lv.length k, .bool gone] 90)
            have d0 : (Z1.alloc (.cells #[.slice A lv.length k, .bool gone] 90)).cell? ⟨Z1.heap.size, 0, none⟩ = some (.slice A lv.length k) := blk_cell hcs 0
            have d1 : (Z1.alloc (.cells #[.slice A lv.length k, .bool gone] 90)).cell? ⟨Z1.heap.size, 1, none⟩ = some (.bool gone) := blk_cell hcs 1
            have hltN : Z1.heap.size < (Z1.alloc (.cells #[.slice A lv.length k, .bool gone] 90)).heap.size := by simp
            clear hb hcs
            cases hD : D x with
            | some dx =>
              rw [hnr, hD] at hlk
              have hlk' : (Instr.lookup 108 (.map (some w.heap.size)) (.string x) true).run Tryz.prog (Z1.alloc (.cells #[.slice A lv.length k, .bool gone] 90)) = .ok (.tuple #[.agg #[], .bool true]) (Z1.alloc (.cells #[.slice A lv.length k, .bool gone] 90)) := hlk
              have HD := Lib.hid hD
              clear hD hnr hlk
              go_wp2_with fail
              refine (hP _).mono ?_
              rintro e w1 ⟨rfl, rfl⟩
              go_wp2_with fail
              have hs : (D x).isSome = true := by rw [HD.out]; rfl
              have h3 := ((HI2.out.up ((Below.refl _ _).alloc (Nat.le_refl _) (.cells #[] 109))).skipN HL.out.2.1 (Nat.le_of_lt HL.out.2.2) (.inr (.inr hs))).skipG HL.out.2.1 (Nat.le_of_lt HL.out.2.2) (.inr (.inl hs))
              exact ⟨⟨_, cnt1, L, n, nr, h3⟩, by rw [h3.hr.left_eq, HIh.out.hr.left_eq]; exact HL.out.2.2⟩
            | none =>
              rw [hnr, hD] at hlk
              have hlk' : (Instr.lookup 108 (.map (some w.heap.size)) (.string x) true).run Tryz.prog (Z1.alloc (.cells #[.slice A lv.length k, .bool gone] 90)) = .ok (.tuple #[.agg #[], .bool false]) (Z1.alloc (.cells #[.slice A lv.length k, .bool gone] 90)) := hlk
              have HD := Lib.hid hD
              clear hD hnr hlk
              go_wp2_with fail
              refine (hP _).mono ?_
              rintro e w1 ⟨rfl, rfl⟩
              generalize Z1.alloc (.cells #[.slice A lv.length k, .bool gone] 90) = Y1 at *
              have hal3 : Below Y1.heap.size Y1 (Y1.alloc (.cells #[] 109)) := (Below.refl _ _).alloc (Nat.le_refl _) _
              have HI3 := Lib.hid (HI2.out.up hal3)
              have c1 : (Y1.alloc (.cells #[] 109)).cell? ⟨y.b, 1, none⟩ = some (topV r) := (HI3.out.hb.cell (p := ⟨y.b, 1, none⟩) HI3.out.hp.1.lt.1).trans (blk_cell HI3.out.hp.1.cells 1)
              have e0 : (Y1.alloc (.cells #[] 109)).cell? ⟨Z1.heap.size, 0, none⟩ = some (.slice A lv.length k) := (hal3.cell (p := ⟨Z1.heap.size, 0, none⟩) hltN).trans d0
              have e1 : (Y1.alloc (.cells #[] 109)).cell? ⟨Z1.heap.size, 1, none⟩ = some (.bool gone) := (hal3.cell (p := ⟨Z1.heap.size, 1, none⟩) hltN).trans d1
              have HLN : Hid (Z1.heap.size < (Y1.alloc (.cells #[] 109)).heap.size) := Lib.hid (Nat.lt_of_lt_of_le hltN hal3.size)
              have HWZ : Hid (w.heap.size < Z1.heap.size) := Lib.hid (by have := hZ1; omega)
              have hn9 : n < maxLen := by have := HI3.out.hcN; unfold maxLen; omega
              have HE := Lib.hid (And.intro e0 e1)
              clear hal3
              cases r with
              | nil =>
                have c1' : (Y1.alloc (.cells #[] 109)).cell? ⟨y.b, 1, none⟩ = some (.pointer none) := c1
                clear c1
                have HI4 := Lib.hid (HI3.out.skipN HL.out.2.1 (Nat.le_of_lt HL.out.2.2) (.inl rfl))
                cases gone with
                | true =>
                  go_wp2_with fail
                  have h5 := HI4.out.skipG HL.out.2.1 (Nat.le_of_lt HL.out.2.2) (.inr (.inr HF.out))
                  exact ⟨⟨_, cnt1, L, _, _, h5⟩, by rw [h5.hr.left_eq, HIh.out.hr.left_eq]; exact HL.out.2.2⟩
                | false =>
                  have hal4 : Below (Y1.alloc (.cells #[] 109)).heap.size (Y1.alloc (.cells #[] 109)) ((Y1.alloc (.cells #[] 109)).alloc (.cells #[.string x, .slice A lv.length k] 48)) := (Below.refl _ _).alloc (Nat.le_refl _) _
                  have hI5 := HI4.out.up hal4
                  have hgz := heap_alloc_new (Y1.alloc (.cells #[] 109)) (.cells #[.string x, .slice A lv.length k] 48)
                  rw [show (Y1.alloc (.cells #[] 109)).heap.size = Y1.heap.size + 1 by simp] at hgz
                  have hpc : PrC w.heap.size ((Y1.alloc (.cells #[] 109)).alloc (.cells #[.string x, .slice A lv.length k] 48)) [.string x, .slice A lv.length k] (x, lv) := ⟨_, rfl, RdS.old (HR.out.below hI5.hb) hI5.hb.size⟩
                  have hob := hI5.ho
                  have hwsz : w.heap.size + 1 ≤ ((Y1.alloc (.cells #[] 109)).alloc (.cells #[.string x, .slice A lv.length k] 48)).heap.size := by have := hI5.hr.lt; have := hI5.it_ge; omega
                  have hLl : L.length + 1 ≤ 1000000000 := by have := hI5.hcL; have := HL.out.2.2; omega
                  have HI5 := Lib.hid hI5
                  obtain ⟨Ab, cb, hbv⟩ := hob.form
                  subst hbv
                  clear hI5 hal4
                  go_wp2_with ((at_builtin; refine wpList_append_x (B0 := w.heap.size) (b := Y1.heap.size + 1) (off := 0) rfl (.tmp 52) (.tmp 57) _ rfl i0 _ 40 Tryz.underlying22 hi0 hiz hisz hiby rfl (by decide) rfl hob rfl _ hpc.len (fun j hj => (by rw [Nat.zero_add]; exact pairCells_get hgz j hj)) hpc.one hpc (fun w' c a hc hg => hc.grow hg (by decide)) (Nat.le_succ _) (by unfold maxLen; omega) (by omega) hwsz ?_; intro v7 w7 ho7 hg7))
                  have h6 := HI5.out.take HL.out.2.2 hx HL.out.2.1 HB.out HD.out HF.out ho7 hg7
                  exact ⟨⟨_, cnt1, _, _, _, h6⟩, by rw [h6.hr.left_eq, HIh.out.hr.left_eq]; exact HL.out.2.2⟩
              | cons zr rr =>
                have c1' : (Y1.alloc (.cells #[] 109)).cell? ⟨y.b, 1, none⟩ = some (.pointer (some ⟨zr.b, 0, none⟩)) := c1
                have hm3' := HI3.out.hm
                have hne : some Z1.heap.size ≠ some w.heap.size := by have := HWZ.out; intro e; injection e; omega
                have hLl : L.length + 1 ≤ 1000000000 := by have := HI3.out.hcL; have := HL.out.2.2; omega
                have hbvF := HI3.out.ho.form
                clear c1 e0 e1 d0 d1
                obtain ⟨Ab, cb, rfl⟩ := hbvF
                cases gone with
                | true =>
                  go_wp2_with (at_mapUpdate; refine wpList_store_s _ rfl (.tmp 46) (.tmp 47) (.tmp 48) _ rfl _ _ Tryz.isString Tryz.underlying108 w.heap.size n nr rfl hm3' hn9 x _ rfl rfl hx ?_; intro w3 hm3 ht3; have e0 : w3.cell? ⟨Z1.heap.size, 0, none⟩ = some (.slice A lv.length k) := (World.cell?_of_block (a := ⟨Z1.heap.size, 0, none⟩) (ht3.grown.block _ HLN.out hne)).trans HE.out.1; have e1 : w3.cell? ⟨Z1.heap.size, 1, none⟩ = some (.bool true) := (World.cell?_of_block (a := ⟨Z1.heap.size, 1, none⟩) (ht3.grown.block _ HLN.out hne)).trans HE.out.2; have HI4 := Lib.hid (HI3.out.put HL.out.2.2 HB.out (by rw [HF.out]; rfl) rfl hm3 ht3); clear hm3 ht3)
                  have h5 := HI4.out.skipG HL.out.2.1 (Nat.le_of_lt HL.out.2.2) (.inr (.inr HF.out))
                  exact ⟨⟨_, cnt1, L, _, _, h5⟩, by rw [h5.hr.left_eq, HIh.out.hr.left_eq]; exact HL.out.2.2⟩
                | false =>
                  go_wp2_with (first
                    | (at_mapUpdate; refine wpList_store_s _ rfl (.tmp 46) (.tmp 47) (.tmp 48) _ rfl _ _ Tryz.isString Tryz.underlying108 w.heap.size n nr rfl hm3' hn9 x _ rfl rfl hx ?_; intro w3 hm3 ht3; have e0 : w3.cell? ⟨Z1.heap.size, 0, none⟩ = some (.slice A lv.length k) := (World.cell?_of_block (a := ⟨Z1.heap.size, 0, none⟩) (ht3.grown.block _ HLN.out hne)).trans HE.out.1; have e1 : w3.cell? ⟨Z1.heap.size, 1, none⟩ = some (.bool false) := (World.cell?_of_block (a := ⟨Z1.heap.size, 1, none⟩) (ht3.grown.block _ HLN.out hne)).trans HE.out.2; have HI4 := Lib.hid (HI3.out.put HL.out.2.2 HB.out (by rw [HF.out]; rfl) rfl hm3 ht3); clear hm3 ht3; have hal4 : Below w3.heap.size w3 (w3.alloc (.cells #[.string x, .slice A lv.length k] 48)) := (Below.refl _ _).alloc (Nat.le_refl _) _; have hgz := heap_alloc_new w3 (.cells #[.string x, .slice A lv.length k] 48); have HI5 := Lib.hid (HI4.out.up hal4); have hpc : PrC w.heap.size (w3.alloc (.cells #[.string x, .slice A lv.length k] 48)) [.string x, .slice A lv.length k] (x, lv) := ⟨_, rfl, RdS.old (HR.out.below HI5.out.hb) HI5.out.hb.size⟩; have hob := HI5.out.ho; have hwsz : w.heap.size + 1 ≤ (w3.alloc (.cells #[.string x, .slice A lv.length k] 48)).heap.size := (by have := HI5.out.hr.lt; have := HI5.out.it_ge; omega); clear hal4)
                    | (((at_builtin; refine wpList_append_x (B0 := w.heap.size) (b := w3.heap.size) (off := 0) rfl (.tmp 52) (.tmp 57) _ rfl i0 _ 40 Tryz.underlying22 hi0 hiz hisz hiby rfl (by decide) rfl hob rfl _ hpc.len (fun j hj => (by rw [Nat.zero_add]; exact pairCells_get hgz j hj)) hpc.one hpc (fun w' c a hc hg => hc.grow hg (by decide)) (Nat.le_succ _) (by unfold maxLen; omega) (by omega) hwsz ?_; intro v7 w7 ho7 hg7))))
                  have h6 := HI5.out.take HL.out.2.2 hx HL.out.2.1 HB.out HD.out HF.out ho7 hg7
                  exact ⟨⟨_, cnt1, _, _, _, h6⟩, by rw [h6.hr.left_eq, HIh.out.hr.left_eq]; exact HL.out.2.2⟩
end Go.Proofs.YtniclaapiabmdaaGreatDoor
namespace Go.Proofs.YtniclaapiabmdaaGreatDoor
set_option maxRecDepth 100000
open Go Go.RowKit
set_option linter.unusedVariables false

theorem flatten_set {sz : Nat} (u : Value) : ∀ (cs : List (List Value)) (h : ∀ c ∈ cs, c.length = sz) (j i : Nat) (hj : j < cs.length), i < sz → (cs.set j ((cs[j]).set i u)).flatten = cs.flatten.set (j * sz + i) u
  | c :: cs, h, 0, i, _, hi => by
    rw [List.set_cons_zero, List.flatten_cons, List.flatten_cons, Nat.zero_mul, Nat.zero_add, List.set_append_left _ _ (by rw [h c (by simp)]; exact hi)]
    rfl
  | c :: cs, h, j + 1, i, hj, hi => by
    have hc := h c (by simp)
    have ih := flatten_set u cs (fun c hc => h c (List.mem_cons_of_mem _ hc)) j i (by simpa using hj) hi
    rw [List.set_cons_succ, List.flatten_cons, List.flatten_cons, List.getElem_cons_succ, ih, List.set_append_right _ _ (by rw [hc, Nat.add_mul]; omega)]
    congr 2
    rw [hc, Nat.add_mul]; omega

section
variable {α : Type} {E : TypeId} {sz : Nat} {R : World → List Value → α → Prop} {w : World} {B b n c : Nat} {ls : List α}
/-- a cell of a row that is the call's own, written -/
theorem OwnX.set (h : OwnX E sz R w B (.slice (some ⟨b, 0, none⟩) n c) ls) (j i : Nat) (hj : j < ls.length) (hi : i < sz) (u : Value) (l' : α)
    (hold : ∀ c a, R w c a → R (w.setCell ⟨b, j * sz + i, none⟩ u) c a) (hnew : ∀ c, R w c ls[j] → R (w.setCell ⟨b, j * sz + i, none⟩ u) (c.set i u) l') :
    OwnX E sz R (w.setCell ⟨b, j * sz + i, none⟩ u) B (.slice (some ⟨b, 0, none⟩) n c) (ls.set j l') := by
  obtain ⟨cs, h0, h1, h2, h3⟩ := h
  have hjc : j < cs.length := by omega
  rcases h0.2 with ⟨h4, h5⟩ | ⟨g, cap, cur, hv, hb, hg, hn, hm, hs, ht⟩
  · omega
  · injection hv with e1 e2 e3
    injection e1 with e1
    injection e1 with e1
    subst e1; subst e3
    refine ⟨cs.set j ((cs[j]).set i u), ⟨?_, .inr ⟨b, c, cur.setIfInBounds (j * sz + i) u, by rw [List.length_set, e2], hb, blk_set hg _ _, by rw [List.length_set]; exact hn, hm, by rw [Array.size_setIfInBounds]; exact hs, ?_⟩⟩, by rw [List.length_set, List.length_set]; exact h1, fun c hc => ?_, fun k hk hk' => ?_⟩
    · rw [flatten_set u cs h2 j i hjc hi, List.length_set, List.length_set]; exact h0.1
    · rw [flatten_set u cs h2 j i hjc hi, Array.toList_setIfInBounds, List.take_set, List.length_set, ht]
    · rcases List.mem_or_eq_of_mem_set hc with hc | rfl
      · exact h2 c hc
      · rw [List.length_set]; exact h2 _ (List.getElem_mem hjc)
    · have hk2 : k < cs.length := by simpa using hk
      by_cases e : j = k
      · subst e
        rw [List.getElem_set_self, List.getElem_set_self]
        exact hnew _ (h3 j hjc hj)
      · rw [List.getElem_set_ne e, List.getElem_set_ne e]
        exact hold _ _ (h3 k hk2 (by omega))
theorem OwnX.blk {v : Value} (h : OwnX E sz R w B v ls) (h0 : 0 < ls.length) : ∃ b c cur, v = .slice (some ⟨b, 0, none⟩) ls.length c ∧ B ≤ b ∧ w.heap[b]? = some (.cells cur E (0, 0)) := by
  obtain ⟨cs, hr, _⟩ := h
  rcases hr.2 with ⟨h4, h5⟩ | ⟨g, cap, cur, hv, hb, hg, _⟩
  · omega
  · exact ⟨g, cap, cur, hv, hb, hg⟩
theorem OwnX.map {β : Type} {R' : World → List Value → β → Prop} {v : Value} (h : OwnX E sz R w B v ls) {ls' : List β} (hl : ls'.length = ls.length) (hR : ∀ (j : Nat) (hj : j < ls.length) c, R w c ls[j] → R' w c (ls'[j]'(by omega))) : OwnX E sz R' w B v ls' := by
  obtain ⟨cs, h0, h1, h2, h3⟩ := h
  exact ⟨cs, by rw [hl]; exact h0, by rw [hl]; exact h1, h2, fun j hj hj' => hR j (by omega) _ (h3 j hj (by omega))⟩
end

/-- a pair's two cells, its value the call's own from B1 on -/
def PrO (B1 : Nat) (w : World) (c : List Value) (p : Pr) : Prop := ∃ x, c = [.string p.1, x] ∧ Own w B1 x p.2
/-- pairs handed out: the row and each value are the call's own -/
def OutP (w : World) (B : Nat) (v : Value) (L : List Pr) : Prop := ∃ B1, B ≤ B1 ∧ (∀ k, v.ownBlock = some k → k < B1) ∧ OwnX 48 2 (PrO B1) w B v L
section
variable {w w' : World} {B0 B B1 : Nat} {v : Value} {L : List Pr} {p : Pr} {c : List Value}
theorem PrO.up (h : PrO B1 w c p) (hb : Below w.heap.size w w') : PrO B1 w' c p := by
  obtain ⟨x, e, h⟩ := h
  exact ⟨x, e, h.below hb⟩
theorem PrO.prC (h : PrO B1 w c p) : PrC B0 w c p := by
  obtain ⟨x, e, h⟩ := h
  exact ⟨x, e, h.rdS⟩
theorem OutP.up (h : OutP w B v L) (hb : Below w.heap.size w w') : OutP w' B v L := by
  obtain ⟨B1, h1, h2, h3⟩ := h
  exact ⟨B1, h1, h2, OwnX.up h3 hb fun c a h => h.up hb⟩
theorem OutP.ownP (h : OutP w B v L) : OwnP B0 w B v L := by
  obtain ⟨B1, h1, h2, h3⟩ := h
  exact OwnX.map h3 rfl fun j hj c hc => hc.prC
theorem OutP.rdP (h : OutP w B v L) : RdP w w.heap.size v L := OwnP.rdP (B0 := 0) h.ownP
theorem OutP.form (h : OutP w B v L) : ∃ A c, v = .slice A L.length c := by
  obtain ⟨B1, h1, h2, h3⟩ := h
  exact h3.form

/-- the first k of the values are in new memory -/
def markL (k : Nat) (L : List Pr) : List (Pr × Bool) := L.mapIdx fun i p => (p, decide (i < k))
def PrF (B0 B1 : Nat) (w : World) (c : List Value) (p : Pr × Bool) : Prop := (p.2 = false → PrC B0 w c p.1) ∧ (p.2 = true → PrO B1 w c p.1)
theorem markL_len (k : Nat) (L : List Pr) : (markL k L).length = L.length := by simp [markL]
theorem markL_get (k : Nat) (L : List Pr) (i : Nat) (h : i < (markL k L).length) : (markL k L)[i] = (L[i]'(by simpa [markL] using h), decide (i < k)) := by simp [markL]
theorem markL_set (k : Nat) (L : List Pr) (h : k < L.length) : (markL k L).set k (L[k], true) = markL (k + 1) L := by
  refine List.ext_getElem (by simp [markL]) fun i h1 h2 => ?_
  rw [markL_get]
  by_cases e : k = i
  · subst e
    rw [List.getElem_set_self]; simp
  · rw [List.getElem_set_ne e, markL_get]
    congr 1
    simp; omega
theorem PrF.up {p : Pr × Bool} (h : PrF B0 B1 w c p) (hb : Below w.heap.size w w') : PrF B0 B1 w' c p := ⟨fun e => (h.1 e).up hb, fun e => (h.2 e).up hb⟩
theorem PrF.grow {p : Pr × Bool} {E : TypeId} (h : PrF B0 B1 w c p) (hg : Grow w B0 E w') (hB : B0 ≤ B1) (hE : 5 ≠ E) : PrF B0 B1 w' c p := ⟨fun e => (h.1 e).grow hg hE, fun e => by
  obtain ⟨x, e1, h1⟩ := h.2 e
  exact ⟨x, e1, h1.grow hg hB hE⟩⟩
theorem PileS.okD {l : List Lyr} (h : PileS w l) {s : ByteArray} {x : List UInt8} (e : visD l s = some (some x)) : keyB s = true ∧ x.length ≤ 65535 := by
  induction l with
  | nil => cases e
  | cons y l ih =>
    rw [visD_cons] at e
    cases hy : y.f s with
    | none => rw [hy] at e; exact ih h.2.2 e
    | some z =>
      rw [hy] at e
      exact h.1.ok s x (by rw [hy]; exact e)
theorem PileS.okV {l : List Lyr} (h : PileS w l) {s : ByteArray} {x : List UInt8} (e : visV l s = some x) : keyB s = true ∧ x.length ≤ 65535 := by
  unfold visV at e
  cases hd : visD l s with
  | none => rw [hd] at e; cases e
  | some z => rw [hd] at e; exact h.okD (hd.trans (congrArg some e))
end
/-- what shared hands back: the store's own values -/
theorem shared_is {w : World} {l : List Lyr} (h : PileS w l) (hN : sumN l ≤ 1000000000) (pfx : ByteArray) (hpf : pfx.size ≤ maxLen) {R : List Pr} (hR : SeenL pfx l R) :
    Calls Tryz.prog 31 #[topV l, .string pfx] w fun e w' => ∃ v, e = .returned v ∧ OwnP w.heap.size w' (w.heap.size + 1) v R ∧ Below w.heap.size w w' ∧ w.heap.size + 1 ≤ w'.heap.size ∧ R.length ≤ 1000000000 := by
  refine (shared_any h 1000000000 hN (Nat.le_refl _) pfx hpf).mono ?_
  rintro e w' ⟨v, L, rfl, h1, h2, L0, h3, h4, h5, h6, h7⟩
  obtain rfl := h5.seen hR.rise hR.small hR.get h3 h4
  exact ⟨v, rfl, h1, h2, h6, h7⟩
set_option maxHeartbeats 8000000 in
theorem pairs_any {w : World} {l : List Lyr} (h : PileS w l) (hN : sumN l ≤ 1000000000) (pfx : ByteArray) (hpf : pfx.size ≤ maxLen) {R : List Pr} (hR : SeenL pfx l R) :
    Calls Tryz.prog 14 #[topV l, .string pfx] w fun e w' => ∃ v, e = .returned v ∧ OutP w' w.heap.size v R ∧ Below w.heap.size w w' := by
  have hSh := shared_is h hN pfx hpf hR
  have HV : Hid (∀ p ∈ R, p.2.length ≤ 65535) := Lib.hid fun p hp => by
    have h1 := hR.get p.1 (hR.small p hp)
    rw [hR.rise.get hp] at h1
    by_cases hb : begB pfx p.1 = true
    · rw [if_pos hb] at h1
      exact (h.okV h1.symm).2
    · rw [if_neg hb] at h1; cases h1
  obtain ⟨n, hn⟩ : ∃ n, n = R.length := ⟨_, rfl⟩
  have HN := Lib.hid hn
  have hpv : ∃ p, topV l = .pointer p := by cases l <;> exact ⟨_, rfl⟩
  obtain ⟨pv, hpv⟩ := hpv
  rw [hpv] at hSh ⊢
  clear h hn hpv
  go_enter Tryz.func14, Tryz.ntmps14
  go_wp2_with fail
  refine hSh.mono ?_
  rintro e w1 ⟨v, rfl, ho, hb1, hsz, hlen⟩
  obtain ⟨A, c, rfl⟩ := ho.form
  have HO1 : Hid (OwnX 48 2 (PrF w.heap.size w1.heap.size) w1 (w.heap.size + 1) (.slice A n c) (markL 0 R)) := Lib.hid (by
    have := OwnX.map (R' := PrF w.heap.size w1.heap.size) ho (ls' := markL 0 R) (markL_len _ _) fun j hj c hc => by
      rw [markL_get]
      exact ⟨fun _ => hc, fun e => by simp at e⟩
    rw [HN.out]; exact this)
  have HO2 : Hid (∀ k, (Value.slice A n c).ownBlock = some k → k < w1.heap.size) := Lib.hid fun k hk => (ho.lt k (by rw [← HN.out]; exact hk)).2
  rw [← HN.out] at hlen ⊢
  clear ho hSh
  go_wp2_with fail
  go_loopw [13] (fun iv W => ∃ k : Nat, k ≤ n ∧ iv = .int .i64 (k : Int) ∧ OwnX 48 2 (PrF w.heap.size w1.heap.size) W (w.heap.size + 1) (.slice A n c) (markL k R) ∧ Below w.heap.size w W ∧ w1.heap.size ≤ W.heap.size)
    (fun iv _ => n - (intOf iv).toNat)
  case atStart => exact ⟨0, Nat.zero_le _, rfl, HO1.out, hb1, Nat.le_refl _⟩
  case round =>
    rename World => W
    obtain ⟨k, hkn, rfl, hoW, hbW, hsW⟩ := hrel
    by_cases hlt : k < n
    · have hkl : k < R.length := by have := HN.out; omega
      have hkm : k < (markL k R).length := by rw [markL_len]; exact hkl
      obtain ⟨b, c', cur, hv, hBb, hblk⟩ := hoW.blk (by omega)
      injection hv with hv1 hv2 hv3
      subst hv1; subst hv3
      obtain ⟨b', cs, e1, -, -, -, -, hbl, hcl, hcell, hF⟩ := hoW.at_ k hkm
      injection e1 with e1
      injection e1 with e1
      subst e1
      rw [markL_get] at hF
      obtain ⟨x, hcs, hrd⟩ := hF.1 (by simp)
      have q0 := hcell 0 (by omega)
      have q1 := hcell 1 (by omega)
      rw [hcs] at q0 q1
      have HW := Lib.hid hoW
      have HVk := HV.out _ (List.getElem_mem hkl)
      have i1 : (0 : Int) ≤ (k : Int) := by omega
      have i2 : (k : Int) < (n : Int) := by omega
      have HPk : Hid (R[k] = (R[k].1, R[k].2)) := Lib.hid rfl
      clear hoW hF hcell
      dsimp only at q0 q1 hrd
      generalize R[k].1 = s at *
      generalize R[k].2 = L at *
      simp only [Nat.add_zero, List.getElem?_cons_zero, List.getElem?_cons_succ] at q0 q1
      obtain ⟨Ax, cx, rfl⟩ := hrd.1.form
      clear hv2 hcs hcl
      have hbz : Below W.heap.size W (W.alloc (.cells #[.string s, .slice Ax L.length cx] 48)) := (Below.refl _ _).alloc (Nat.le_refl _) _
      have HC : Calls Tryz.prog 47 #[.slice Ax L.length cx] (W.alloc (.cells #[.string s, .slice Ax L.length cx] 48)) fun e w' => ∃ v', e = .returned v' ∧ Own w' (W.alloc (.cells #[.string s, .slice Ax L.length cx] 48)).heap.size v' L ∧ Below (W.alloc (.cells #[.string s, .slice Ax L.length cx] 48)).heap.size (W.alloc (.cells #[.string s, .slice Ax L.length cx] 48)) w' := clone_any _ L _ ((hrd.1.below hbz).more hbz.size) (by omega)
      go_wp2_with fail
      refine HC.mono ?_
      rintro e w3 ⟨v3, rfl, ho3, hb3⟩
      have hb3' := below_chain hbz hbz.size hb3
      have q1' := (hb3'.cell (p := ⟨b, k * 2 + 1, none⟩) hbl).trans q1
      have q2' : w3.frozen? ⟨b, k * 2 + 1, none⟩ = false := blk_free ((hb3'.block b hbl).trans hblk) _
      have H3 := Lib.hid (And.intro ho3 (And.intro hb3' (And.intro hblk hbl)))
      obtain ⟨A3, c3, rfl⟩ := ho3.form
      clear q1 q0 hbz HC hb3 ho3 hblk hb3'
      go_wp2_with fail
      obtain ⟨ho3, hb3, hblk, -⟩ := H3.out
      have hw3 : W.heap.size ≤ w3.heap.size := hb3.size
      have hblk3 := (hb3.block b hbl).trans hblk
      have hO3 := OwnX.up HW.out hb3 (fun c a h => h.up hb3)
      have ho3' : Own w3 w1.heap.size (.slice A3 L.length c3) L := ho3.more (by simp; omega)
      have hg : Grow w3 w.heap.size 48 (w3.setCell ⟨b, k * 2 + 1, none⟩ (.slice A3 L.length c3)) := grow_of (grown_set (World.grownBy.refl w3 _) _ _) (by omega) hblk3
      have h4 := OwnX.set hO3 k 1 hkm (by omega) (.slice A3 L.length c3) (R[k], true) (fun c a h => h.grow hg (by have := hb1.size; omega) (by decide)) (fun c hc => by
        refine ⟨fun e => (by cases e), fun _ => ⟨.slice A3 L.length c3, ?_, ?_⟩⟩
        · rw [markL_get] at hc
          obtain ⟨x, hcs, -⟩ := hc.1 (by simp)
          rw [hcs]; rfl
        · rw [HPk.out]
          exact ho3'.grow hg (by have := hb1.size; omega) (by decide))
      rw [markL_set] at h4
      have hb4 : Below w.heap.size w (w3.setCell ⟨b, k * 2 + 1, none⟩ (.slice A3 L.length c3)) := (below_chain hbW hbW.size hb3).setCell (by show w.heap.size ≤ b; omega) _
      exact ⟨⟨k + 1, by omega, by go_num, h4, hb4, by simp [World.setCell]; omega⟩, by simp [intOf]; omega⟩
    · have i2 : ¬ (k : Int) < (n : Int) := by omega
      obtain rfl : k = n := by omega
      have H5 := Lib.hid (OwnX.map (R' := PrO w1.heap.size) hoW (ls' := R) (markL_len _ _).symm fun j hj c hc => by
        rw [markL_get] at hc
        have hj' : j < R.length := by rw [markL_len] at hj; exact hj
        exact hc.2 (by have := HN.out; simp; omega))
      clear hoW
      go_wp2_with fail
      go_ret
      exact ⟨_, rfl, ⟨w1.heap.size, hb1.size, HO2.out, H5.out.more (Nat.le_succ _)⟩, hbW⟩
end Go.Proofs.YtniclaapiabmdaaGreatDoor
namespace Go.Proofs.YtniclaapiabmdaaGreatDoor
set_option maxRecDepth 100000
open Go Go.RowKit
set_option linter.unusedVariables false

/-- a branch that says just what these changes say -/
def LyrC (cs : List Chn) (y : Lyr) : Prop := ∀ s : ByteArray, s.size ≤ maxLen → y.f s = getC cs s
section
variable {ps : List Pr} {cs : List Chn} {y z : Lyr}
theorem visV_bot (h : LyrIs ps y) (s : ByteArray) : visV [y] s = getL ps s := by
  unfold visV
  rw [visD_cons, h s]
  cases getL ps s <;> rfl
theorem seen_bot0 (h : LyrIs ps y) (hr : Rise ps) (hs : ∀ p ∈ ps, p.1.size ≤ maxLen) : SeenL ⟨#[]⟩ [y] ps where
  rise := hr
  small := hs
  get := fun s _ => by rw [begB_empty, visV_bot h]; rfl
end

/-- as LyrIs, of keys that a text can have -/
def LyrM (ps : List Pr) (y : Lyr) : Prop := ∀ s : ByteArray, s.size ≤ maxLen → y.f s = (getL ps s).map some
theorem LyrIs.m {ps : List Pr} {y : Lyr} (h : LyrIs ps y) : LyrM ps y := fun s _ => h s
section
variable {W : World} {B : Nat} {y z : Lyr} {l : List Lyr}
end

/-! ### what the law's fixed answers come to -/
def kA : ByteArray := ⟨#[97]⟩
def kB : ByteArray := ⟨#[98]⟩
def kC : ByteArray := ⟨#[99]⟩
def fixPs : List Pr := [(kA, [1]), (kB, [2])]
def fixCs : List Chn := [(kA, none), (kC, some [3])]
end Go.Proofs.YtniclaapiabmdaaGreatDoor
namespace Go.Proofs.YtniclaapiabmdaaGreatDoor
set_option maxRecDepth 100000
open Go Go.RowKit
set_option linter.unusedVariables false

end Go.Proofs.YtniclaapiabmdaaGreatDoor
namespace Go.Proofs.YtniclaapiabmdaaGreatDoor
set_option maxRecDepth 100000
open Go Go.RowKit
set_option linter.unusedVariables false

set_option maxHeartbeats 4000000 in
theorem sroot_any {w : World} {y : Lyr} {l : List Lyr} (h : PileS w (y :: l)) (hN : sumN (y :: l) ≤ 1000000000) {R : List Pr} (hR : SeenL ⟨#[]⟩ (y :: l) R) (fr : TypeId × Nat × Nat) (hk : w.heap[0]? = some (.cells kVals fr.1 fr.2)) :
    Calls Tryz.prog 8 #[.pointer (some ⟨y.b, 0, none⟩)] w fun e w' => ∃ v, e = .returned v ∧ Own w' w.heap.size v (rootM R).1 ∧ Below w.heap.size w w' := by
  have hS := sound_yes h.1
  have hSh := shared_is h hN ⟨#[]⟩ (by decide +kernel) hR
  have hSh' : Calls Tryz.prog 31 #[.pointer (some ⟨y.b, 0, none⟩), .string ⟨#[]⟩] w fun e w' => ∃ v, e = .returned v ∧ OwnP w.heap.size w' (w.heap.size + 1) v R ∧ Below w.heap.size w w' ∧ w.heap.size + 1 ≤ w'.heap.size ∧ R.length ≤ 1000000000 := hSh
  have HR := Lib.hid hR.small
  have HK := Lib.hid hk
  have hn0 := blk_lt hk
  clear h hN hR hSh hk
  go_enter Tryz.func8, Tryz.ntmps8
  go_wp2_with fail
  refine hS.mono ?_
  rintro e w1 ⟨rfl, rfl⟩
  go_wp2_with fail
  refine hSh'.mono ?_
  rintro e w2 ⟨v2, rfl, ho2, hb2, -, -⟩
  have HM := Lib.hid (rootM_any w2 v2 R (OwnP.rdP ho2) HR.out fr ((hb2.block _ hn0).trans HK.out))
  obtain ⟨A2, c2, rfl⟩ := ho2.form
  clear ho2
  go_wp2_with fail
  refine HM.out.mono ?_
  rintro e w3 ⟨v3, rfl, ho3, hb3⟩
  have ho4 := ho3.more hb2.size
  have hb4 := below_chain hb2 hb2.size hb3
  clear ho3
  go_wp2_with fail
  go_ret
  exact ⟨_, rfl, ho4, hb4⟩
end Go.Proofs.YtniclaapiabmdaaGreatDoor
