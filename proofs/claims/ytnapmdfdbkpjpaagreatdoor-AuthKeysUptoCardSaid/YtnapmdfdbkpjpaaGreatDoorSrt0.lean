
/- slices.SortFunc at pairs, by strings.Compare of their keys: what the library's contract says, in the words of rows of the call's own. A row of pairs of the call's own, put in order by slices.SortFunc. -/
import Derived.Test.YtnapmdfdbkpjpaaGreatDoorPrX
import Derived.Test.YtnapmdfdbkpjpaaGreatDoorStoM0
import Derived.Test.YtnapmdfdbkpjpaaGreatDoorInfo0
import Derived.Test.YtnapmdfdbkpjpaaGreatDoorShfS
import Derived.Shelf.SlSortFuncK.HeapSortK
import Derived.Shelf.SlSortCmp.NoneTotal
import Derived.Shelf.SlSortCmp.WholeK
namespace Go.Proofs.YtnapmdfdbkpjpaaGreatDoor
set_option maxRecDepth 100000
open Go Go.RowKit Go.Shelf Go.Lib Go.Sort
set_option linter.unusedVariables false

theorem perm_lift {α β : Type} (f : β → α) {l' l : List α} (h : l'.Perm l) : ∀ Z : List β, Z.map f = l → ∃ Z' : List β, Z'.Perm Z ∧ Z'.map f = l' := by
  induction h with
  | nil =>
    intro Z hZ
    cases Z with
    | nil => exact ⟨[], List.Perm.nil, rfl⟩
    | cons a Z => cases hZ
  | cons x h ih =>
    intro Z hZ
    cases Z with
    | nil => cases hZ
    | cons z Z =>
      simp only [List.map_cons, List.cons.injEq] at hZ
      obtain ⟨Z', h1, h2⟩ := ih Z hZ.2
      exact ⟨z :: Z', h1.cons z, by simp [h2, hZ.1]⟩
  | swap x y l =>
    intro Z hZ
    cases Z with
    | nil => cases hZ
    | cons a Z =>
      cases Z with
      | nil => simp at hZ
      | cons b Z =>
        simp only [List.map_cons, List.cons.injEq] at hZ
        exact ⟨b :: a :: Z, List.Perm.swap _ _ _, by simp [hZ.1, hZ.2.1, hZ.2.2]⟩
  | trans h1 h2 ih1 ih2 =>
    intro Z hZ
    obtain ⟨Z2, p2, e2⟩ := ih2 Z hZ
    obtain ⟨Z1, p1, e1⟩ := ih1 Z2 e2
    exact ⟨Z1, p1.trans p2, e1⟩

/-- a pair's two cells, as the sort moves them -/
abbrev PairV := ByteArray × (Option Addr × Nat × Nat)
def encP (x : PairV) : List Value := [.string x.1, .slice x.2.1 x.2.2.1 x.2.2.2]
def cmpP (x y : PairV) : Int := Lib.compareBytes x.1.data.toList y.1.data.toList

theorem cmpB_neg : ∀ a b : List UInt8, decide (Lib.compareBytes a b < 0) = Op.bytesLess a b
  | [], [] => rfl
  | [], _ :: _ => rfl
  | _ :: _, [] => rfl
  | a :: r, b :: r' => by
    unfold Lib.compareBytes Op.bytesLess
    by_cases h1 : a < b
    · simp [h1]
    · by_cases h2 : b < a
      · simp [h1, h2]
        intro e
        subst e
        exact absurd h2 h1
      · simp [h1, h2, cmpB_neg r r']
        intro _
        rw [UInt8.lt_iff_toNat_lt] at h1 h2
        exact UInt8.toNat_inj.1 (by omega)
theorem lt_cmpP (x y : PairV) : ltOf cmpP x y = ltS x.1 y.1 := by
  unfold ltOf cmpP ltS
  rw [cmpB_neg, Lib.toList_data, Lib.toList_data]
theorem swoP : SWO (ltOf cmpP) where
  irrefl x := by rw [lt_cmpP]; exact ltS_irrefl _
  trans x y z h k := by rw [lt_cmpP] at *; exact ltS_trans h k
  ntrans x y z h k := by
    rw [lt_cmpP] at *
    cases e : ltS x.1 z.1 with
    | false => rfl
    | true =>
      by_cases exy : x.1 = y.1
      · rw [exy] at e; rw [e] at k; cases k
      · have := ltS_trans (ltS_tri h exy) e
        rw [this] at k; cases k

set_option maxHeartbeats 1000000 in
theorem cmpPair_any (x y : PairV) (W : World) : Calls Tryz.prog 41 #[.agg (encP x).toArray, .agg (encP y).toArray] W fun e w' => e = .returned (.int .i64 (cmpP x y)) ∧ ∃ q os', w' = grow (W.drewN q) os' := by
  have hcon := fun W' => Tryz.strings_Compare x.1 y.1 W'
  have e : Lib.compareBytes x.1.data.toList y.1.data.toList = cmpP x y := rfl
  rw [e] at hcon
  generalize cmpP x y = r at hcon ⊢
  unfold encP
  obtain ⟨x1, xa, xn, xc⟩ := x
  obtain ⟨y1, ya, yn, yc⟩ := y
  dsimp only at hcon ⊢
  go_enter Tryz.func41, Tryz.ntmps41
  go_wp2_with (go_at_call 42; refine (hcon _).mono ?_; rintro e w' ⟨rfl, rfl⟩)
  go_ret
  exact ⟨rfl, 0, _, by rw [alloc_eq_grow, alloc_eq_grow, grow_grow]; rfl⟩
end Go.Proofs.YtnapmdfdbkpjpaaGreatDoor
namespace Go.Proofs.YtnapmdfdbkpjpaaGreatDoor
set_option maxRecDepth 100000
open Go Go.RowKit Go.Shelf Go.Lib Go.Sort
set_option linter.unusedVariables false

instance : Inhabited PairV := ⟨(⟨#[]⟩, none, 0, 0)⟩
theorem encP_len (x : PairV) : (encP x).length = 2 := rfl
theorem encP_one (x : PairV) : ∀ v ∈ encP x, v.oneCell' = true := by
  intro v hv
  unfold encP at hv
  simp only [List.mem_cons, List.not_mem_nil, or_false] at hv
  rcases hv with rfl | rfl <;> rfl
theorem flatP (Z : List PairV) : (flatK encP 2 Z.toArray).toList = (Z.map encP).flatten := by
  have hl : ((Z.map encP).flatten).length = Z.length * 2 := by rw [flat_len (sz := 2) (Z.map encP) (fun c hc => by obtain ⟨z, _, rfl⟩ := List.mem_map.1 hc; rfl)]; simp
  refine List.ext_getElem? fun t => ?_
  by_cases ht : t < Z.length * 2
  · have hj : t / 2 < Z.length := by omega
    have e : t = t / 2 * 2 + t % 2 := by omega
    have h1 := flat_get (sz := 2) (Z.map encP) (fun c hc => by obtain ⟨z, _, rfl⟩ := List.mem_map.1 hc; rfl) (t / 2) (t % 2) (by simpa using hj) (by omega)
    rw [← e] at h1
    rw [h1, List.getElem_map, Array.getElem?_toList, Array.getElem?_eq_getElem (by simpa using ht), ← getElem!_pos (flatK encP 2 Z.toArray) t (by simpa using ht), get_flatK _ _ _ _ (by simpa using ht)]
    rw [getElem!_pos Z.toArray (t / 2) (by simpa using hj), List.getElem_toArray]
    have h2 : t % 2 < (encP Z[t / 2]).length := by rw [encP_len]; omega
    rw [getElem!_pos (encP Z[t / 2]) (t % 2) h2, List.getElem?_eq_getElem h2]
  · have hl2 : (flatK encP 2 Z.toArray).toList.length = Z.length * 2 := by rw [Array.length_toList, size_flatK]; simp
    rw [List.getElem?_eq_none (by omega), List.getElem?_eq_none (by omega)]

theorem heap_sortK {w : World} {g n : Nat} {os : Array Obj} {cur : Array Value} {e : TypeId} {fr : Nat × Nat} (d : Array PairV) (hb : w.heap[g]? = some (.cells cur e fr)) :
    (sortWorldK encP 2 w g 0 n d os).heap[g]? = some (.cells (putCells id 0 (flatK encP 2 d) cur) e fr) := by
  have hg : g < w.heap.size := (Array.getElem?_eq_some_iff.1 hb).1
  unfold sortWorldK putRowK
  rw [heap_grow_old _ _ (by simpa using hg)]
  simp [putRow, mapBlock, Sort.ahead, Array.getElem?_modify, hb, onCells]
theorem grownBy_sortK {w : World} {g n : Nat} {os : Array Obj} (d : Array PairV) : w.grownBy (sortWorldK encP 2 w g 0 n d os) (some g) := by
  unfold sortWorldK putRowK
  refine ⟨rfl, rfl, rfl, by simp, fun k hk hne => ?_⟩
  rw [heap_grow_old _ _ (by simpa using hk)]
  have : g ≠ k := fun e => hne (by rw [e])
  simp [putRow, mapBlock, Sort.ahead, Array.getElem?_modify, this]
theorem take_sortK (cur : Array Value) (Z : List PairV) (h : Z.length * 2 ≤ cur.size) : (putCells id 0 (flatK encP 2 Z.toArray) cur).toList.take (Z.length * 2) = (Z.map encP).flatten := by
  rw [← flatP]
  apply List.ext_getElem?
  intro j
  by_cases hj : j < Z.length * 2
  · rw [List.getElem?_take_of_lt hj, Array.getElem?_toList, Array.getElem?_toList]
    have h1 : j < (flatK encP 2 Z.toArray).size := by simpa using hj
    rw [Array.getElem?_eq_getElem h1, Array.getElem?_eq_getElem (by simp [putCells]; omega)]
    simp [putCells, hj, getElem!_pos (flatK encP 2 Z.toArray) j h1]
  · rw [List.getElem?_take_eq_none (by omega), List.getElem?_eq_none (by simp; omega)]
theorem holds_sortK {w : World} {g : Nat} {cur : Array Value} {e : TypeId} {Z : List PairV} (hb : w.heap[g]? = some (.cells cur e (0, 0))) (ht : cur.toList.take (Z.length * 2) = (Z.map encP).flatten) : HoldsK encP 2 w g 0 Z.toArray := by
  unfold HoldsK
  intro j hj
  have hj' : j < Z.length * 2 := by simpa using hj
  refine ⟨?_, by simp [World.frozen?, hb]⟩
  have h1 : (cur.toList.take (Z.length * 2))[j]? = (flatK encP 2 Z.toArray).toList[j]? := by rw [ht, flatP]
  rw [List.getElem?_take_of_lt hj'] at h1
  simp only [World.cell?, hb, Nat.zero_add]
  simp only [Option.isSome_none, Bool.false_eq_true, if_false]
  rw [← Array.getElem?_toList, h1, Array.getElem?_toList, Array.getElem?_eq_getElem hj, getElem!_pos (flatK encP 2 Z.toArray) j hj]
  rfl

theorem cmpLaysP (blk off size : Nat) (w : World) : CmpLays Tryz.prog 41 #[] encP 2 cmpP blk off size w := fun m os dk _ x y => cmpPair_any x y _

/-- pairs with where their values lie -/
theorem enc_of {B0 : Nat} {w : World} : ∀ {cs : List (List Value)} {L : List Pr}, cs.length = L.length → (∀ (j : Nat) (h : j < cs.length) (h' : j < L.length), PrC B0 w cs[j] L[j]) →
    ∃ Y : List (Pr × PairV), Y.map (fun y => y.1) = L ∧ Y.map (fun y => encP y.2) = cs ∧ ∀ y ∈ Y, y.2.1 = y.1.1 ∧ PrC B0 w (encP y.2) y.1
  | [], [], _, _ => ⟨[], rfl, rfl, by simp⟩
  | [], _ :: _, h, _ => by simp at h
  | _ :: _, [], h, _ => by simp at h
  | c :: cs, p :: L, h, k => by
    obtain ⟨Y, h1, h2, h3⟩ := enc_of (cs := cs) (L := L) (by simpa using h) (fun j hj hj' => k (j + 1) (Nat.succ_lt_succ hj) (Nat.succ_lt_succ hj'))
    have k0 : PrC B0 w c p := k 0 (by simp) (by simp)
    obtain ⟨v, hc, hr⟩ := id k0
    obtain ⟨A, q, hv⟩ := hr.1.form
    have he : encP (p.1, A, p.2.length, q) = c := by rw [hc, hv]; rfl
    refine ⟨(p, (p.1, A, p.2.length, q)) :: Y, by simp [h1], by simp [h2, he], fun y hy => ?_⟩
    rcases List.mem_cons.1 hy with rfl | hy
    · exact ⟨rfl, by rw [he]; exact k0⟩
    · exact h3 y hy

set_option maxHeartbeats 1000000 in
theorem sort_any {w : World} {B0 B : Nat} {v : Value} {L : List Pr} (h : OwnP B0 w B v L) (hB : B0 ≤ B) (hw : B ≤ w.heap.size) (hsz : L.length < 4611686018427387904) :
    Calls Tryz.prog 40 #[v, .func (.func 41) #[] #[]] w fun e w' => e = .returned (.tuple #[]) ∧ ∃ L', L'.Perm L ∧ L'.Pairwise (fun p q => ltS q.1 p.1 = false) ∧ OwnP B0 w' B v L' ∧ Below B w w' := by
  have eg : ∀ args w, (callFunc 41 args).run Tryz.prog w = .ok (.enter 41 args) w := enters_of Tryz.func41 (by kernel_rfl) rfl
  obtain ⟨A, c, rfl⟩ := h.form
  by_cases h0 : L.length = 0
  · obtain rfl : L = [] := List.eq_nil_of_length_eq_zero h0
    have hcon := AnyF.slices_SortFunc_none Tryz.sortPair A c (.func (.func 41) #[] #[]) w
    change Calls Tryz.prog 40 _ _ _ at hcon
    refine hcon.mono ?_
    rintro e w' ⟨rfl, rfl⟩
    exact ⟨rfl, [], List.Perm.refl _, by simp, h, Below.refl _ _⟩
  · obtain ⟨cs, hr, h1, h2, h3⟩ := id h
    rcases hr.2 with ⟨e, e0⟩ | ⟨g, cap, cur, hv, hb, hg, hn, hm, hs, ht⟩
    · exact absurd e0 h0
    · injection hv with e1 e2 e3
      subst e1; subst e3
      obtain ⟨Y, y1, y2, y3⟩ := enc_of h1 h3
      have hZl : (Y.map (·.2)).length = L.length := by rw [← y1]; simp
      have hZe : (Y.map (·.2)).map encP = cs := by rw [← y2, List.map_map]; rfl
      have hcur : cur.toList.take ((Y.map (·.2)).length * 2) = ((Y.map (·.2)).map encP).flatten := by rw [hZl, hZe]; exact ht
      have hH := holds_sortK hg hcur
      have hcon := AnyQ.slices_SortFunc Tryz.sortPair 2 Tryz.isAgg42 Tryz.sizeOf42 encP encP_len encP_one cmpP swoP 41 #[] g 0 c (Y.map (·.2)).toArray w eg (cmpLaysP g 0 _ w) hH (blk_lt hg) (by simpa [hZl] using hsz)
      change Calls Tryz.prog 40 _ _ _ at hcon
      rw [show (Y.map (·.2)).toArray.size = L.length by rw [List.size_toArray, hZl]] at hcon
      refine hcon.mono ?_
      rintro e w' ⟨rfl, d', n, os, ⟨p1, _, p3⟩, hsrt, rfl⟩
      have p1' : d'.size = L.length := by rw [p1, List.size_toArray, hZl]
      rw [← p1', Array.extract_size] at p3
      rw [p1'] at p3
      have hex : ((Y.map (·.2)).toArray.extract 0 L.length).toList = Y.map (·.2) := by
        rw [← hZl, ← List.size_toArray, Array.extract_size]
      rw [hex] at p3
      obtain ⟨Y', py, hy'⟩ := perm_lift (fun y : Pr × PairV => y.2) p3 Y rfl
      have hYl : Y'.length = L.length := by rw [py.length_eq, ← hZl]; simp
      have hd : d' = (Y'.map (·.2)).toArray := by rw [← Array.toArray_toList (xs := d')]; rw [hy']
      have hgr := grownBy_sortK (w := w) (g := g) (n := n) (os := os) d'
      have hGr : Grow w B0 42 (sortWorldK encP 2 w g 0 n d' os) := grow_of hgr (Nat.le_trans hB hb) hg
      refine ⟨rfl, Y'.map (·.1), ?_, ?_, ?_, (Below.refl B w).grown hgr hw (fun k hk => by injection hk with hk; rw [← hk]; exact hb)⟩
      · rw [← y1]; exact py.map _
      · refine List.pairwise_iff_getElem.2 fun i j hi hj hij => ?_
        have hj' : j < L.length := by simpa [hYl] using hj
        have hi' : i < L.length := by simpa [hYl] using hi
        have hq := hsrt i j (Nat.zero_le _) hij hj'
        rw [lt_cmpP, getElem!_pos d' j (by omega), getElem!_pos d' i (by omega)] at hq
        subst hd
        simp only [List.getElem_toArray, List.getElem_map] at hq ⊢
        rw [(y3 _ (py.mem_iff.1 (List.getElem_mem (by omega)))).1, (y3 _ (py.mem_iff.1 (List.getElem_mem (by omega)))).1] at hq
        exact hq
      · have hl' : (Y'.map (fun y => encP y.2)).length = (Y'.map (·.1)).length := by simp
        have hds : (putCells id 0 (flatK encP 2 d') cur).size = c * 2 := by simp [putCells, hs]
        refine ⟨Y'.map (fun y => encP y.2), ⟨?_, .inr ⟨g, c, _, by simp [hYl], hb, heap_sortK d' hg, by simpa [hYl] using hn, hm, hds, ?_⟩⟩, hl', fun c hc => by obtain ⟨y, _, rfl⟩ := List.mem_map.1 hc; rfl, fun j hj hj' => ?_⟩
        · rw [flat_len (sz := 2) _ (fun c hc => by obtain ⟨y, _, rfl⟩ := List.mem_map.1 hc; rfl)]; simp
        · have := take_sortK cur (Y'.map (·.2)) (by rw [List.length_map, hYl]; rw [hs]; omega)
          rw [List.map_map, List.length_map] at this
          rw [hd, List.length_map]
          exact this
        · rw [List.getElem_map, List.getElem_map]
          exact (y3 _ (py.mem_iff.1 (List.getElem_mem _))).2.grow hGr (by decide)
end Go.Proofs.YtnapmdfdbkpjpaaGreatDoor
