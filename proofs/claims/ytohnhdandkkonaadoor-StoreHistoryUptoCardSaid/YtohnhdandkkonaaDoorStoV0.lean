
/- Pairs gathered out of a store's layers, one by one: which are there so far, and no key twice. strings.HasPrefix, walked; and what 'len(s) >= len(p) && s[:len(p)] == p' says. The gathering of a store's pairs: what holds ahead of each layer, and in the midst of one. -/
import Derived.Test.YtohnhdandkkonaaDoorStoM0
import Derived.Test.YtohnhdandkkonaaDoorStoA0
import Derived.Lib.Strings
import Derived.Lib.Slices
import Derived.Lib.Walk
import Derived.Test.YtohnhdandkkonaaDoorPrX
namespace Go.Proofs.YtohnhdandkkonaaDoor
set_option maxRecDepth 100000
open Go
set_option linter.unusedVariables false

/-- the pairs gathered so far: those that D decides, of the keys that b takes -/
structure Gath (b : ByteArray → Bool) (D : LF) (L : List Pr) : Prop where
  keys : L.Pairwise (fun p q => p.1 ≠ q.1)
  small : ∀ p ∈ L, p.1.size ≤ maxLen
  mem : ∀ (s : ByteArray) (v : List UInt8), s.size ≤ maxLen → ((s, v) ∈ L ↔ b s = true ∧ D s = some (some v))
section
variable {b : ByteArray → Bool} {D D' : LF} {L : List Pr}
theorem Gath.nil (b : ByteArray → Bool) : Gath b (fun _ => none) [] := ⟨by simp, by simp, fun s v _ => by simp⟩
theorem Gath.congr (h : Gath b D L) (e : ∀ s : ByteArray, s.size ≤ maxLen → b s = true → ∀ v, D' s = some (some v) ↔ D s = some (some v)) : Gath b D' L :=
  ⟨h.keys, h.small, fun s v hs => by
    rw [h.mem s v hs]
    constructor
    · rintro ⟨h1, h2⟩; exact ⟨h1, (e s hs h1 v).2 h2⟩
    · rintro ⟨h1, h2⟩; exact ⟨h1, (e s hs h1 v).1 h2⟩⟩
theorem Gath.add (h : Gath b D L) {x : ByteArray} {v : List UInt8} (hx : x.size ≤ maxLen) (hb : b x = true) (h0 : D x = none) (h1 : D' x = some (some v)) (h2 : ∀ s : ByteArray, s.size ≤ maxLen → s ≠ x → D' s = D s) : Gath b D' (L ++ [(x, v)]) where
  keys := by
    refine List.pairwise_append.2 ⟨h.keys, by simp, fun p hp q hq e => ?_⟩
    rw [List.mem_singleton.1 hq] at e
    have := (h.mem p.1 p.2 (h.small p hp)).1 hp
    rw [e, h0] at this
    exact absurd this.2 (by simp)
  small := by
    intro p hp
    rcases List.mem_append.1 hp with hp | hp
    · exact h.small p hp
    · rw [List.mem_singleton.1 hp]; exact hx
  mem := by
    intro s u hs
    rw [List.mem_append, List.mem_singleton]
    by_cases e : s = x
    · subst e
      rw [h.mem s u hs, h0, h1]
      simp [hb]
      exact eq_comm
    · rw [h.mem s u hs, h2 s hs e]
      simp [e]
end
/-- what is decided in the midst of a layer: what nearer layers decide, and of this one's what is no longer to come -/
def midD (D : LF) (f : LF) (left : ByteArray → Bool) : LF := fun s => (D s).or (if left s = true then none else f s)
section
variable {b : ByteArray → Bool} {D f : LF} {left left' : ByteArray → Bool} {L : List Pr}
theorem midD_start {g : ByteArray → Option Value} {w : World} (h : SaysF w g f) (s : ByteArray) (hs : s.size ≤ maxLen) : midD D f (fun s => (g s).isSome) s = D s := by
  unfold midD
  rcases h s hs with ⟨h1, h2⟩ | ⟨e, x, h1, h2, _⟩
  · simp [h1, h2]
  · simp [h1]
theorem midD_done (h : ∀ s : ByteArray, s.size ≤ maxLen → left s = false) (s : ByteArray) (hs : s.size ≤ maxLen) : midD D f left s = (D s).or (f s) := by
  unfold midD
  simp [h s hs]
theorem midD_other {x s : ByteArray} (e : s ≠ x) : midD D f (fun s => left s && !decide (s = x)) s = midD D f left s := by
  unfold midD
  simp [e]
theorem midD_here {x : ByteArray} (hl : left x = true) : midD D f left x = D x := by
  unfold midD
  simp [hl]
theorem midD_then {x : ByteArray} : midD D f (fun s => left s && !decide (s = x)) x = (D x).or (f x) := by
  unfold midD
  simp
/-- a key that b doesn't take, or that is hidden, or is gone -/
theorem Gath.skip (h : Gath b (midD D f left) L) {x : ByteArray} (hl : left x = true) (hc : b x = false ∨ (D x).isSome = true ∨ f x = some none) : Gath b (midD D f (fun s => left s && !decide (s = x))) L := by
  refine h.congr fun s hs hb v => ?_
  by_cases e : s = x
  · subst e
    rw [midD_then, midD_here hl]
    rcases hc with hc | hc | hc
    · rw [hc] at hb; cases hb
    · obtain ⟨y, hy⟩ := Option.isSome_iff_exists.1 hc
      simp [hy]
    · rw [hc]
      cases D s <;> simp
  · rw [midD_other e]
theorem Gath.take (h : Gath b (midD D f left) L) {x : ByteArray} {v : List UInt8} (hx : x.size ≤ maxLen) (hl : left x = true) (hb : b x = true) (hD : D x = none) (hf : f x = some (some v)) : Gath b (midD D f (fun s => left s && !decide (s = x))) (L ++ [(x, v)]) := by
  refine h.add hx hb ?_ ?_ ?_
  · rw [midD_here hl]; exact hD
  · rw [midD_then, hD, hf]; rfl
  · exact fun s _ e => midD_other e
end
/-- which keys the nearer layers have of their own -/
def NearF (b : ByteArray → Bool) (D : LF) (r : ByteArray → Option Value) : Prop := ∀ s : ByteArray, s.size ≤ maxLen → (r s).isSome = (b s && (D s).isSome)
section
variable {b : ByteArray → Bool} {D f : LF} {left : ByteArray → Bool} {r : ByteArray → Option Value}
theorem NearF.nil : NearF b (fun _ => none) (fun _ => none) := fun s _ => by simp
theorem NearF.skip (h : NearF b (midD D f left) r) {x : ByteArray} (hl : left x = true) (hc : b x = false ∨ (D x).isSome = true) : NearF b (midD D f (fun s => left s && !decide (s = x))) r := by
  intro s hs
  by_cases e : s = x
  · subst e
    rw [h s hs, midD_then, midD_here hl]
    rcases hc with hc | hc
    · simp [hc]
    · obtain ⟨y, hy⟩ := Option.isSome_iff_exists.1 hc
      simp [hy]
  · rw [h s hs, midD_other e]
theorem NearF.put (h : NearF b (midD D f left) r) {x : ByteArray} (u : Value) (hb : b x = true) (hf : (f x).isSome = true) : NearF b (midD D f (fun s => left s && !decide (s = x))) (fun s => if s = x then some u else r s) := by
  intro s hs
  by_cases e : s = x
  · subst e
    rw [midD_then]
    obtain ⟨y, hy⟩ := Option.isSome_iff_exists.1 hf
    cases D s <;> simp [hb, hy]
  · rw [midD_other e]
    simp [e, h s hs]
theorem NearF.congr {D' : LF} (h : NearF b D r) (e : ∀ s : ByteArray, s.size ≤ maxLen → D' s = D s) : NearF b D' r := fun s hs => by rw [h s hs, e s hs]
end
theorem visD_cons (y : Lyr) (l : List Lyr) (s : ByteArray) : visD (y :: l) s = (y.f s).or (visD l s) := by
  show (match y.f s with | some x => some x | none => visD l s) = _
  cases y.f s <;> rfl
/-- gathered, and in order: they are those that are seen -/
theorem Gath.seen {b : ByteArray → Bool} {l : List Lyr} {L : List Pr} (h : Gath b (visD l) L) {R : List Pr} (hR : Rise R) (hR2 : ∀ p ∈ R, p.1.size ≤ maxLen) (hv : ∀ s : ByteArray, s.size ≤ maxLen → getL R s = if b s = true then visV l s else none) {L' : List Pr} (hp : L'.Perm L) (hs : L'.Pairwise (fun p q => ltS q.1 p.1 = false)) : L' = R := by
  have hk : L'.Pairwise (fun p q => p.1 ≠ q.1) := (hp.pairwise_iff (fun {a b} h => Ne.symm h)).2 h.keys
  refine (Rise.of_sorted hs hk).eq_of_mem hR fun p => ?_
  rw [hp.mem_iff]
  constructor
  · intro hm
    have h1 := h.small p hm
    have h2 := (h.mem p.1 p.2 h1).1 hm
    rw [hR.mem, hv p.1 h1, if_pos h2.1]
    unfold visV
    rw [h2.2]; rfl
  · intro hm
    have h1 := hR2 p hm
    have h2 := hv p.1 h1
    rw [hR.get hm] at h2
    refine (h.mem p.1 p.2 h1).2 ?_
    by_cases hb : b p.1 = true
    · rw [if_pos hb] at h2
      refine ⟨hb, ?_⟩
      unfold visV at h2
      cases hd : visD l p.1 with
      | none => rw [hd] at h2; cases h2
      | some x => rw [hd] at h2; rw [show x = some p.2 from h2.symm]
    · rw [if_neg hb] at h2; cases h2
end Go.Proofs.YtohnhdandkkonaaDoor
namespace Go.Proofs.YtohnhdandkkonaaDoor
set_option maxRecDepth 100000
open Go Go.RowKit
set_option linter.unusedVariables false

/-- does the text s begin with p? -/
def begB (p s : ByteArray) : Bool := Lib.hasPrefix s.data.toList p.data.toList
theorem begB_empty (s : ByteArray) : begB ⟨#[]⟩ s = true := by simp [begB, Lib.hasPrefix]
theorem begB_long {p s : ByteArray} (h : ¬ p.size ≤ s.size) : begB p s = false := by
  unfold begB
  rw [← Lib.hasPrefix_of_take, ← Lib.size_eq, ← Lib.size_eq]
  simp [h]
theorem begB_cut {p s : ByteArray} (h : p.size ≤ s.size) : begB p s = ((s.extract 0 p.size).toList == p.toList) := by
  unfold begB
  rw [← Lib.hasPrefix_of_take, ← Lib.size_eq, ← Lib.size_eq]
  rw [Lib.extract_toList, Lib.toList_data]
  simp [h]

set_option maxHeartbeats 1000000 in
theorem litePrefix_any (s p : ByteArray) (w : World) :
    Calls Tryd.prog 52 #[.string s, .string p] w fun e w' => e = .returned (.bool (begB p s)) ∧ w' = w := by
  by_cases h : p.size ≤ s.size
  · rw [begB_cut h]
    have i1 : (p.size : Int) ≤ (s.size : Int) := by omega
    go_enter Tryd.func52, Tryd.ntmps52
    go_wp2
    all_goals first
      | (go_ret; exact ⟨rfl, rfl⟩)
      | (exfalso; rename_i h'; simp at h'; omega)
  · rw [begB_long h]
    have i1 : ¬ (p.size : Int) ≤ (s.size : Int) := by omega
    go_enter Tryd.func52, Tryd.ntmps52
    go_wp2
    all_goals first
      | (go_ret; exact ⟨rfl, rfl⟩)
      | (exfalso; rename_i h'; simp at h'; omega)
theorem prefix_any (s p : ByteArray) (w : World) :
    Calls Tryd.prog 39 #[.string s, .string p] w fun e w' => e = .returned (.bool (begB p s)) ∧ w' = w := by
  have hc := fun W => litePrefix_any s p W
  go_enter Tryd.func39, Tryd.ntmps39
  go_wp2_with fail
  refine (hc _).mono ?_
  rintro e w' ⟨rfl, rfl⟩
  go_wp2_with fail
  go_ret
  exact ⟨rfl, rfl⟩
end Go.Proofs.YtohnhdandkkonaaDoor
namespace Go.Proofs.YtohnhdandkkonaaDoor
set_option maxRecDepth 100000
open Go Go.RowKit
set_option linter.unusedVariables false

/-- block i is no row -/
def NoRow (w : World) (i : Nat) : Prop := ∀ cs t fr, w.heap[i]? ≠ some (.cells cs t fr)
section
variable {w w' : World} {B0 B b i : Nat} {t E : TypeId} {x v : Value} {l : List UInt8} {L : List Pr}
theorem Of.nc (h : Of w B0 t b) (hi : B0 ≤ i) (hn : NoRow w i) : b ≠ i := by
  rintro rfl
  rcases h with h | ⟨cs, fr, e⟩
  · omega
  · exact hn _ _ _ e
theorem RdS.nc (h : RdS w B0 x l) (hg : w.grownBy w' (some i)) (hi : B0 ≤ i) (hn : NoRow w i) : RdS w' B0 x l := by
  obtain ⟨h1, h2⟩ := h
  obtain ⟨A, c, rfl, hc, hm, hp⟩ := h1
  have key : ∀ b, 0 < l.length → (Value.slice A l.length c).ownBlock = some b → b < w.heap.size → w'.heap[b]? = w.heap[b]? := fun b h0 e hb =>
    hg.block b hb (fun e' => (h2 b h0 e).nc hi hn (Option.some.inj e'))
  refine ⟨⟨A, c, rfl, hc, hm, fun h0 => ?_⟩, fun b h0 e => ?_⟩
  · obtain ⟨b, o, rfl, hlt, hcell⟩ := hp h0
    exact ⟨b, o, rfl, Nat.lt_of_lt_of_le hlt hg.size, fun j hj => (World.cell?_of_block (a := ⟨b, o + j, none⟩) (key b h0 rfl hlt)).trans (hcell j hj)⟩
  · obtain ⟨b', o, rfl, hlt, hcell⟩ := hp h0
    have e' : b' = b := by simpa [Value.ownBlock] using e
    subst e'
    rcases h2 b' h0 rfl with h | ⟨cs, fr, e2⟩
    · exact .inl h
    · exact .inr ⟨cs, fr, (key b' h0 rfl hlt).trans e2⟩
theorem PrC.nc {c : List Value} {p : Pr} (h : PrC B0 w c p) (hg : w.grownBy w' (some i)) (hi : B0 ≤ i) (hn : NoRow w i) : PrC B0 w' c p := by
  obtain ⟨v, e, q⟩ := h
  exact ⟨v, e, q.nc hg hi hn⟩
theorem OwnP.nc (h : OwnP B0 w B v L) (hg : w.grownBy w' (some i)) (hi : B0 ≤ i) (hn : NoRow w i) : OwnP B0 w' B v L := by
  obtain ⟨cs, h, h1, h2, h3⟩ := h
  refine ⟨cs, World.ownsRow.kept h hg ?_, h1, h2, fun j hj hj' => (h3 j hj hj').nc hg hi hn⟩
  cases hv : v.ownBlock with
  | none => exact .inl rfl
  | some b =>
    right
    intro e
    rcases h.2 with ⟨rfl, _⟩ | ⟨g', cap, cur, rfl, hb, hg', _⟩
    · simp [Value.ownBlock] at hv
    · simp only [Value.ownBlock, Option.some.injEq] at hv
      subst hv
      injection e with e
      subst e
      exact hn _ _ _ hg'
theorem OwnP.notMap (h : OwnP B0 w B v L) (hn : NoRow w i) : some i ≠ v.ownBlock := by
  obtain ⟨cs, h, _⟩ := h
  rcases h.2 with ⟨rfl, _⟩ | ⟨g', cap, cur, rfl, hb, hg', _⟩
  · simp [Value.ownBlock]
  · intro e
    simp only [Value.ownBlock, Option.some.injEq] at e
    subst e
    exact hn _ _ _ hg'
theorem below_grown (hb : Below w.heap.size w w') (row : Option Nat) : w.grownBy w' row := ⟨hb.os, hb.tape, hb.output, hb.size, fun k hk _ => hb.block k hk⟩
theorem noRow_map {es : Array MapEntry} {c : Nat} (h : w.heap[i]? = some (.map es c)) : NoRow w i := by
  intro cs t fr e
  rw [h] at e; cases e
theorem MapS.noRow {m n : Nat} {g : ByteArray → Option Value} (h : MapS Tryd.prog 9 w m n g) : NoRow w m := by
  obtain ⟨es, c, e⟩ := h.isMap
  exact noRow_map e
theorem RangeS.noRow {m r n : Nat} {g : ByteArray → Option Value} {left : ByteArray → Bool} {cnt : Nat} (h : RangeS Tryd.prog 9 w m r n g left cnt) : NoRow w r := by
  obtain ⟨D, lf, h1, _⟩ := h
  obtain ⟨_, _, _, _, _, _, _, _, _, hit, _⟩ := h1
  intro cs t fr e
  rw [hit] at e; cases e
theorem RangeS.lt {m r n : Nat} {g : ByteArray → Option Value} {left : ByteArray → Bool} {cnt : Nat} (h : RangeS Tryd.prog 9 w m r n g left cnt) : r < w.heap.size := by
  obtain ⟨D, lf, h1, _⟩ := h
  exact h1.lt
end

def sumN (l : List Lyr) : Nat := (l.map (·.n)).sum
theorem sumN_cons (y : Lyr) (l : List Lyr) : sumN (y :: l) = y.n + sumN l := by simp [sumN]
/-- which keys the nearer layers have of their own: as the map of nothings holds them -/
def NearU (b : ByteArray → Bool) (D : LF) (r : ByteArray → Option Value) : Prop := ∀ s : ByteArray, s.size ≤ maxLen → r s = if (b s && (D s).isSome) = true then some (.agg #[]) else none
section
variable {b : ByteArray → Bool} {D D' f : LF} {left : ByteArray → Bool} {r : ByteArray → Option Value}
theorem NearU.nil : NearU b (fun _ => none) (fun _ => none) := fun s _ => by simp
theorem NearU.congr (h : NearU b D r) (e : ∀ s : ByteArray, s.size ≤ maxLen → D' s = D s) : NearU b D' r := fun s hs => by rw [h s hs, e s hs]
theorem NearU.skip (h : NearU b (midD D f left) r) {x : ByteArray} (hl : left x = true) (hc : b x = false ∨ (D x).isSome = true) : NearU b (midD D f (fun s => left s && !decide (s = x))) r := by
  intro s hs
  by_cases e : s = x
  · subst e
    rw [h s hs, midD_then, midD_here hl]
    rcases hc with hc | hc
    · simp [hc]
    · obtain ⟨y, hy⟩ := Option.isSome_iff_exists.1 hc
      simp [hy]
  · rw [h s hs, midD_other e]
theorem NearU.put (h : NearU b (midD D f left) r) {x : ByteArray} (hb : b x = true) (hf : (f x).isSome = true) : NearU b (midD D f (fun s => left s && !decide (s = x))) (fun s => if s = x then some (.agg #[]) else r s) := by
  intro s hs
  by_cases e : s = x
  · subst e
    rw [midD_then]
    obtain ⟨y, hy⟩ := Option.isSome_iff_exists.1 hf
    cases D s <;> simp [hb, hy]
  · rw [midD_other e]
    simp [e, h s hs]
end

/-- ahead of a layer -/
structure OutS (pfx : ByteArray) (w : World) (m0 N : Nat) (l suf : List Lyr) (bv : Value) (W : World) : Prop where
  hp : PileS w suf
  rest : ∃ D L, (∀ s : ByteArray, s.size ≤ maxLen → visD l s = (D s).or (visD suf s)) ∧ Gath (begB pfx) D L ∧ OwnP w.heap.size W (w.heap.size + 1) bv L ∧
    (∃ n nr, MapS Tryd.prog 9 W m0 n nr ∧ (suf.isEmpty = false → NearU (begB pfx) D nr) ∧ n + sumN suf ≤ N) ∧ L.length + sumN suf ≤ N
  hb : Below w.heap.size w W
  hs : w.heap.size + 1 ≤ W.heap.size
/-- in the midst of one -/
structure InS (pfx : ByteArray) (w : World) (m0 N : Nat) (l : List Lyr) (y : Lyr) (r : List Lyr) (it : Nat) (g : ByteArray → Option Value) (D : LF) (lR : ByteArray → Bool) (cR : Nat) (lG : ByteArray → Bool) (cG : Nat) (lN : ByteArray → Bool) (cN : Nat) (L : List Pr) (n : Nat) (nr : ByteArray → Option Value) (bv : Value) (W : World) : Prop where
  it_ge : w.heap.size + 1 ≤ it
  m0_is : m0 = w.heap.size
  hp : PileS w (y :: r)
  hv : ∀ s : ByteArray, s.size ≤ maxLen → visD l s = (D s).or (visD (y :: r) s)
  hr : RangeS Tryd.prog 9 W y.m it y.n g lR cR
  hg : Gath (begB pfx) (midD D y.f lG) L
  ho : OwnP w.heap.size W (w.heap.size + 1) bv L
  hm : MapS Tryd.prog 9 W m0 n nr
  hn : NearU (begB pfx) (if r.isEmpty = true then D else midD D y.f lN) nr
  hcN : n + cN + sumN r ≤ N
  hcL : L.length + cG + sumN r ≤ N
  hb : Below w.heap.size w W
section
variable {pfx : ByteArray} {w W W' : World} {m0 N : Nat} {l r : List Lyr} {y : Lyr} {it : Nat} {g : ByteArray → Option Value} {D : LF} {lR lG lN : ByteArray → Bool} {cR cG cN : Nat} {L : List Pr} {n : Nat} {nr : ByteArray → Option Value} {bv : Value}
theorem InS.ym (h : InS pfx w m0 N l y r it g D lR cR lG cG lN cN L n nr bv W) : y.m < w.heap.size := h.hp.1.lt.2
theorem InS.up (h : InS pfx w m0 N l y r it g D lR cR lG cG lN cN L n nr bv W) (hb : Below W.heap.size W W') : InS pfx w m0 N l y r it g D lR cR lG cG lN cN L n nr bv W' where
  it_ge := h.it_ge
  m0_is := h.m0_is
  hp := h.hp
  hv := h.hv
  hr := h.hr.kept (below_grown hb none) (by simp) (by simp)
  hg := h.hg
  ho := h.ho.up hb
  hm := h.hm.chg (.of_below hb (fun _ => False)) id
  hn := h.hn
  hcN := h.hcN
  hcL := h.hcL
  hb := below_chain h.hb h.hb.size hb
theorem InS.next (h : InS pfx w m0 N l y r it g D lR cR lG cG lN cN L n nr bv W) {lR' : ByteArray → Bool} {cR' : Nat} (hr : RangeS Tryd.prog 9 W' y.m it y.n g lR' cR') (hg : W.grownBy W' (some it)) : InS pfx w m0 N l y r it g D lR' cR' lG cG lN cN L n nr bv W' where
  it_ge := h.it_ge
  m0_is := h.m0_is
  hp := h.hp
  hv := h.hv
  hr := hr
  hg := h.hg
  ho := h.ho.nc hg (by have := h.it_ge; omega) h.hr.noRow
  hm := h.hm.chg (F := fun k => k = it) (.of_grown hg fun k e => (Option.some.inj e).symm) (by have := h.it_ge; have := h.m0_is; omega)
  hn := h.hn
  hcN := h.hcN
  hcL := h.hcL
  hb := h.hb.grown hg h.hb.size (fun k e => by have := h.it_ge; injection e; omega)
theorem InS.skipN (h : InS pfx w m0 N l y r it g D lR cR lG cG lN cN L n nr bv W) {x : ByteArray} {c : Nat} (hl : lN x = true) (hc : c ≤ cN) (hk : r.isEmpty = true ∨ begB pfx x = false ∨ (D x).isSome = true) : InS pfx w m0 N l y r it g D lR cR lG cG (fun s => lN s && !decide (s = x)) c L n nr bv W :=
  { h with
    hn := by
      have := h.hn
      cases hr : r.isEmpty with
      | true => rw [hr] at this; simpa using this
      | false =>
        rw [hr] at this hk
        simp only [Bool.false_eq_true, if_false, false_or] at this hk ⊢
        exact this.skip hl hk
    hcN := by have := h.hcN; omega }
theorem InS.skipG (h : InS pfx w m0 N l y r it g D lR cR lG cG lN cN L n nr bv W) {x : ByteArray} {c : Nat} (hl : lG x = true) (hc : c ≤ cG) (hk : begB pfx x = false ∨ (D x).isSome = true ∨ y.f x = some none) : InS pfx w m0 N l y r it g D lR cR (fun s => lG s && !decide (s = x)) c lN cN L n nr bv W :=
  { h with
    hg := h.hg.skip hl hk
    hcL := by have := h.hcL; omega }
theorem InS.put (h : InS pfx w m0 N l y r it g D lR cR lG cG lN cN L n nr bv W) {x : ByteArray} {c : Nat} (hc : c < cN) (hb : begB pfx x = true) (hf : (y.f x).isSome = true) (hre : r.isEmpty = false) (hm : MapS Tryd.prog 9 W' m0 (n + 1) (fun s => if s = x then some (.agg #[]) else nr s)) (ht : W.mapTurned W' m0) :
    InS pfx w m0 N l y r it g D lR cR lG cG (fun s => lN s && !decide (s = x)) c L (n + 1) (fun s => if s = x then some (.agg #[]) else nr s) bv W' where
  it_ge := h.it_ge
  m0_is := h.m0_is
  hp := h.hp
  hv := h.hv
  hr := h.hr.kept ht.grown (by have := h.ym; have := h.m0_is; intro e; injection e; omega) (by have := h.it_ge; have := h.m0_is; intro e; injection e; omega)
  hg := h.hg
  ho := h.ho.nc ht.grown (by have := h.m0_is; omega) h.hm.noRow
  hm := hm
  hn := by
    have := h.hn
    rw [hre] at this ⊢
    simp only [Bool.false_eq_true, if_false] at this ⊢
    exact this.put hb hf
  hcN := by have := h.hcN; omega
  hcL := h.hcL
  hb := h.hb.grown ht.grown h.hb.size (fun k e => by have := h.m0_is; injection e; omega)
theorem InS.take (h : InS pfx w m0 N l y r it g D lR cR lG cG lN cN L n nr bv W) {x : ByteArray} {v : List UInt8} {c : Nat} {bv' : Value} (hc : c < cG) (hx : x.size ≤ maxLen) (hl : lG x = true) (hb : begB pfx x = true) (hD : D x = none) (hf : y.f x = some (some v)) (ho : OwnP w.heap.size W' (w.heap.size + 1) bv' (L ++ [(x, v)])) (hg : W.grownBy W' bv.ownBlock) :
    InS pfx w m0 N l y r it g D lR cR (fun s => lG s && !decide (s = x)) c lN cN (L ++ [(x, v)]) n nr bv' W' where
  it_ge := h.it_ge
  m0_is := h.m0_is
  hp := h.hp
  hv := h.hv
  hr := h.hr.kept hg (h.ho.notMap h.hr.owns.noRow) (h.ho.notMap h.hr.noRow)
  hg := h.hg.take hx hl hb hD hf
  ho := ho
  hm := h.hm.chg (F := fun k => bv.ownBlock = some k) (.of_grown hg fun k e => e) (fun e => h.ho.notMap h.hm.noRow e.symm)
  hn := h.hn
  hcN := h.hcN
  hcL := by have := h.hcL; rw [List.length_append, List.length_singleton]; omega
  hb := h.hb.grown hg h.hb.size (fun k e => by have := (OwnX.lt h.ho k e).1; omega)
theorem InS.near (h : InS pfx w m0 N l y r it g D lR cR lG cG lN cN L n nr bv W) {x : ByteArray} (hx : x.size ≤ maxLen) (hl : lN x = true) (hb : begB pfx x = true) : nr x = if (D x).isSome = true then some (.agg #[]) else none := by
  rw [h.hn x hx, hb]
  cases hr : r.isEmpty with
  | true => simp
  | false => simp [midD_here hl]
theorem InS.close (h : InS pfx w m0 N l y r it g D lR cR lR cG lR cN L n nr bv W) (hd : ∀ s : ByteArray, s.size ≤ maxLen → lR s = false) : OutS pfx w m0 N l r bv W where
  hp := h.hp.tail
  rest := by
    have h1 := midD_done (D := D) (f := y.f) hd
    refine ⟨fun s => (D s).or (y.f s), L, fun s hs => ?_, h.hg.congr fun s hs _ v => by rw [h1 s hs], h.ho, ⟨n, nr, h.hm, fun hre => ?_, by have := h.hcN; omega⟩, by have := h.hcL; omega⟩
    · rw [h.hv s hs, visD_cons]
      show _ = ((D s).or (y.f s)).or (visD r s)
      cases D s <;> rfl
    · have := h.hn
      rw [hre] at this
      simp only [Bool.false_eq_true, if_false] at this
      exact this.congr fun s hs => (h1 s hs).symm
  hb := h.hb
  hs := by have := h.hr.lt; have := h.it_ge; omega
theorem OutS.open (h : OutS pfx w m0 N l (y :: r) bv W) (hm0 : m0 = w.heap.size) {it cnt : Nat} (hS : SaysF w g y.f) (hr : RangeS Tryd.prog 9 W' y.m it y.n g (fun s => (g s).isSome) cnt) (hit : it = W.heap.size) (hc : cnt ≤ y.n) (hg : W.grownBy W' none) :
    ∃ D L n nr, InS pfx w m0 N l y r it g D (fun s => (g s).isSome) cnt (fun s => (g s).isSome) cnt (fun s => (g s).isSome) cnt L n nr bv W' := by
  obtain ⟨D, L, h1, h2, h3, ⟨n, nr, h4, h5, h6⟩, h7⟩ := h.rest
  have hbl : Below W.heap.size W W' := ⟨hg.os, hg.tape, hg.output, hg.size, fun k hk => hg.block k hk (by simp)⟩
  have hms := midD_start (D := D) hS
  refine ⟨D, L, n, nr, ⟨by have := h.hs; omega, hm0, h.hp, h1, hr, h2.congr fun s hs _ v => by rw [hms s hs], h3.up hbl, h4.chg (.of_below hbl (fun _ => False)) id, ?_, by rw [sumN_cons] at h6; omega, by rw [sumN_cons] at h7; omega, below_chain h.hb h.hb.size hbl⟩⟩
  have := h5 rfl
  split
  · exact this
  · exact this.congr hms
theorem OutS.up {suf : List Lyr} (h : OutS pfx w m0 N l suf bv W) (hb : Below W.heap.size W W') : OutS pfx w m0 N l suf bv W' where
  hp := h.hp
  rest := by
    obtain ⟨D, L, h1, h2, h3, ⟨n, nr, h4, h5, h6⟩, h7⟩ := h.rest
    exact ⟨D, L, h1, h2, h3.up hb, ⟨n, nr, h4.chg (.of_below hb (fun _ => False)) id, h5, h6⟩, h7⟩
  hb := below_chain h.hb h.hb.size hb
  hs := Nat.le_trans h.hs hb.size
end
end Go.Proofs.YtohnhdandkkonaaDoor
