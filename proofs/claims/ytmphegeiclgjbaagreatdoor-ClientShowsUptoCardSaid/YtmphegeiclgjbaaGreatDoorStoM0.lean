
/- The store's mathematics: pairs in order, a key put or taken, what lies under a key; two lists in order that answer alike are one. A store's layers in memory: a map's entries and what they say. -/
import Derived.Test.YtmphegeiclgjbaaGreatDoorMerkH0
import Derived.Test.YtmphegeiclgjbaaGreatDoorInfo1
namespace Go.Proofs.YtmphegeiclgjbaaGreatDoor
set_option maxRecDepth 100000
open Go
set_option linter.unusedVariables false

/-- by rising keys -/
def Rise (l : List Pr) : Prop := l.Pairwise (fun p q => ltS p.1 q.1 = true)
/-- a key set, or gone -/
abbrev Chn := ByteArray × Option (List UInt8)
/-- what lies under a key -/
def getL : List Pr → ByteArray → Option (List UInt8)
  | [], _ => none
  | p :: l, s => if p.1 = s then some p.2 else getL l s
/-- the document's put, as its loop goes -/
def putG (c : Chn) : Bool → List Pr → List Pr
  | done, [] => if done then [] else [(c.1, c.2.getD [])]
  | done, p :: r => (if !done && !ltS p.1 c.1 then [(c.1, c.2.getD [])] else []) ++ (if p.1 = c.1 then [] else [p]) ++ putG c (done || (!done && !ltS p.1 c.1)) r
def putL (c : Chn) (l : List Pr) : List Pr := putG c c.2.isNone l

theorem getL_cons (p : Pr) (l : List Pr) (s : ByteArray) : getL (p :: l) s = if p.1 = s then some p.2 else getL l s := rfl
theorem getL_append (l l' : List Pr) (s : ByteArray) : getL (l ++ l') s = (getL l s).or (getL l' s) := by
  induction l with
  | nil => rfl
  | cons p l ih =>
    show getL (p :: (l ++ l')) s = _
    rw [getL_cons, getL_cons, ih]
    by_cases h : p.1 = s <;> simp [h]
theorem getL_mem {l : List Pr} {s : ByteArray} {v : List UInt8} (h : getL l s = some v) : (s, v) ∈ l := by
  induction l with
  | nil => cases h
  | cons p l ih =>
    unfold getL at h
    by_cases e : p.1 = s
    · rw [if_pos e] at h
      have : p = (s, v) := by rw [← e, ← Option.some.inj h]
      simp [this]
    · rw [if_neg e] at h
      exact List.mem_cons_of_mem _ (ih h)
theorem getL_none {l : List Pr} {s : ByteArray} : getL l s = none ↔ ∀ p ∈ l, p.1 ≠ s := by
  induction l with
  | nil => simp [getL]
  | cons p l ih =>
    unfold getL
    by_cases e : p.1 = s
    · simp [e]
    · simp [e, ih]
theorem Rise.get {l : List Pr} (h : Rise l) {p : Pr} (hp : p ∈ l) : getL l p.1 = some p.2 := by
  induction l with
  | nil => cases hp
  | cons q l ih =>
    obtain ⟨h1, h2⟩ := List.pairwise_cons.1 h
    unfold getL
    rcases List.mem_cons.1 hp with rfl | hp
    · simp
    · rw [if_neg (ltS_ne (h1 p hp))]
      exact ih h2 hp
theorem Rise.ext {l l' : List Pr} (h : Rise l) (h' : Rise l') (e : ∀ s, getL l s = getL l' s) : l = l' := by
  induction l generalizing l' with
  | nil =>
    cases l' with
    | nil => rfl
    | cons q l' => have := e q.1; simp [getL] at this
  | cons p l ih =>
    cases l' with
    | nil => have := e p.1; simp [getL] at this
    | cons q l' =>
      obtain ⟨h1, h2⟩ := List.pairwise_cons.1 h
      obtain ⟨g1, g2⟩ := List.pairwise_cons.1 h'
      have hpq : p.1 = q.1 := by
        refine Decidable.byContradiction fun hne => ?_
        have a1 := (e p.1).symm.trans (h.get (List.mem_cons_self ..))
        have a2 := (e q.1).trans (h'.get (List.mem_cons_self ..))
        have b1 := getL_mem a1
        have b2 := getL_mem a2
        rcases List.mem_cons.1 b1 with c1 | c1
        · exact hne (by rw [← c1])
        · rcases List.mem_cons.1 b2 with c2 | c2
          · exact hne (by rw [← c2])
          · have d1 := g1 _ c1
            have d2 := h1 _ c2
            rw [ltS_asym d1] at d2
            cases d2
      have hp2 : p.2 = q.2 := by
        have a1 := (h.get (List.mem_cons_self ..)).symm.trans (e p.1)
        rw [hpq, h'.get (List.mem_cons_self ..)] at a1
        exact Option.some.inj a1
      have hp : p = q := Prod.ext hpq hp2
      subst hp
      congr 1
      refine ih h2 g2 fun s => ?_
      have := e s
      unfold getL at this
      by_cases es : p.1 = s
      · rw [getL_none.2 fun x hx => ?_, getL_none.2 fun x hx => ?_]
        · exact fun k => ltS_ne (g1 x hx) (es.trans k.symm)
        · exact fun k => ltS_ne (h1 x hx) (es.trans k.symm)
      · simpa [es] using this

theorem putG_true (c : Chn) (l : List Pr) : putG c true l = l.filter (fun p => !decide (p.1 = c.1)) := by
  induction l with
  | nil => simp [putG]
  | cons p l ih =>
    unfold putG
    by_cases e : p.1 = c.1 <;> simp [e, ih]
theorem getL_strike (l : List Pr) (k s : ByteArray) : getL (l.filter (fun p => !decide (p.1 = k))) s = if s = k then none else getL l s := by
  induction l with
  | nil => simp [getL]
  | cons p l ih =>
    by_cases e : p.1 = k
    · rw [List.filter_cons_of_neg (by simp [e]), ih]
      by_cases es : s = k
      · simp [es]
      · rw [if_neg es, if_neg es, getL_cons, if_neg (fun h => es (h.symm.trans e))]
    · rw [List.filter_cons_of_pos (by simp [e])]
      rw [getL_cons, getL_cons, ih]
      by_cases es : p.1 = s
      · rw [if_pos es, if_pos es, if_neg (fun h => e (es.trans h))]
      · rw [if_neg es, if_neg es]
theorem getL_putF (c : Chn) (l : List Pr) (s : ByteArray) : getL (putG c false l) s = if s = c.1 then some (c.2.getD []) else getL l s := by
  induction l with
  | nil =>
    by_cases e : s = c.1
    · simp [putG, getL, e]
    · have : ¬ c.1 = s := fun h => e h.symm
      simp [putG, getL, e, this]
  | cons p l ih =>
    unfold putG
    cases hl : ltS p.1 c.1 with
    | true =>
      have hne := ltS_ne hl
      simp only [hne, Bool.not_true, Bool.and_false, Bool.or_false, if_false, Bool.false_eq_true, List.nil_append, List.singleton_append]
      rw [show getL (p :: putG c false l) s = if p.1 = s then some p.2 else getL (putG c false l) s from rfl, ih, show getL (p :: l) s = if p.1 = s then some p.2 else getL l s from rfl]
      by_cases es : p.1 = s
      · rw [if_pos es, if_pos es, if_neg (fun h => hne (es.trans h))]
      · rw [if_neg es, if_neg es]
    | false =>
      simp only [Bool.not_false, Bool.and_true, Bool.or_true, if_true, List.singleton_append, List.cons_append]
      rw [show ∀ t, getL ((c.1, c.2.getD []) :: t) s = if c.1 = s then some (c.2.getD []) else getL t s from fun _ => rfl]
      by_cases es : c.1 = s
      · simp [es]
      · have es' : ¬ s = c.1 := fun h => es h.symm
        rw [if_neg es, if_neg es', getL_append, putG_true, getL_strike, if_neg es']
        rw [show getL (p :: l) s = if p.1 = s then some p.2 else getL l s from rfl]
        by_cases e : p.1 = c.1
        · rw [if_pos e, if_neg (fun h => es' (h.symm.trans e))]; rfl
        · rw [if_neg e]
          rw [List.nil_append, getL_cons]
          by_cases ep : p.1 = s <;> simp [ep, getL_cons, show getL [] s = none from rfl]
theorem getL_putL (c : Chn) (l : List Pr) (s : ByteArray) : getL (putL c l) s = if s = c.1 then c.2 else getL l s := by
  unfold putL
  cases h : c.2 with
  | none => simp only [Option.isNone_none]; rw [putG_true, getL_strike]
  | some v => simp only [Option.isNone_some]; rw [getL_putF, h]; rfl

theorem mem_putF {c : Chn} {l : List Pr} {p : Pr} (h : p ∈ putG c false l) : p.1 = c.1 ∨ p ∈ l := by
  induction l with
  | nil => simp [putG] at h; exact .inl (by rw [h])
  | cons q l ih =>
    unfold putG at h
    cases hl : ltS q.1 c.1 with
    | true =>
      simp only [hl, Bool.not_true, Bool.and_false, Bool.or_false, if_false, Bool.false_eq_true, List.nil_append, List.mem_append] at h
      rcases h with h | h
      · split at h
        · cases h
        · exact .inr (by simp at h; simp [h])
      · rcases ih h with h | h
        · exact .inl h
        · exact .inr (List.mem_cons_of_mem _ h)
    | false =>
      simp only [hl, Bool.not_false, Bool.and_true, Bool.or_true, if_true, List.mem_append] at h
      rcases h with (h | h) | h
      · simp at h; exact .inl (by rw [h])
      · split at h
        · cases h
        · exact .inr (by simp at h; simp [h])
      · rw [putG_true] at h
        exact .inr (List.mem_cons_of_mem _ (List.mem_filter.1 h).1)
theorem Rise.putF {l : List Pr} (h : Rise l) (c : Chn) : Rise (putG c false l) := by
  induction l with
  | nil => simp [putG, Rise]
  | cons p l ih =>
    obtain ⟨h1, h2⟩ := List.pairwise_cons.1 h
    unfold putG
    cases hl : ltS p.1 c.1 with
    | true =>
      simp only [ltS_ne hl, Bool.not_true, Bool.and_false, Bool.or_false, if_false, Bool.false_eq_true, List.nil_append, List.singleton_append]
      refine List.pairwise_cons.2 ⟨fun q hq => ?_, ih h2⟩
      rcases mem_putF hq with e | hq
      · rw [e]; exact hl
      · exact h1 q hq
    | false =>
      simp only [Bool.not_false, Bool.and_true, Bool.or_true, if_true, List.singleton_append, List.cons_append]
      rw [putG_true]
      have hr : Rise (l.filter (fun p => !decide (p.1 = c.1))) := List.Pairwise.sublist List.filter_sublist h2
      by_cases e : p.1 = c.1
      · rw [if_pos e, List.nil_append]
        exact List.pairwise_cons.2 ⟨fun q hq => by rw [← e]; exact h1 q (List.mem_filter.1 hq).1, hr⟩
      · rw [if_neg e]
        have hc := ltS_tri hl e
        show Rise ((c.1, c.2.getD []) :: p :: l.filter (fun p => !decide (p.1 = c.1)))
        refine List.pairwise_cons.2 ⟨fun q hq => ?_, List.pairwise_cons.2 ⟨fun q hq => h1 q (List.mem_filter.1 hq).1, hr⟩⟩
        rcases List.mem_cons.1 hq with rfl | hq
        · exact hc
        · exact ltS_trans hc (h1 q (List.mem_filter.1 hq).1)
theorem Rise.put {l : List Pr} (h : Rise l) (c : Chn) : Rise (putL c l) := by
  unfold putL
  cases c.2 with
  | none => simp only [Option.isNone_none]; rw [putG_true]; exact List.Pairwise.sublist List.filter_sublist h
  | some v => simp only [Option.isNone_some]; exact h.putF c

/-! ### a branch's changes -/
/-- what a list of changes says of a key: nothing, gone, or a value -/
def getC : List Chn → ByteArray → Option (Option (List UInt8))
  | [], _ => none
  | c :: l, s => if c.1 = s then some c.2 else getC l s
/-- no key twice -/
def ApartC (l : List Chn) : Prop := l.Pairwise (fun p q => p.1 ≠ q.1)
/-- one more change, as the document's do has it -/
def doC (l : List Chn) (c : Chn) : List Chn := l.filter (fun x => !decide (x.1 = c.1)) ++ [c]
/-- the pairs as a branch sees them -/
def allM (l : List Pr) (cs : List Chn) : List Pr := cs.foldl (fun l c => putL c l) l

theorem getC_cons (c : Chn) (l : List Chn) (s : ByteArray) : getC (c :: l) s = if c.1 = s then some c.2 else getC l s := rfl
theorem ApartC.get {l : List Chn} (h : ApartC l) {c : Chn} (hc : c ∈ l) : getC l c.1 = some c.2 := by
  induction l with
  | nil => cases hc
  | cons d l ih =>
    obtain ⟨h1, h2⟩ := List.pairwise_cons.1 h
    rw [getC_cons]
    rcases List.mem_cons.1 hc with rfl | hc
    · simp
    · rw [if_neg (h1 c hc)]
      exact ih h2 hc
theorem ApartC.do {l : List Chn} (h : ApartC l) (c : Chn) : ApartC (doC l c) := by
  unfold doC
  refine List.pairwise_append.2 ⟨List.Pairwise.sublist List.filter_sublist h, by simp, fun a ha b hb => ?_⟩
  rw [List.mem_singleton.1 hb]
  simpa using (List.mem_filter.1 ha).2
theorem Rise.all {l : List Pr} (h : Rise l) (cs : List Chn) : Rise (allM l cs) := by
  induction cs generalizing l with
  | nil => exact h
  | cons c cs ih => exact ih (h.put c)
/-! ### pairs gathered in any order, then put in order; those of a prefix -/
theorem Rise.of_sorted {l : List Pr} (hs : l.Pairwise (fun p q => ltS q.1 p.1 = false)) (hd : l.Pairwise (fun p q => p.1 ≠ q.1)) : Rise l :=
  (hs.and hd).imp fun {p q} h => ltS_tri h.1 h.2.symm
theorem Rise.eq_of_mem {l l' : List Pr} (h : Rise l) (h' : Rise l') (e : ∀ p, p ∈ l ↔ p ∈ l') : l = l' := by
  refine h.ext h' fun s => ?_
  cases hs : getL l s with
  | some v => exact (h'.get ((e _).1 (getL_mem hs))).symm
  | none =>
    cases hs' : getL l' s with
    | none => rfl
    | some v => exact absurd (h.get ((e _).2 (getL_mem hs'))) (by rw [hs]; simp)
theorem Rise.filter {l : List Pr} (h : Rise l) (b : Pr → Bool) : Rise (l.filter b) := List.Pairwise.sublist List.filter_sublist h
theorem getL_filter (l : List Pr) (b : ByteArray → Bool) (s : ByteArray) : getL (l.filter (fun p => b p.1)) s = if b s = true then getL l s else none := by
  induction l with
  | nil => simp [getL]
  | cons p l ih =>
    by_cases e : b p.1 = true
    · rw [List.filter_cons_of_pos (by simpa using e), getL_cons, getL_cons, ih]
      by_cases es : p.1 = s
      · rw [if_pos es, if_pos es, if_pos (es ▸ e)]
      · rw [if_neg es, if_neg es]
    · rw [List.filter_cons_of_neg (by simpa using e), ih, getL_cons]
      by_cases es : p.1 = s
      · have : ¬ b s = true := es ▸ e
        rw [if_neg this, if_neg this]
      · rw [if_neg es]
theorem Rise.mem {l : List Pr} (h : Rise l) (p : Pr) : p ∈ l ↔ getL l p.1 = some p.2 := ⟨fun hp => h.get hp, fun hp => getL_mem hp⟩
end Go.Proofs.YtmphegeiclgjbaaGreatDoor
namespace Go.Proofs.YtmphegeiclgjbaaGreatDoor
set_option maxRecDepth 100000
open Go Go.RowKit
set_option linter.unusedVariables false

/-- the blocks that F names are maps -/
def AllMaps (w : World) (F : Nat → Prop) : Prop := ∀ k, F k → ∃ es c, w.heap[k]? = some (.map es c)

section
variable {w w' : World} {F : Nat → Prop} {B : Nat} {v : Value} {l : List UInt8}
theorem cell_map {p : Addr} {es : Array MapEntry} {c : Nat} (h : w.heap[p.block]? = some (.map es c)) : w.cell? p = none := by
  simp [World.cell?, h]
/-- bytes stay where maps alone have turned -/
theorem Rd.chg (h : Rd w B v l) (hc : Chg w w' F) (hF : AllMaps w F) (hB : B ≤ w.heap.size) : Rd w' B v l := by
  obtain ⟨A, c, hv, h1, h2, hp⟩ := h
  refine ⟨A, c, hv, h1, h2, fun h0 => ?_⟩
  obtain ⟨b, o, hA, hb, hcell⟩ := hp h0
  refine ⟨b, o, hA, hb, fun j hj => ?_⟩
  have h3 := hcell j hj
  have hn : ¬ F b := fun k => by
    obtain ⟨es, c, e⟩ := hF b k
    rw [cell_map (p := ⟨b, o + j, none⟩) e] at h3
    cases h3
  rw [cell_same (hc.block b (by omega) hn)]
  exact h3

/-- what an entry says: a value that reads as the bytes, or 'gone' -/
def EntryIs (w : World) (e : Value) : Option (List UInt8) → Prop
  | none => e = .agg #[.slice none 0 0, .bool true]
  | some l => ∃ sl, e = .agg #[sl, .bool false] ∧ Rd w w.heap.size sl l
theorem EntryIs.chg {e : Value} {x : Option (List UInt8)} (h : EntryIs w e x) (hc : Chg w w' F) (hF : AllMaps w F) : EntryIs w' e x := by
  cases x with
  | none => exact h
  | some l =>
    obtain ⟨sl, h1, h2⟩ := h
    exact ⟨sl, h1, (h2.chg hc hF (Nat.le_refl _)).more hc.size⟩
/-- what a layer's map says: nothing of a key, or an entry -/
def SaysF (w : World) (g : ByteArray → Option Value) (f : ByteArray → Option (Option (List UInt8))) : Prop :=
  ∀ s : ByteArray, s.size ≤ maxLen → (g s = none ∧ f s = none) ∨ ∃ e x, g s = some e ∧ f s = some x ∧ EntryIs w e x
theorem SaysF.chg {g : ByteArray → Option Value} {f : ByteArray → Option (Option (List UInt8))} (h : SaysF w g f) (hc : Chg w w' F) (hF : AllMaps w F) : SaysF w' g f := by
  intro s hs
  rcases h s hs with h | ⟨e, x, h1, h2, h3⟩
  · exact .inl h
  · exact .inr ⟨e, x, h1, h2, h3.chg hc hF⟩
theorem SaysF.put {g : ByteArray → Option Value} {f : ByteArray → Option (Option (List UInt8))} (h : SaysF w g f) (key : ByteArray) {e : Value} {x : Option (List UInt8)} (he : EntryIs w e x) :
    SaysF w (fun s => if s = key then some e else g s) (fun s => if s = key then some x else f s) := by
  intro s hs
  by_cases k : s = key
  · exact .inr ⟨e, x, by simp [k], by simp [k], he⟩
  · simpa [k] using h s hs
theorem SaysF.del {g : ByteArray → Option Value} {f : ByteArray → Option (Option (List UInt8))} (h : SaysF w g f) (key : ByteArray) :
    SaysF w (fun s => if s = key then none else g s) (fun s => if s = key then none else f s) := by
  intro s hs
  by_cases k : s = key
  · exact .inl (by simp [k])
  · simpa [k] using h s hs
end
/-- maps alone have turned -/
def Kept (w w' : World) : Prop := ∃ F, Chg w w' F ∧ AllMaps w F
section
variable {w w' w1 w2 : World}
theorem Kept.cell (h : Kept w w') {p : Addr} {v : Value} (e : w.cell? p = some v) : w'.cell? p = some v := by
  obtain ⟨F, h1, h2⟩ := h
  have hn : ¬ F p.block := fun k => by
    obtain ⟨es, c, e'⟩ := h2 _ k
    rw [cell_map e'] at e; cases e
  rw [cell_same (h1.block p.block (World.block_lt_of_cell? w p e) hn)]
  exact e
theorem Kept.rd {v : Value} {l : List UInt8} (h : Kept w w') (hr : Rd w w.heap.size v l) : Rd w' w'.heap.size v l := by
  obtain ⟨F, h1, h2⟩ := h
  exact (hr.chg h1 h2 (Nat.le_refl _)).more h1.size
theorem Kept.refl (w : World) : Kept w w := ⟨fun _ => False, Chg.refl _ _, fun _ h => h.elim⟩
theorem Kept.drew (w : World) : Kept w w.drew := ⟨fun _ => False, Chg.drew _ _, fun _ h => h.elim⟩
end
end Go.Proofs.YtmphegeiclgjbaaGreatDoor
