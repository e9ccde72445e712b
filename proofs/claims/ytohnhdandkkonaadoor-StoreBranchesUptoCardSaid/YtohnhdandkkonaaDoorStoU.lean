
/- A branch and a store beside it, in which the same is done. -/
import Derived.Test.YtohnhdandkkonaaDoorStoY0
import Derived.Test.YtohnhdandkkonaaDoorStoR
import Derived.Test.YtohnhdandkkonaaDoorSto1
namespace Go.Proofs.YtohnhdandkkonaaDoor
set_option maxRecDepth 100000
open Go Go.RowKit
set_option linter.unusedVariables false

/-- one call of a script -/
structure SOp where
  kind : Int
  key : ByteArray
  val : List UInt8
/-- a row of calls, read -/
def RdOps (w : World) (B : Nat) (v : Value) (ops : List SOp) : Prop :=
  ∃ A c, v = .slice A ops.length c ∧ ops.length ≤ c ∧ c ≤ maxLen ∧ (0 < ops.length → ∃ b o, A = some ⟨b, o, none⟩ ∧ b < B ∧ ∀ j (h : j < ops.length),
    w.cell? ⟨b, o + j * 3, none⟩ = some (.int .i64 (ops[j]).kind) ∧ w.cell? ⟨b, o + j * 3 + 1, none⟩ = some (.string (ops[j]).key) ∧ ∃ x, w.cell? ⟨b, o + j * 3 + 2, none⟩ = some x ∧ Rd w B x (ops[j]).val)

/-- maps alone have turned -/
def Kept (w w' : World) : Prop := ∃ F, Chg w w' F ∧ AllMaps w F
section
variable {w w' w1 w2 : World}
theorem Kept.cell (h : Kept w w') {p : Addr} {v : Value} (e : w.cell? p = some v) : w'.cell? p = some v := by
  obtain ⟨F, h1, h2⟩ := h
  have hn : ¬ F p.block := fun k => by
    obtain ⟨es, c, e'⟩ := h2 _ k
    rw [cell_map e'] at e; cases e
  rw [cell_same (h1.block p.block (World.block_lt_of_cell? w p e) hn)]
  exact e
theorem Kept.rd {v : Value} {l : List UInt8} (h : Kept w w') (hr : Rd w w.heap.size v l) : Rd w' w'.heap.size v l := by
  obtain ⟨F, h1, h2⟩ := h
  exact (hr.chg h1 h2 (Nat.le_refl _)).more h1.size
theorem Kept.refl (w : World) : Kept w w := ⟨fun _ => False, Chg.refl _ _, fun _ h => h.elim⟩
theorem Kept.drew (w : World) : Kept w w.drew := ⟨fun _ => False, Chg.drew _ _, fun _ h => h.elim⟩

/-- two piles: a branch x over y; z alone -/
structure TwoS (B : Nat) (W : World) (x y z : Lyr) : Prop where
  hp : PileS W [x, y]
  hq : PileS W [z]
  ne : x.m ≠ z.m
  ne2 : y.m ≠ z.m
  bx : B ≤ x.m
  bz : B ≤ z.m
  by_ : B ≤ y.m
  hW : B ≤ W.heap.size
variable {B : Nat} {W W' : World} {x y z : Lyr}
theorem TwoS.up (h : TwoS B W x y z) (hb : Below W.heap.size W W') : TwoS B W' x y z := ⟨h.hp.up hb, h.hq.up hb, h.ne, h.ne2, h.bx, h.bz, h.by_, Nat.le_trans h.hW hb.size⟩
def Lyr.putIf (x : Lyr) (key : ByteArray) (val : List UInt8) : Lyr := if pairB (key, val) = true then x.put key (some val) else x
theorem TwoS.setX (h : TwoS B W x y z) (hn : x.n < maxLen) (key : ByteArray) (hk : key.size ≤ maxLen) (v : Value) (val : List UInt8) (hr : Rd W W.heap.size v val) :
    Calls Tryd.prog 8 #[.pointer (some ⟨x.b, 0, none⟩), .string key, v] W fun e w' => e = .returned (.int .i64 (if pairB (key, val) = true then 0 else 60)) ∧ TwoS B w' (x.putIf key val) y z ∧ Kept W w' ∧ Below B W w' := by
  refine (set_any h.hp hn key hk v val hr).mono ?_
  rintro e w' ⟨h1, h2⟩
  refine ⟨h1, ?_⟩
  rcases h2 with ⟨h2, rfl⟩ | ⟨h2, h3, h4⟩
  · unfold Lyr.putIf
    rw [h2, if_neg (by simp)]
    exact ⟨h, Kept.refl _, Below.refl _ _⟩
  · unfold Lyr.putIf
    rw [h2, if_pos rfl]
    have hm := h.hp.1.maps
    exact ⟨⟨h3, h.hq.chg h4 hm (fun q hq => by rw [List.mem_singleton.1 hq]; exact fun e => h.ne e.symm), h.ne, h.ne2, h.bx, h.bz, h.by_, Nat.le_trans h.hW h4.size⟩, ⟨_, h4, hm⟩, h4.below (fun k e => by rw [e]; exact h.bx) h.hW⟩
theorem TwoS.setZ (h : TwoS B W x y z) (hn : z.n < maxLen) (key : ByteArray) (hk : key.size ≤ maxLen) (v : Value) (val : List UInt8) (hr : Rd W W.heap.size v val) :
    Calls Tryd.prog 8 #[.pointer (some ⟨z.b, 0, none⟩), .string key, v] W fun e w' => e = .returned (.int .i64 (if pairB (key, val) = true then 0 else 60)) ∧ TwoS B w' x y (z.putIf key val) ∧ Kept W w' ∧ Below B W w' := by
  refine (set_any h.hq hn key hk v val hr).mono ?_
  rintro e w' ⟨h1, h2⟩
  refine ⟨h1, ?_⟩
  rcases h2 with ⟨h2, rfl⟩ | ⟨h2, h3, h4⟩
  · unfold Lyr.putIf
    rw [h2, if_neg (by simp)]
    exact ⟨h, Kept.refl _, Below.refl _ _⟩
  · unfold Lyr.putIf
    rw [h2, if_pos rfl]
    have hm := h.hq.1.maps
    refine ⟨⟨h.hp.chg h4 hm (fun q hq => ?_), h3, h.ne, h.ne2, h.bx, h.bz, h.by_, Nat.le_trans h.hW h4.size⟩, ⟨_, h4, hm⟩, h4.below (fun k e => by rw [e]; exact h.bz) h.hW⟩
    simp only [List.mem_cons, List.not_mem_nil, or_false] at hq
    rcases hq with rfl | rfl
    · exact h.ne
    · exact h.ne2
theorem TwoS.delX (h : TwoS B W x y z) (hn : x.n < maxLen) (key : ByteArray) (hk : key.size ≤ maxLen) :
    Calls Tryd.prog 10 #[.pointer (some ⟨x.b, 0, none⟩), .string key] W fun e w' => e = .returned (.tuple #[]) ∧ TwoS B w' (x.put key none) y z ∧ Kept W w' ∧ Below B W w' := by
  refine (del_any h.hp hn key hk).mono ?_
  rintro e w' ⟨h1, h3, h4⟩
  have hm := h.hp.1.maps
  exact ⟨h1, ⟨h3, h.hq.chg h4 hm (fun q hq => by rw [List.mem_singleton.1 hq]; exact fun e => h.ne e.symm), h.ne, h.ne2, h.bx, h.bz, h.by_, Nat.le_trans h.hW h4.size⟩, ⟨_, h4, hm⟩, h4.below (fun k e => by rw [e]; exact h.bx) h.hW⟩
theorem TwoS.delZ (h : TwoS B W x y z) (hn : z.n < maxLen) (key : ByteArray) (hk : key.size ≤ maxLen) :
    Calls Tryd.prog 10 #[.pointer (some ⟨z.b, 0, none⟩), .string key] W fun e w' => e = .returned (.tuple #[]) ∧ TwoS B w' x y (z.cut key) ∧ Kept W w' ∧ Below B W w' := by
  refine (del_any h.hq hn key hk).mono ?_
  rintro e w' ⟨h1, h3, h4⟩
  have hm := h.hq.1.maps
  refine ⟨h1, ⟨h.hp.chg h4 hm (fun q hq => ?_), h3, h.ne, h.ne2, h.bx, h.bz, h.by_, Nat.le_trans h.hW h4.size⟩, ⟨_, h4, hm⟩, h4.below (fun k e => by rw [e]; exact h.bz) h.hW⟩
  simp only [List.mem_cons, List.not_mem_nil, or_false] at hq
  rcases hq with rfl | rfl
  · exact h.ne
  · exact h.ne2
end

/-- the same is seen in the branch and in the store beside it -/
structure BrI (x y z : Lyr) (R : List Pr) : Prop where
  hz : LyrM R z
  hx : ∀ s : ByteArray, s.size ≤ maxLen → ((x.f s).or (y.f s)).getD none = getL R s
  rise : Rise R
  small : ∀ p ∈ R, p.1.size ≤ maxLen
section
variable {x y z : Lyr} {R : List Pr}
theorem mem_putL {c : Chn} {l : List Pr} {p : Pr} (h : p ∈ putL c l) : p.1 = c.1 ∨ p ∈ l := by
  unfold putL at h
  cases hc : c.2 with
  | none => rw [hc] at h; simp only [Option.isNone_none] at h; rw [putG_true] at h; exact .inr (List.mem_filter.1 h).1
  | some v => rw [hc] at h; simp only [Option.isNone_some] at h; exact mem_putF h
theorem BrI.small' (h : BrI x y z R) {c : Chn} (hk : c.1.size ≤ maxLen) : ∀ p ∈ putL c R, p.1.size ≤ maxLen := fun p hp => by
  rcases mem_putL hp with e | hp
  · rw [e]; exact hk
  · exact h.small p hp
theorem BrI.put (h : BrI x y z R) {key : ByteArray} (hk : key.size ≤ maxLen) (val : List UInt8) : BrI (x.put key (some val)) y (z.put key (some val)) (putL (key, some val) R) where
  hz := fun s hs => by
    show (if s = key then some (some val) else z.f s) = _
    rw [getL_putL]
    by_cases e : s = key
    · simp [e]
    · simp [e, h.hz s hs]
  hx := fun s hs => by
    show (((if s = key then some (some val) else x.f s) : Option (Option (List UInt8))).or (y.f s)).getD none = _
    rw [getL_putL]
    by_cases e : s = key
    · simp [e]
    · simp only [e, if_false]; exact h.hx s hs
  rise := h.rise.put _
  small := h.small' hk
theorem BrI.putIf (h : BrI x y z R) {key : ByteArray} (hk : key.size ≤ maxLen) (val : List UInt8) : BrI (x.putIf key val) y (z.putIf key val) (if pairB (key, val) = true then putL (key, some val) R else R) := by
  unfold Lyr.putIf
  by_cases e : pairB (key, val) = true
  · rw [if_pos e, if_pos e, if_pos e]; exact h.put hk val
  · rw [if_neg e, if_neg e, if_neg e]; exact h
theorem BrI.del (h : BrI x y z R) {key : ByteArray} (hk : key.size ≤ maxLen) : BrI (x.put key none) y (z.cut key) (putL (key, none) R) where
  hz := fun s hs => by
    show (if s = key then none else z.f s) = _
    rw [getL_putL]
    by_cases e : s = key
    · simp [e]
    · simp [e, h.hz s hs]
  hx := fun s hs => by
    show (((if s = key then some none else x.f s) : Option (Option (List UInt8))).or (y.f s)).getD none = _
    rw [getL_putL]
    by_cases e : s = key
    · simp [e]
    · simp only [e, if_false]; exact h.hx s hs
  rise := h.rise.put _
  small := h.small' hk
theorem BrI.seenX (h : BrI x y z R) : SeenL ⟨#[]⟩ [x, y] R where
  rise := h.rise
  small := h.small
  get := fun s hs => by
    rw [begB_empty, if_pos rfl, ← h.hx s hs]
    unfold visV
    rw [visD_cons, visD_cons]
    have : visD [] s = none := rfl
    rw [this]
    cases x.f s <;> cases y.f s <;> rfl
theorem BrI.seenZ (h : BrI x y z R) : SeenL ⟨#[]⟩ [z] R := seen_botM h.hz h.rise h.small
/-- written, the parent is seen so too -/
theorem BrI.write (h : BrI x y z R) {ps : List Pr} (hy : LyrIs ps y) {f : LF} (hf : ∀ s : ByteArray, s.size ≤ maxLen → f s = wrF true x.f y.f (fun _ => false) s) {b m n : Nat} : LyrM R ⟨b, m, n, f⟩ := fun s hs => by
  show f s = _
  rw [hf s hs, ← h.hx s hs]
  unfold wrF
  simp only [Bool.false_eq_true, if_false]
  have hy' := hy s
  cases hx : x.f s with
  | none =>
    rw [hy']
    cases getL ps s <;> rfl
  | some v => cases v <;> simp [wrC]
theorem BrI.start {ps : List Pr} (hr : Rise ps) (hs : ∀ p ∈ ps, p.1.size ≤ maxLen) (hy : LyrIs ps y) (hz : LyrIs ps z) {b m : Nat} : BrI ⟨b, m, 0, fun _ => none⟩ y z ps where
  hz := hz.m
  hx := fun s _ => by
    show (Option.or none (y.f s)).getD none = _
    rw [hy s]
    cases getL ps s <;> rfl
  rise := hr
  small := hs
end
end Go.Proofs.YtohnhdandkkonaaDoor
