
/- A store beside another one, in which the same pairs are set in any order. -/
import Derived.Test.YtohnhdandkkonaaDoorStoR
import Derived.Test.YtohnhdandkkonaaDoorSto1
import Derived.Test.YtohnhdandkkonaaDoorRMerkF
import Derived.Test.YtohnhdandkkonaaDoorConv
namespace Go.Proofs.YtohnhdandkkonaaDoor
set_option maxRecDepth 100000
open Go Go.RowKit
set_option linter.unusedVariables false

/-- a row of whole numbers, read -/
def RdI (w : World) (B : Nat) (v : Value) (l : List Int) : Prop :=
  ∃ A c, v = .slice A l.length c ∧ l.length ≤ c ∧ c ≤ maxLen ∧ (0 < l.length → ∃ b o, A = some ⟨b, o, none⟩ ∧ b < B ∧ ∀ j (h : j < l.length), w.cell? ⟨b, o + j, none⟩ = some (.int .i64 l[j]))
/-- two stores without branches -/
structure OneS (B : Nat) (W : World) (y z : Lyr) : Prop where
  hp : PileS W [y]
  hq : PileS W [z]
  ne : y.m ≠ z.m
  bz : B ≤ z.m
  hW : B ≤ W.heap.size
def Lyr.setIf (x : Lyr) (key : ByteArray) (val : List UInt8) : Lyr := if pairB (key, val) = true then x.put key (some val) else x
theorem setIf_form (x : Lyr) (key : ByteArray) (val : List UInt8) : ∃ n f, x.setIf key val = ⟨x.b, x.m, n, f⟩ ∧ n ≤ x.n + 1 := by
  unfold Lyr.setIf
  split
  · exact ⟨_, _, rfl, Nat.le_refl _⟩
  · exact ⟨_, _, rfl, Nat.le_succ _⟩
section
variable {B : Nat} {W W' : World} {y z : Lyr}
theorem OneS.up (h : OneS B W y z) (hb : Below W.heap.size W W') : OneS B W' y z := ⟨h.hp.up hb, h.hq.up hb, h.ne, h.bz, Nat.le_trans h.hW hb.size⟩
theorem OneS.setZ (h : OneS B W y z) (hn : z.n < maxLen) (key : ByteArray) (hk : key.size ≤ maxLen) (v : Value) (val : List UInt8) (hr : Rd W W.heap.size v val) :
    Calls Tryd.prog 8 #[.pointer (some ⟨z.b, 0, none⟩), .string key, v] W fun e w' => (∃ E : Int, e = .returned (.int .i64 E)) ∧ OneS B w' y (z.setIf key val) ∧ Below B W w' := by
  refine (set_any h.hq hn key hk v val hr).mono ?_
  rintro e w' ⟨h1, h2⟩
  refine ⟨⟨_, h1⟩, ?_⟩
  rcases h2 with ⟨h2, rfl⟩ | ⟨h2, h3, h4⟩
  · unfold Lyr.setIf
    rw [h2, if_neg (by simp)]
    exact ⟨h, Below.refl _ _⟩
  · unfold Lyr.setIf
    rw [h2, if_pos rfl]
    refine ⟨⟨h.hp.chg h4 h.hq.1.maps (fun q hq => ?_), h3, h.ne, h.bz, Nat.le_trans h.hW h4.size⟩, h4.below (fun k e => by rw [e]; exact h.bz) h.hW⟩
    rw [List.mem_singleton.1 hq]; exact h.ne
theorem OneS.delZ (h : OneS B W y z) (hn : z.n < maxLen) (key : ByteArray) (hk : key.size ≤ maxLen) :
    Calls Tryd.prog 10 #[.pointer (some ⟨z.b, 0, none⟩), .string key] W fun e w' => e = .returned (.tuple #[]) ∧ OneS B w' y (z.cut key) ∧ Below B W w' := by
  refine (del_any h.hq hn key hk).mono ?_
  rintro e w' ⟨h1, h3, h4⟩
  refine ⟨h1, ⟨h.hp.chg h4 h.hq.1.maps (fun q hq => ?_), h3, h.ne, h.bz, Nat.le_trans h.hW h4.size⟩, h4.below (fun k e => by rw [e]; exact h.bz) h.hW⟩
  rw [List.mem_singleton.1 hq]; exact h.ne
end
/-- what the store beside has: of keys of the pairs alone -/
structure HisI (ps : List Pr) (z : Lyr) (T : List Pr) : Prop where
  hz : LyrM T z
  rise : Rise T
  small : ∀ p ∈ T, p.1.size ≤ maxLen
  sub : ∀ s, getL ps s = none → getL T s = none
section
variable {ps T : List Pr} {z : Lyr}
theorem mem_putL' {c : Chn} {l : List Pr} {p : Pr} (h : p ∈ putL c l) : p.1 = c.1 ∨ p ∈ l := by
  unfold putL at h
  cases hc : c.2 with
  | none => rw [hc] at h; simp only [Option.isNone_none] at h; rw [putG_true] at h; exact .inr (List.mem_filter.1 h).1
  | some v => rw [hc] at h; simp only [Option.isNone_some] at h; exact mem_putF h
theorem HisI.set (h : HisI ps z T) {key : ByteArray} (hk : key.size ≤ maxLen) (val : List UInt8) (hp : pairB (key, val) = true) (hin : getL ps key ≠ none) : HisI ps (z.setIf key val) (putL (key, some val) T) := by
  unfold Lyr.setIf
  rw [if_pos hp]
  refine ⟨fun s hs => ?_, h.rise.put _, fun p hp => ?_, fun s hs => ?_⟩
  · show (if s = key then some (some val) else z.f s) = _
    rw [getL_putL]
    by_cases e : s = key
    · simp [e]
    · simp [e, h.hz s hs]
  · rcases mem_putL' hp with e | hp
    · rw [e]; exact hk
    · exact h.small p hp
  · rw [getL_putL]
    by_cases e : s = key
    · exact absurd (e ▸ hs) hin
    · rw [if_neg e]; exact h.sub s hs
/-- set and deleted again, a key that wasn't there -/
theorem HisI.again (h : LyrM T z) {key : ByteArray} (hk : getL T key = none) (val : List UInt8) : LyrM T ((z.setIf key val).cut key) := fun s hs => by
  show (if s = key then none else (z.setIf key val).f s) = _
  by_cases e : s = key
  · rw [if_pos e, e, hk]; rfl
  · rw [if_neg e]
    unfold Lyr.setIf
    split
    · show (if s = key then some (some val) else z.f s) = _
      rw [if_neg e, h s hs]
    · exact h s hs
/-- what it has is what the pairs are -/
theorem HisI.whole (h : HisI ps z T) (hr : Rise ps) (hall : ∀ (j : Nat) (hj : j < ps.length), getL T ps[j].1 = some ps[j].2) : T = ps := by
  refine h.rise.ext hr fun s => ?_
  cases hs : getL ps s with
  | none => exact h.sub s hs
  | some v =>
    obtain ⟨j, hj, e⟩ := List.getElem_of_mem (getL_mem hs)
    have := hall j hj
    rw [e] at this
    exact this
end
end Go.Proofs.YtohnhdandkkonaaDoor
