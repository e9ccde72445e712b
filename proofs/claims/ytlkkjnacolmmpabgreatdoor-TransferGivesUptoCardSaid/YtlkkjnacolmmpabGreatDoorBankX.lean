
/- A region in which blocks are made at any time beside calls: what holds of them, whatever the order. -/
import Derived.Test.YtlkkjnacolmmpabGreatDoorAuthA1
import Derived.Test.YtlkkjnacolmmpabGreatDoorHeldBy
namespace Go.Proofs.YtlkkjnacolmmpabGreatDoor
set_option maxRecDepth 100000
open Go Go.RowKit
set_option linter.unusedVariables false

theorem wpAnyH_until {P : Program} {ops : Array Oper} {Q : Exit → Act → World → Prop} {S : World → Prop} {md : Region.Mode} {fuel : Nat} (I : Nat → Array Bool → Act → World → Prop)
    (h0 : ∀ L a w, I 0 L a w → wpAnyH P md ops Q S fuel L a w)
    (hstep : ∀ k, (∀ L a w, I k L a w → wpAnyH P md ops Q S (fuel + k) L a w) → ∀ L a w, I (k + 1) L a w → wpAnyH P md ops Q S (fuel + k + 1) L a w) :
    ∀ k L a w, I k L a w → wpAnyH P md ops Q S (fuel + k) L a w
  | 0 => h0
  | k + 1 => hstep k (wpAnyH_until I h0 hstep k)

/-- four blocks of numbers that may have been made since wd -/
structure Fl (wd : World) (b1 b2 b3 b4 : Bool) (g1 g2 g3 g4 : Nat) (W : World) : Prop where
  s : BelS wd W
  u1 : b1 = true → LBlk W g1 U4.zero.cells ∧ wd.heap.size ≤ g1
  u2 : b2 = true → LBlk W g2 U4.zero.cells ∧ wd.heap.size ≤ g2
  u3 : b3 = true → LBlk W g3 U4.zero.cells ∧ wd.heap.size ≤ g3
  u4 : b4 = true → LBlk W g4 U4.zero.cells ∧ wd.heap.size ≤ g4
  d12 : b1 = true → b2 = true → g1 ≠ g2
  d13 : b1 = true → b3 = true → g1 ≠ g3
  d14 : b1 = true → b4 = true → g1 ≠ g4
  d23 : b2 = true → b3 = true → g2 ≠ g3
  d24 : b2 = true → b4 = true → g2 ≠ g4
  d34 : b3 = true → b4 = true → g3 ≠ g4
abbrev zU : Obj := .cells #[.int .u64 0, .int .u64 0, .int .u64 0, .int .u64 0] 33
section
variable {wd W W' : World} {b1 b2 b3 b4 : Bool} {g1 g2 g3 g4 : Nat}
theorem Fl.up (h : Fl wd b1 b2 b3 b4 g1 g2 g3 g4 W) (hb : Below W.heap.size W W') : Fl wd b1 b2 b3 b4 g1 g2 g3 g4 W' where
  s := below_chain h.s (Below.size h.s) hb
  u1 := fun e => ⟨LBlk.below (h.u1 e).1 hb (h.u1 e).1.lt, (h.u1 e).2⟩
  u2 := fun e => ⟨LBlk.below (h.u2 e).1 hb (h.u2 e).1.lt, (h.u2 e).2⟩
  u3 := fun e => ⟨LBlk.below (h.u3 e).1 hb (h.u3 e).1.lt, (h.u3 e).2⟩
  u4 := fun e => ⟨LBlk.below (h.u4 e).1 hb (h.u4 e).1.lt, (h.u4 e).2⟩
  d12 := h.d12
  d13 := h.d13
  d14 := h.d14
  d23 := h.d23
  d24 := h.d24
  d34 := h.d34
theorem Fl.alloc (h : Fl wd b1 b2 b3 b4 g1 g2 g3 g4 W) : Fl wd b1 b2 b3 b4 g1 g2 g3 g4 (W.alloc zU) := h.up ((Below.refl _ _).alloc (Nat.le_refl _) _)
theorem Fl.new1 (h : Fl wd false b2 b3 b4 g1 g2 g3 g4 W) : Fl wd true b2 b3 b4 W.heap.size g2 g3 g4 (W.alloc zU) :=
  { h.alloc with u1 := fun _ => ⟨LBlk.new W U4.zero.cells, Below.size h.s⟩, d12 := fun _ e => Nat.ne_of_gt (h.u2 e).1.lt, d13 := fun _ e => Nat.ne_of_gt (h.u3 e).1.lt, d14 := fun _ e => Nat.ne_of_gt (h.u4 e).1.lt }
theorem Fl.new2 (h : Fl wd b1 false b3 b4 g1 g2 g3 g4 W) : Fl wd b1 true b3 b4 g1 W.heap.size g3 g4 (W.alloc zU) :=
  { h.alloc with u2 := fun _ => ⟨LBlk.new W U4.zero.cells, Below.size h.s⟩, d12 := fun e _ => Nat.ne_of_lt (h.u1 e).1.lt, d23 := fun _ e => Nat.ne_of_gt (h.u3 e).1.lt, d24 := fun _ e => Nat.ne_of_gt (h.u4 e).1.lt }
theorem Fl.new3 (h : Fl wd b1 b2 false b4 g1 g2 g3 g4 W) : Fl wd b1 b2 true b4 g1 g2 W.heap.size g4 (W.alloc zU) :=
  { h.alloc with u3 := fun _ => ⟨LBlk.new W U4.zero.cells, Below.size h.s⟩, d13 := fun e _ => Nat.ne_of_lt (h.u1 e).1.lt, d23 := fun e _ => Nat.ne_of_lt (h.u2 e).1.lt, d34 := fun _ e => Nat.ne_of_gt (h.u4 e).1.lt }
theorem Fl.new4 (h : Fl wd b1 b2 b3 false g1 g2 g3 g4 W) : Fl wd b1 b2 b3 true g1 g2 g3 W.heap.size (W.alloc zU) :=
  { h.alloc with u4 := fun _ => ⟨LBlk.new W U4.zero.cells, Below.size h.s⟩, d14 := fun e _ => Nat.ne_of_lt (h.u1 e).1.lt, d24 := fun e _ => Nat.ne_of_lt (h.u2 e).1.lt, d34 := fun e _ => Nat.ne_of_lt (h.u3 e).1.lt }
theorem Fl.none (wd : World) : Fl wd false false false false 0 0 0 0 wd := by
  refine ⟨BelS.refl _, ?_, ?_, ?_, ?_, ?_, ?_, ?_, ?_, ?_, ?_⟩
  all_goals (intro e; cases e)
end
theorem LBlk.far4U {w : World} {g g' : Nat} {cs : Array Value} (h : LBlk w g cs) (hne : g ≠ g') (x0 x1 x2 x3 : Value) : LBlk ((((w.setCell ⟨g', 0, none⟩ x0).setCell ⟨g', 1, none⟩ x1).setCell ⟨g', 2, none⟩ x2).setCell ⟨g', 3, none⟩ x3) g cs :=
  (((h.far hne 0 x0).far hne 1 x1).far hne 2 x2).far hne 3 x3
def setB (b : Bool) (i : Nat) (v : Value) (T : Array Value) : Array Value := if b = true then T.setIfInBounds i v else T
def pU (g : Nat) : Value := .pointer (some ⟨g, 0, none⟩)
def nB (b : Bool) : Nat := if b = true then 0 else 1

theorem add_sub {x y : U4} (hx : x.ok) (h : (subU x y).2 = true) : addU (subU x y).1 y = (x, true) := by
  obtain ⟨h1, h2⟩ := subU_yes h hx
  have h3 := nat_lt hx
  unfold addU
  rw [if_pos (by omega), h1, ofN_nat hx]
theorem send_sup {R : List Pr} {a b d e : ByteArray} {x : U4} : supM (sendM R a b d x).2 e = supM R e := by
  by_cases h : (sendM R a b d x).1 = 0
  · by_cases hne : a = b
    · subst hne; rw [send_self]
    · obtain ⟨-, -, -, q4, q5, q6⟩ := send_yes h hne
      rw [q6, supM_keep_bal (addU_yes q5).2, supM_keep_bal (subU_yes q4 (balM_ok _ _ _)).2]
  · rw [send_no h]
theorem send_third {R : List Pr} {a b c d : ByteArray} {x : U4} (hc1 : c ≠ a) (hc2 : c ≠ b) : balM (sendM R a b d x).2 c d = balM R c d := by
  by_cases h : (sendM R a b d x).1 = 0
  · by_cases hne : a = b
    · subst hne; rw [send_self]
    · obtain ⟨q1, q2, q3, q4, q5, q6⟩ := send_yes h hne
      rw [q6, balM_keep_bal (addU_yes q5).2 q2 q3, if_neg (fun k => hc2 k.1), balM_keep_bal (subU_yes q4 (balM_ok _ _ _)).2 q1 q3, if_neg (fun k => hc1 k.1)]
  · rw [send_no h]
theorem send_diff {R : List Pr} {a b d : ByteArray} {x : U4} (h : (sendM R a b d x).1 = 0) (hne : a ≠ b) :
    addU (balM (sendM R a b d x).2 a d) x = (balM R a d, true) ∧ addU (balM R b d) x = (balM (sendM R a b d x).2 b d, true) := by
  obtain ⟨q1, q2, q3, q4, q5, q6⟩ := send_yes h hne
  have k1 := (addU_yes q5).2
  have k2 := (subU_yes q4 (balM_ok R a d)).2
  rw [q6, balM_keep_bal k1 q2 q3, if_neg (fun k => hne k.1), balM_keep_bal k2 q1 q3, if_pos ⟨rfl, rfl⟩, balM_keep_bal k1 q2 q3, if_pos ⟨rfl, rfl⟩]
  exact ⟨add_sub (balM_ok R a d) q4, by rw [← q5]⟩
theorem send_still {R : List Pr} {a b d : ByteArray} {x : U4} (h : (sendM R a b d x).1 ≠ 0 ∨ a = b) : (sendM R a b d x).2 = R := by
  rcases h with h | h
  · exact send_no h
  · subst h; exact send_self
end Go.Proofs.YtlkkjnacolmmpabGreatDoor
