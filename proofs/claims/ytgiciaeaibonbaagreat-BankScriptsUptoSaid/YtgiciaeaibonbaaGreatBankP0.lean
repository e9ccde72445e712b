
/- A bank's store and the document's, side by side. A call of the bank on the bank and on the document's, walked. Scripts of the bank: what they make of a store; rows of calls, read. -/
import Derived.Test.YtgiciaeaibonbaaGreatBankL0
import Derived.Test.YtgiciaeaibonbaaGreatRBankC
import Derived.Test.YtgiciaeaibonbaaGreatRBankD
import Derived.Test.YtgiciaeaibonbaaGreatRBankE
namespace Go.Proofs.YtgiciaeaibonbaaGreat
set_option maxRecDepth 100000
open Go Go.RowKit
set_option linter.unusedVariables false

section
variable {w w' : World} {b B : Nat} {R : List Pr}
theorem DocS.ne_cell (h : DocS w b R) {g i : Nat} {u : Value} (e : w.cell? ⟨g, i, none⟩ = some u) (h1 : ∀ A n c, u ≠ .slice A n c) (h2 : u ≠ .pointer none) : g ≠ b := by
  obtain ⟨v, hb, hr⟩ := h
  obtain ⟨A, c, rfl⟩ := RdP.form hr
  exact not_own hb e h1 h2
theorem Rd.chgB (hd : DocS w b R) {v : Value} {l : List UInt8} (h : Rd w B v l) (hc : Chg w w' (fun k => k = b)) (hB : B ≤ w.heap.size) : Rd w' B v l := by
  obtain ⟨A, c, hv, h1, h2, hp⟩ := h
  refine ⟨A, c, hv, h1, h2, fun h0 => ?_⟩
  obtain ⟨g, o, hA, hl, hcell⟩ := hp h0
  refine ⟨g, o, hA, hl, fun j hj => ?_⟩
  have e := hcell j hj
  exact hc.cellB (hd.ne_cell e (fun _ _ _ h => by cases h) (fun h => by cases h)) e
theorem EntryIs.chgB (hd : DocS w b R) {e : Value} {x : Option (List UInt8)} (h : EntryIs w e x) (hc : Chg w w' (fun k => k = b)) : EntryIs w' e x := by
  cases x with
  | none => exact h
  | some l =>
    obtain ⟨sl, h1, h2⟩ := h
    exact ⟨sl, h1, (Rd.chgB hd h2 hc (Nat.le_refl _)).more hc.size⟩
theorem SaysF.chgB (hd : DocS w b R) {g : ByteArray → Option Value} {f : ByteArray → Option (Option (List UInt8))} (h : SaysF w g f) (hc : Chg w w' (fun k => k = b)) : SaysF w' g f := by
  intro s hs
  rcases h s hs with h | ⟨e, x, h1, h2, h3⟩
  · exact .inl h
  · exact .inr ⟨e, x, h1, h2, EntryIs.chgB hd h3 hc⟩
theorem LayS.chgB (hd : DocS w b R) {y : Lyr} {p : Value} (h : LayS w y p) (hc : Chg w w' (fun k => k = b)) : LayS w' y p := by
  obtain ⟨v, hb, hr⟩ := id hd
  have n1 : y.b ≠ b := fun e => by
    have h2 := h.cells.symm.trans ((congrArg (fun k => w.heap[k]?) e).trans hb)
    injection h2 with h2
    injection h2 with h3 h4 h5
    exact absurd h4 (by decide)
  obtain ⟨g, h1, h2⟩ := h.own
  have n2 : y.m ≠ b := fun e => by
    obtain ⟨es, c, e'⟩ := h1.isMap
    rw [e, hb] at e'; cases e'
  exact ⟨(hc.block _ h.lt.1 n1).trans h.cells, ⟨g, h1.chg hc n2, SaysF.chgB hd h2 hc⟩, h.ok⟩
theorem PileS.chgB (hd : DocS w b R) {l : List Lyr} (h : PileS w l) (hc : Chg w w' (fun k => k = b)) : PileS w' l := by
  induction l with
  | nil => trivial
  | cons y l ih =>
    obtain ⟨h1, h2, h3⟩ := h
    exact ⟨h1.chgB hd hc, h2, ih h3⟩
end

/-- the program's store at y, the document's at b -/
structure Two (B : Nat) (y : Lyr) (b : Nat) (Rp Rd : List Pr) (k : Nat) (W : World) : Prop where
  p : ∃ n f, PileS W [⟨y.b, y.m, n, f⟩] ∧ SeenL ⟨#[]⟩ [⟨y.b, y.m, n, f⟩] Rp ∧ n ≤ y.n + k
  d : DocS W b Rd
  n : Rd.length ≤ y.n + k
  v : ∀ p ∈ Rd, p.2.length ≤ 2000000
  hy : B ≤ y.m
  hb : B ≤ b
  hW : B ≤ W.heap.size
def FT (y : Lyr) (b : Nat) : Nat → Prop := fun k => k = y.m ∨ k = b
section
variable {B : Nat} {y : Lyr} {b k : Nat} {Rp Rd : List Pr} {W W' : World}
theorem Two.up (h : Two B y b Rp Rd k W) (hb : Below W.heap.size W W') : Two B y b Rp Rd k W' := by
  obtain ⟨n, f, h1, h2, h3⟩ := h.p
  exact ⟨⟨n, f, h1.up hb, h2, h3⟩, h.d.up hb, h.n, h.v, h.hy, h.hb, Nat.le_trans h.hW hb.size⟩
theorem Two.more {k' : Nat} (h : Two B y b Rp Rd k W) (hk : k ≤ k') : Two B y b Rp Rd k' W := by
  obtain ⟨n, f, h1, h2, h3⟩ := h.p
  exact ⟨⟨n, f, h1, h2, by omega⟩, h.d, by have := h.n; omega, h.v, h.hy, h.hb, h.hW⟩
theorem Two.lt (h : Two B y b Rp Rd k W) : y.m < W.heap.size ∧ b < W.heap.size := by
  obtain ⟨n, f, h1, -, -⟩ := h.p
  obtain ⟨v, hb, -⟩ := h.d
  exact ⟨h1.1.lt.2, blk_lt hb⟩
theorem Two.below (h : Two B y b Rp Rd k W) (hc : Chg W W' (FT y b)) : Below B W W' := hc.below (fun q e => by rcases e with e | e <;> rw [e]; exact h.hy; exact h.hb) h.hW
theorem Two.bankS (h : Two B y b Rp Rd k W) {R' : List Pr} {n : Nat} {f : LF} {W2 : World} (hn : n ≤ y.n + k) (hp : PileS W [⟨y.b, y.m, n, f⟩]) (hq : BankS W ⟨y.b, y.m, n, f⟩ [] R' 2 W2) : Two B y b R' Rd (k + 2) W2 ∧ Chg W W2 (FT y b) := by
  obtain ⟨n', f', g1, g2, g3, g4⟩ := hq
  dsimp only at g1 g2 g3 g4
  have hk : Kept W W2 := ⟨_, g4, hp.1.maps⟩
  exact ⟨⟨⟨n', f', g1, g2, by omega⟩, h.d.kept hk, by have := h.n; omega, h.v, h.hy, h.hb, Nat.le_trans h.hW g4.size⟩, g4.mono fun _ _ e => Or.inl e⟩
theorem Two.doc (h : Two B y b Rp Rd k W) : Doc W b Rd (y.n + k) W := ⟨h.d, h.n, h.v, Chg.refl _ _⟩
theorem Two.docS (h : Two B y b Rp Rd k W) {R' : List Pr} {W2 : World} (hq : Doc W b R' (y.n + k + 2) W2) : Two B y b Rp R' (k + 2) W2 ∧ Chg W W2 (FT y b) := by
  obtain ⟨n, f, h1, h2, h3⟩ := h.p
  exact ⟨⟨⟨n, f, h1.chgB h.d hq.c, h2, by omega⟩, hq.s, by have := hq.n; omega, hq.v, h.hy, h.hb, Nat.le_trans h.hW hq.c.size⟩, hq.c.mono fun _ _ e => Or.inr e⟩
theorem Two.mint (h : Two B y b Rp Rd k W) (hn : y.n + k + 2 ≤ 100000000) (a d : ByteArray) (x : U4) (hx : x.ok) (ha : a.size ≤ 100000000) (hd : d.size ≤ 100000000) :
    Calls Tryz.prog 12 #[.pointer (some ⟨y.b, 0, none⟩), .string a, .string d, x.val] W fun e w' => e = .returned (.int .i64 (mintM Rp a d x).1) ∧ Two B y b (mintM Rp a d x).2 Rd (k + 2) w' ∧ Chg W w' (FT y b) := by
  obtain ⟨n, f, h1, h2, h3⟩ := h.p
  refine (mint_any h1 h2 (show n + 2 ≤ maxLen by unfold maxLen; omega) a d x hx ha hd).mono ?_
  rintro e w' ⟨he, hq⟩
  exact ⟨he, h.bankS h3 h1 hq⟩
theorem Two.burn (h : Two B y b Rp Rd k W) (hn : y.n + k + 2 ≤ 100000000) (a d : ByteArray) (x : U4) (hx : x.ok) (ha : a.size ≤ 100000000) (hd : d.size ≤ 100000000) :
    Calls Tryz.prog 13 #[.pointer (some ⟨y.b, 0, none⟩), .string a, .string d, x.val] W fun e w' => e = .returned (.int .i64 (burnM Rp a d x).1) ∧ Two B y b (burnM Rp a d x).2 Rd (k + 2) w' ∧ Chg W w' (FT y b) := by
  obtain ⟨n, f, h1, h2, h3⟩ := h.p
  refine (burn_any h1 h2 (show n + 2 ≤ maxLen by unfold maxLen; omega) a d x hx ha hd).mono ?_
  rintro e w' ⟨he, hq⟩
  exact ⟨he, h.bankS h3 h1 hq⟩
theorem Two.send (h : Two B y b Rp Rd k W) (hn : y.n + k + 2 ≤ 100000000) (a c d : ByteArray) (x : U4) (hx : x.ok) (ha : a.size ≤ 100000000) (hc : c.size ≤ 100000000) (hd : d.size ≤ 100000000) :
    Calls Tryz.prog 17 #[.pointer (some ⟨y.b, 0, none⟩), .string a, .string c, .string d, x.val] W fun e w' => e = .returned (.int .i64 (sendM Rp a c d x).1) ∧ Two B y b (sendM Rp a c d x).2 Rd (k + 2) w' ∧ Chg W w' (FT y b) := by
  obtain ⟨n, f, h1, h2, h3⟩ := h.p
  refine (send_any h1 h2 (show n + 2 ≤ maxLen by unfold maxLen; omega) a c d x hx ha hc hd).mono ?_
  rintro e w' ⟨he, hq⟩
  exact ⟨he, h.bankS h3 h1 hq⟩
theorem Two.rmint (h : Two B y b Rp Rd k W) (hn : y.n + k + 2 ≤ 100000000) (a d : ByteArray) (x : U4) (hx : x.ok) (ha : a.size ≤ 100000000) (hd : d.size ≤ 100000000) :
    Calls Tryz.prog 20 #[.pointer (some ⟨b, 0, none⟩), .string a, .string d, x.val] W fun e w' => e = .returned (.int .i64 (mintM Rd a d x).1) ∧ Two B y b Rp (mintM Rd a d x).2 (k + 2) w' ∧ Chg W w' (FT y b) := by
  refine (rmint_any h.doc hn a d x hx ha hd).mono ?_
  rintro e w' ⟨he, hq⟩
  exact ⟨he, h.docS hq⟩
theorem Two.rburn (h : Two B y b Rp Rd k W) (hn : y.n + k + 2 ≤ 100000000) (a d : ByteArray) (x : U4) (hx : x.ok) (ha : a.size ≤ 100000000) (hd : d.size ≤ 100000000) :
    Calls Tryz.prog 21 #[.pointer (some ⟨b, 0, none⟩), .string a, .string d, x.val] W fun e w' => e = .returned (.int .i64 (burnM Rd a d x).1) ∧ Two B y b Rp (burnM Rd a d x).2 (k + 2) w' ∧ Chg W w' (FT y b) := by
  refine (rburn_any h.doc hn a d x hx ha hd).mono ?_
  rintro e w' ⟨he, hq⟩
  exact ⟨he, h.docS hq⟩
theorem Two.rsend (h : Two B y b Rp Rd k W) (hn : y.n + k + 2 ≤ 100000000) (a c d : ByteArray) (x : U4) (hx : x.ok) (ha : a.size ≤ 100000000) (hc : c.size ≤ 100000000) (hd : d.size ≤ 100000000) :
    Calls Tryz.prog 22 #[.pointer (some ⟨b, 0, none⟩), .string a, .string c, .string d, x.val] W fun e w' => e = .returned (.int .i64 (sendM Rd a c d x).1) ∧ Two B y b Rp (sendM Rd a c d x).2 (k + 2) w' ∧ Chg W w' (FT y b) := by
  refine (rsend_any h.doc hn a c d x hx ha hc hd).mono ?_
  rintro e w' ⟨he, hq⟩
  exact ⟨he, h.docS hq⟩
theorem Two.bal (h : Two B y b Rp Rd k W) (a d : ByteArray) (ha : a.size ≤ 100000000) (hd : d.size ≤ 100000000) :
    Calls Tryz.prog 18 #[.pointer (some ⟨y.b, 0, none⟩), .string a, .string d] W fun e w' => e = .returned (balM Rp a d).val ∧ Below W.heap.size W w' := by
  obtain ⟨n, f, h1, h2, h3⟩ := h.p
  rw [← balV_seen h2 a d]
  exact bal_any h1 a d ha hd
theorem Two.sup (h : Two B y b Rp Rd k W) (d : ByteArray) (hd : d.size ≤ 100000000) :
    Calls Tryz.prog 19 #[.pointer (some ⟨y.b, 0, none⟩), .string d] W fun e w' => e = .returned (supM Rp d).val ∧ Below W.heap.size W w' := by
  obtain ⟨n, f, h1, h2, h3⟩ := h.p
  rw [← supV_seen h2 d]
  exact supply_any h1 d hd
theorem Two.docR (h : Two B y b Rp Rd k W) (hn : y.n + k ≤ 100000000) : DocR W b Rd := ⟨h.d, Nat.le_trans h.n hn, h.v⟩
end
/-- what a call of the bank makes of a store -/
def stepM (R : List Pr) (kd : Int) (a c d : ByteArray) (x : U4) : List Pr := if kd = 1 then (mintM R a d x).2 else if kd = 2 then (burnM R a d x).2 else if kd = 3 then (sendM R a c d x).2 else R
end Go.Proofs.YtgiciaeaibonbaaGreat
namespace Go.Proofs.YtgiciaeaibonbaaGreat
set_option maxRecDepth 100000
open Go Go.RowKit
set_option linter.unusedVariables false

set_option maxHeartbeats 8000000 in
theorem bplay_any {B : Nat} {y : Lyr} {b k : Nat} {R : List Pr} {W : World} (h : Two B y b R R k W) (hn : y.n + k + 4 ≤ 100000000) (kd : Int) (a c d : ByteArray) (x : U4) (hx : x.ok) (ha : a.size ≤ 100000000) (hc : c.size ≤ 100000000) (hd : d.size ≤ 100000000) :
    Calls Tryz.prog 8 #[.pointer (some ⟨y.b, 0, none⟩), .pointer (some ⟨b, 0, none⟩), .agg #[.int .i64 kd, .string a, .string c, .string d, .int .u64 (x.a : Int), .int .u64 (x.b : Int), .int .u64 (x.c : Int), .int .u64 (x.d : Int)]] W fun e w' => e = .returned (.bool true) ∧ Two B y b (stepM R kd a c d x) (stepM R kd a c d x) (k + 4) w' ∧ Chg W w' (FT y b) := by
  have hbox := heap_alloc_new W (.cells #[.int .i64 kd, .string a, .string c, .string d, .int .u64 (x.a : Int), .int .u64 (x.b : Int), .int .u64 (x.c : Int), .int .u64 (x.d : Int)] 36)
  have hb0 : Below W.heap.size W (W.alloc (.cells #[.int .i64 kd, .string a, .string c, .string d, .int .u64 (x.a : Int), .int .u64 (x.b : Int), .int .u64 (x.c : Int), .int .u64 (x.d : Int)] 36)) := (Below.refl _ _).alloc (Nat.le_refl _) _
  obtain ⟨l1, l2⟩ := h.lt
  have HO : Hid (∀ Z, Chg (W.alloc (.cells #[.int .i64 kd, .string a, .string c, .string d, .int .u64 (x.a : Int), .int .u64 (x.b : Int), .int .u64 (x.c : Int), .int .u64 (x.d : Int)] 36)) Z (FT y b) → Z.cell? ⟨W.heap.size, 0, none⟩ = some (.int .i64 kd) ∧ Z.cell? ⟨W.heap.size, 1, none⟩ = some (.string a) ∧ Z.cell? ⟨W.heap.size, 2, none⟩ = some (.string c) ∧ Z.cell? ⟨W.heap.size, 3, none⟩ = some (.string d) ∧ Z.cell? ⟨W.heap.size, 4, none⟩ = some (.int .u64 (x.a : Int)) ∧ Z.cell? ⟨W.heap.size, 5, none⟩ = some (.int .u64 (x.b : Int)) ∧ Z.cell? ⟨W.heap.size, 6, none⟩ = some (.int .u64 (x.c : Int)) ∧ Z.cell? ⟨W.heap.size, 7, none⟩ = some (.int .u64 (x.d : Int))) := Lib.hid fun Z hz => by
    have hb := (hz.block W.heap.size (blk_lt hbox) (fun e => by rcases e with e | e <;> omega)).trans hbox
    exact ⟨blk_cell hb 0, blk_cell hb 1, blk_cell hb 2, blk_cell hb 3, blk_cell hb 4, blk_cell hb 5, blk_cell hb 6, blk_cell hb 7⟩
  have T0 := h.up hb0
  have HC0 : Hid (∀ Z, Chg (W.alloc (.cells #[.int .i64 kd, .string a, .string c, .string d, .int .u64 (x.a : Int), .int .u64 (x.b : Int), .int .u64 (x.c : Int), .int .u64 (x.d : Int)] 36)) Z (FT y b) → Chg W Z (FT y b)) := Lib.hid fun Z hz => (Chg.of_below hb0 _).trans' hz
  clear hbox hb0 l1 l2 h
  go_enter Tryz.func8, Tryz.ntmps8
  by_cases kk : kd = 1
  · subst kk
    have HS : Hid (stepM R 1 a c d x = (mintM R a d x).2) := Lib.hid rfl
    have z := HO.out _ (Chg.refl _ _)
    obtain ⟨z0, z1, z2, z3, z4, z5, z6, z7⟩ := z
    go_wp2_with fail
    generalize W.alloc (.cells #[.int .i64 1, .string a, .string c, .string d, .int .u64 (x.a : Int), .int .u64 (x.b : Int), .int .u64 (x.c : Int), .int .u64 (x.d : Int)] 36) = W0 at *
    generalize W.heap.size = g0 at *
    have f0 : Chg W0 W0.drew (FT y b) := Chg.drew _ _
    have Td := T0.up (Below.drew (Below.refl _ _))
    clear z0 z1 z2 z3 z4 z5 z6 z7
    have HM := Lib.hid (Td.mint (by omega) a d x hx ha hd)
    have HR := Lib.hid (fun (Z : World) (R' : List Pr) (T : Two B y b R' R (k + 2) Z) => T.rmint (by omega) a d x hx ha hd)
    generalize mintM R a d x = P at *
    unfold U4.val U4.cells at *
    clear Td T0
    go_region_held_law (fun Z => Z.cell? ⟨g0, 0, none⟩ = some (.int .i64 1) ∧ Z.cell? ⟨g0, 1, none⟩ = some (.string a) ∧ Z.cell? ⟨g0, 2, none⟩ = some (.string c) ∧ Z.cell? ⟨g0, 3, none⟩ = some (.string d) ∧ Z.cell? ⟨g0, 4, none⟩ = some (.int .u64 (x.a : Int)) ∧ Z.cell? ⟨g0, 5, none⟩ = some (.int .u64 (x.b : Int)) ∧ Z.cell? ⟨g0, 6, none⟩ = some (.int .u64 (x.c : Int)) ∧ Z.cell? ⟨g0, 7, none⟩ = some (.int .u64 (x.d : Int)))
      (with_reducible first | exact HO.out _ f2 | exact HO.out _ f1 | exact HO.out _ f0)
      (first
        | (go_at_call 12; refine HM.out.mono ?_; rintro e w1 ⟨rfl, T1, hc1⟩; have f1 := f0.trans' hc1)
        | (go_at_call 20; have T1' := T1; refine (HR.out _ _ T1').mono ?_; rintro e w2 ⟨rfl, T2, hc2⟩; have f2 := f1.trans' hc2))
    all_goals
      go_wp2_with fail
      go_ret
      exact ⟨by simp, by rw [HS.out]; exact T2, HC0.out _ f2⟩
  · have k1 : (kd == 1) = false := by simpa using kk
    have j1 := Lib.hid kk
    clear kk
    by_cases kk : kd = 2
    · subst kk
      have HS : Hid (stepM R 2 a c d x = (burnM R a d x).2) := Lib.hid rfl
      have z := HO.out _ (Chg.refl _ _)
      obtain ⟨z0, z1, z2, z3, z4, z5, z6, z7⟩ := z
      go_wp2_with fail
      generalize W.alloc (.cells #[.int .i64 2, .string a, .string c, .string d, .int .u64 (x.a : Int), .int .u64 (x.b : Int), .int .u64 (x.c : Int), .int .u64 (x.d : Int)] 36) = W0 at *
      generalize W.heap.size = g0 at *
      have f0 : Chg W0 W0.drew (FT y b) := Chg.drew _ _
      have Td := T0.up (Below.drew (Below.refl _ _))
      clear z0 z1 z2 z3 z4 z5 z6 z7
      have HM := Lib.hid (Td.burn (by omega) a d x hx ha hd)
      have HR := Lib.hid (fun (Z : World) (R' : List Pr) (T : Two B y b R' R (k + 2) Z) => T.rburn (by omega) a d x hx ha hd)
      generalize burnM R a d x = P at *
      unfold U4.val U4.cells at *
      clear Td T0
      go_region_held_law (fun Z => Z.cell? ⟨g0, 0, none⟩ = some (.int .i64 2) ∧ Z.cell? ⟨g0, 1, none⟩ = some (.string a) ∧ Z.cell? ⟨g0, 2, none⟩ = some (.string c) ∧ Z.cell? ⟨g0, 3, none⟩ = some (.string d) ∧ Z.cell? ⟨g0, 4, none⟩ = some (.int .u64 (x.a : Int)) ∧ Z.cell? ⟨g0, 5, none⟩ = some (.int .u64 (x.b : Int)) ∧ Z.cell? ⟨g0, 6, none⟩ = some (.int .u64 (x.c : Int)) ∧ Z.cell? ⟨g0, 7, none⟩ = some (.int .u64 (x.d : Int)))
        (with_reducible first | exact HO.out _ f2 | exact HO.out _ f1 | exact HO.out _ f0)
        (first
          | (go_at_call 13; refine HM.out.mono ?_; rintro e w1 ⟨rfl, T1, hc1⟩; have f1 := f0.trans' hc1)
          | (go_at_call 21; have T1' := T1; refine (HR.out _ _ T1').mono ?_; rintro e w2 ⟨rfl, T2, hc2⟩; have f2 := f1.trans' hc2))
      all_goals
        go_wp2_with fail
        go_ret
        exact ⟨by simp, by rw [HS.out]; exact T2, HC0.out _ f2⟩
    · have k2 : (kd == 2) = false := by simpa using kk
      have j2 := Lib.hid kk
      clear kk
      by_cases kk : kd = 3
      · subst kk
        have HS : Hid (stepM R 3 a c d x = (sendM R a c d x).2) := Lib.hid rfl
        have z := HO.out _ (Chg.refl _ _)
        obtain ⟨z0, z1, z2, z3, z4, z5, z6, z7⟩ := z
        go_wp2_with fail
        generalize W.alloc (.cells #[.int .i64 3, .string a, .string c, .string d, .int .u64 (x.a : Int), .int .u64 (x.b : Int), .int .u64 (x.c : Int), .int .u64 (x.d : Int)] 36) = W0 at *
        generalize W.heap.size = g0 at *
        have f0 : Chg W0 W0.drew (FT y b) := Chg.drew _ _
        have Td := T0.up (Below.drew (Below.refl _ _))
        clear z0 z1 z2 z3 z4 z5 z6 z7
        have HM := Lib.hid (Td.send (by omega) a c d x hx ha hc hd)
        have HR := Lib.hid (fun (Z : World) (R' : List Pr) (T : Two B y b R' R (k + 2) Z) => T.rsend (by omega) a c d x hx ha hc hd)
        generalize sendM R a c d x = P at *
        unfold U4.val U4.cells at *
        clear Td T0
        go_region_held_law (fun Z => Z.cell? ⟨g0, 0, none⟩ = some (.int .i64 3) ∧ Z.cell? ⟨g0, 1, none⟩ = some (.string a) ∧ Z.cell? ⟨g0, 2, none⟩ = some (.string c) ∧ Z.cell? ⟨g0, 3, none⟩ = some (.string d) ∧ Z.cell? ⟨g0, 4, none⟩ = some (.int .u64 (x.a : Int)) ∧ Z.cell? ⟨g0, 5, none⟩ = some (.int .u64 (x.b : Int)) ∧ Z.cell? ⟨g0, 6, none⟩ = some (.int .u64 (x.c : Int)) ∧ Z.cell? ⟨g0, 7, none⟩ = some (.int .u64 (x.d : Int)))
          (with_reducible first | exact HO.out _ f2 | exact HO.out _ f1 | exact HO.out _ f0)
          (first
            | (go_at_call 17; refine HM.out.mono ?_; rintro e w1 ⟨rfl, T1, hc1⟩; have f1 := f0.trans' hc1)
            | (go_at_call 22; have T1' := T1; refine (HR.out _ _ T1').mono ?_; rintro e w2 ⟨rfl, T2, hc2⟩; have f2 := f1.trans' hc2))
        all_goals
          go_wp2_with fail
          go_ret
          exact ⟨by simp, by rw [HS.out]; exact T2, HC0.out _ f2⟩
      · have k3 : (kd == 3) = false := by simpa using kk
        have j3 := Lib.hid kk
        clear kk
        by_cases kk : kd = 4
        · subst kk
          have HS : Hid (stepM R 4 a c d x = R) := Lib.hid rfl
          have z := HO.out _ (Chg.refl _ _)
          obtain ⟨z0, z1, z2, z3, z4, z5, z6, z7⟩ := z
          go_wp2_with fail
          generalize W.alloc (.cells #[.int .i64 4, .string a, .string c, .string d, .int .u64 (x.a : Int), .int .u64 (x.b : Int), .int .u64 (x.c : Int), .int .u64 (x.d : Int)] 36) = W0 at *
          generalize W.heap.size = g0 at *
          have f0 : Chg W0 W0.drew (FT y b) := Chg.drew _ _
          have Td := T0.up (Below.drew (Below.refl _ _))
          clear z0 z1 z2 z3 z4 z5 z6 z7
          have HM := Lib.hid (Td.bal a d ha hd)
          have HR := Lib.hid (fun (Z : World) (T : Two B y b R R k Z) => rbal_any (T.docR (by omega)) a d ha hd)
          generalize balM R a d = X at *
          have q1 := fun W => eql4 X X W
          rw [eqB_refl] at q1
          unfold U4.val U4.cells at *
          have HT := Lib.hid Td
          clear T0 Td
          go_region_held_law (fun Z => Z.cell? ⟨g0, 0, none⟩ = some (.int .i64 4) ∧ Z.cell? ⟨g0, 1, none⟩ = some (.string a) ∧ Z.cell? ⟨g0, 2, none⟩ = some (.string c) ∧ Z.cell? ⟨g0, 3, none⟩ = some (.string d) ∧ Z.cell? ⟨g0, 4, none⟩ = some (.int .u64 (x.a : Int)) ∧ Z.cell? ⟨g0, 5, none⟩ = some (.int .u64 (x.b : Int)) ∧ Z.cell? ⟨g0, 6, none⟩ = some (.int .u64 (x.c : Int)) ∧ Z.cell? ⟨g0, 7, none⟩ = some (.int .u64 (x.d : Int)))
            (with_reducible first | exact HO.out _ f2 | exact HO.out _ f1 | exact HO.out _ f0)
            (first
              | (go_at_call 18; refine HM.out.mono ?_; rintro e w1 ⟨rfl, hb1⟩; have f1 := f0.trans' (Chg.of_below hb1 _); have T1 := HT.out.up hb1)
              | (go_at_call 23; have T1' := T1; refine (HR.out _ T1').mono ?_; rintro e w2 ⟨rfl, hb2⟩; have f2 := f1.trans' (Chg.of_below hb2 _); have T2 := T1'.up hb2))
          all_goals
            go_wp2_with fail
            go_ret
            exact ⟨by first | rfl | simp, by rw [HS.out]; exact T2.more (by omega), HC0.out _ f2⟩
        · have k4 : (kd == 4) = false := by simpa using kk
          have j4 := Lib.hid kk
          clear kk
          by_cases kk : kd = 5
          · subst kk
            have HS : Hid (stepM R 5 a c d x = R) := Lib.hid rfl
            have z := HO.out _ (Chg.refl _ _)
            obtain ⟨z0, z1, z2, z3, z4, z5, z6, z7⟩ := z
            go_wp2_with fail
            generalize W.alloc (.cells #[.int .i64 5, .string a, .string c, .string d, .int .u64 (x.a : Int), .int .u64 (x.b : Int), .int .u64 (x.c : Int), .int .u64 (x.d : Int)] 36) = W0 at *
            generalize W.heap.size = g0 at *
            have f0 : Chg W0 W0.drew (FT y b) := Chg.drew _ _
            have Td := T0.up (Below.drew (Below.refl _ _))
            clear z0 z1 z2 z3 z4 z5 z6 z7
            have HM := Lib.hid (Td.sup d hd)
            have HR := Lib.hid (fun (Z : World) (T : Two B y b R R k Z) => rsup_any (T.docR (by omega)) d hd)
            generalize supM R d = X at *
            have q1 := fun W => eql4 X X W
            rw [eqB_refl] at q1
            unfold U4.val U4.cells at *
            have HT := Lib.hid Td
            clear T0 Td
            go_region_held_law (fun Z => Z.cell? ⟨g0, 0, none⟩ = some (.int .i64 5) ∧ Z.cell? ⟨g0, 1, none⟩ = some (.string a) ∧ Z.cell? ⟨g0, 2, none⟩ = some (.string c) ∧ Z.cell? ⟨g0, 3, none⟩ = some (.string d) ∧ Z.cell? ⟨g0, 4, none⟩ = some (.int .u64 (x.a : Int)) ∧ Z.cell? ⟨g0, 5, none⟩ = some (.int .u64 (x.b : Int)) ∧ Z.cell? ⟨g0, 6, none⟩ = some (.int .u64 (x.c : Int)) ∧ Z.cell? ⟨g0, 7, none⟩ = some (.int .u64 (x.d : Int)))
              (with_reducible first | exact HO.out _ f2 | exact HO.out _ f1 | exact HO.out _ f0)
              (first
                | (go_at_call 19; refine HM.out.mono ?_; rintro e w1 ⟨rfl, hb1⟩; have f1 := f0.trans' (Chg.of_below hb1 _); have T1 := HT.out.up hb1)
                | (go_at_call 24; have T1' := T1; refine (HR.out _ T1').mono ?_; rintro e w2 ⟨rfl, hb2⟩; have f2 := f1.trans' (Chg.of_below hb2 _); have T2 := T1'.up hb2))
            all_goals
              go_wp2_with fail
              go_ret
              exact ⟨by first | rfl | simp, by rw [HS.out]; exact T2.more (by omega), HC0.out _ f2⟩
          · have k5 : (kd == 5) = false := by simpa using kk
            have j5 := Lib.hid kk
            clear kk
            by_cases kk : kd = 6
            · subst kk
              have HS : Hid (stepM R 6 a c d x = R) := Lib.hid rfl
              have z := HO.out _ (Chg.refl _ _)
              obtain ⟨z0, z1, z2, z3, z4, z5, z6, z7⟩ := z
              go_wp2_with fail
              generalize W.alloc (.cells #[.int .i64 6, .string a, .string c, .string d, .int .u64 (x.a : Int), .int .u64 (x.b : Int), .int .u64 (x.c : Int), .int .u64 (x.d : Int)] 36) = W0 at *
              generalize W.heap.size = g0 at *
              have f0 : Chg W0 W0.drew (FT y b) := Chg.drew _ _
              have Td := T0.up (Below.drew (Below.refl _ _))
              clear z0 z1 z2 z3 z4 z5 z6 z7
              have HM := Lib.hid (right_any a d x W0.drew (by unfold maxLen; omega) (by unfold maxLen; omega))
              have HR := Lib.hid (fun (Z : World) (T : Two B y b R R k Z) => rright_any a d x Z (by unfold maxLen; omega) (by unfold maxLen; omega))
              generalize rightM a d x = E at *
              unfold U4.val U4.cells at *
              have HT := Lib.hid Td
              clear T0 Td
              go_region_held_law (fun Z => Z.cell? ⟨g0, 0, none⟩ = some (.int .i64 6) ∧ Z.cell? ⟨g0, 1, none⟩ = some (.string a) ∧ Z.cell? ⟨g0, 2, none⟩ = some (.string c) ∧ Z.cell? ⟨g0, 3, none⟩ = some (.string d) ∧ Z.cell? ⟨g0, 4, none⟩ = some (.int .u64 (x.a : Int)) ∧ Z.cell? ⟨g0, 5, none⟩ = some (.int .u64 (x.b : Int)) ∧ Z.cell? ⟨g0, 6, none⟩ = some (.int .u64 (x.c : Int)) ∧ Z.cell? ⟨g0, 7, none⟩ = some (.int .u64 (x.d : Int)))
                (with_reducible first | exact HO.out _ f2 | exact HO.out _ f1 | exact HO.out _ f0)
                (first
                  | (go_at_call 25; refine HM.out.mono ?_; rintro e w1 ⟨rfl, hb1⟩; have f1 := f0.trans' (Chg.of_below hb1 _); have T1 := HT.out.up hb1)
                  | (go_at_call 26; have T1' := T1; refine (HR.out _ T1').mono ?_; rintro e w2 ⟨rfl, hb2⟩; have f2 := f1.trans' (Chg.of_below hb2 _); have T2 := T1'.up hb2))
              all_goals
                go_wp2_with fail
                go_ret
                exact ⟨by first | rfl | simp, by rw [HS.out]; exact T2.more (by omega), HC0.out _ f2⟩
            · have k6 : (kd == 6) = false := by simpa using kk
              have j6 := Lib.hid kk
              clear kk
              have HS : Hid (stepM R kd a c d x = R) := Lib.hid (by
                unfold stepM
                rw [if_neg j1.out, if_neg j2.out, if_neg j3.out])
              have z := HO.out _ (Chg.refl _ _)
              obtain ⟨z0, z1, z2, z3, z4, z5, z6, z7⟩ := z
              go_wp2_with fail
              go_ret
              exact ⟨rfl, by rw [HS.out]; exact T0.more (by omega), HC0.out _ (Chg.refl _ _)⟩
end Go.Proofs.YtgiciaeaibonbaaGreat
namespace Go.Proofs.YtgiciaeaibonbaaGreat
set_option maxRecDepth 100000
open Go Go.RowKit
set_option linter.unusedVariables false

/-- one call of a script -/
structure BOp where
  kd : Int
  a : ByteArray
  c : ByteArray
  d : ByteArray
  x : U4
def BOp.cells (o : BOp) : List Value := [.int .i64 o.kd, .string o.a, .string o.c, .string o.d, .int .u64 (o.x.a : Int), .int .u64 (o.x.b : Int), .int .u64 (o.x.c : Int), .int .u64 (o.x.d : Int)]
def BOp.fine (o : BOp) : Prop := o.x.ok ∧ o.a.size ≤ 100000000 ∧ o.c.size ≤ 100000000 ∧ o.d.size ≤ 100000000
/-- a row of calls, read -/
def RdB (w : World) (B : Nat) (v : Value) (ops : List BOp) : Prop :=
  ∃ A c, v = .slice A ops.length c ∧ ops.length ≤ c ∧ c ≤ maxLen ∧ (0 < ops.length → ∃ b o, A = some ⟨b, o, none⟩ ∧ b < B ∧ ∀ j (h : j < ops.length), ∀ i, i < 8 → w.cell? ⟨b, o + j * 8 + i, none⟩ = (ops[j]).cells[i]?)
def BOp.step (R : List Pr) (o : BOp) : List Pr := stepM R o.kd o.a o.c o.d o.x
section
variable {R : List Pr} {a b c d : ByteArray} {x : U4}
theorem CanonL.nil : CanonL [] := fun p hp => by cases hp
theorem CanonL.change {op : U4 → U4 → U4 × Bool} {u : Int} (h : CanonL R) (ho : ∀ x y, (op x y).1.ok) : CanonL (changeM op u R a d x).2 := by
  unfold changeM
  split
  · split
    · exact (h.keep _ (ho _ _)).keep _ (ho _ _)
    · exact h
  · exact h
theorem CanonL.send (h : CanonL R) : CanonL (sendM R a b d x).2 := by
  unfold sendM
  split
  · split
    · split
      · split
        · exact h
        · split
          · exact (h.keep _ (subU_ok' _ _)).keep _ (addU_ok' _ _)
          · exact h
      · exact h
    · exact h
  · exact h
theorem CanonL.step (h : CanonL R) (o : BOp) : CanonL (o.step R) := by
  unfold BOp.step stepM
  split
  · exact h.change addU_ok'
  · split
    · exact h.change subU_ok'
    · split
      · exact h.send
      · exact h
end
theorem Two.acc {B : Nat} {y : Lyr} {b k : Nat} {Rp Rd : List Pr} {W : World} (h : Two B y b Rp Rd k W) : ∃ n f, n ≤ y.n + k ∧ Rise Rp ∧ Acc W ⟨y.b, y.m, n, f⟩ Rp 0 W := by
  obtain ⟨n, f, h1, h2, h3⟩ := h.p
  exact ⟨n, f, h3, h2.rise, ⟨BankS.refl h1 h2, h1⟩⟩
end Go.Proofs.YtgiciaeaibonbaaGreat
