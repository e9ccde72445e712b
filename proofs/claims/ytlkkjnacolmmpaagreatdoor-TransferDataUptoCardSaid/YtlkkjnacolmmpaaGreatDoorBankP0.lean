
/- A bank's store and the document's, side by side. A call of the bank on the bank and on the document's, walked. Scripts of the bank: what they make of a store; rows of calls, read. -/
import Derived.Test.YtlkkjnacolmmpaaGreatDoorAuthA1
import Derived.Test.YtlkkjnacolmmpaaGreatDoorRBankC0
namespace Go.Proofs.YtlkkjnacolmmpaaGreatDoor
set_option maxRecDepth 100000
open Go Go.RowKit
set_option linter.unusedVariables false

section
variable {w w' : World} {b B : Nat} {R : List Pr}
theorem DocS.ne_cell (h : DocS w b R) {g i : Nat} {u : Value} (e : w.cell? ⟨g, i, none⟩ = some u) (h1 : ∀ A n c, u ≠ .slice A n c) (h2 : u ≠ .pointer none) : g ≠ b := by
  obtain ⟨v, hb, hr⟩ := h
  obtain ⟨A, c, rfl⟩ := RdP.form hr
  exact not_own hb e h1 h2
theorem Rd.chgB (hd : DocS w b R) {v : Value} {l : List UInt8} (h : Rd w B v l) (hc : Chg w w' (fun k => k = b)) (hB : B ≤ w.heap.size) : Rd w' B v l := by
  obtain ⟨A, c, hv, h1, h2, hp⟩ := h
  refine ⟨A, c, hv, h1, h2, fun h0 => ?_⟩
  obtain ⟨g, o, hA, hl, hcell⟩ := hp h0
  refine ⟨g, o, hA, hl, fun j hj => ?_⟩
  have e := hcell j hj
  exact hc.cellB (hd.ne_cell e (fun _ _ _ h => by cases h) (fun h => by cases h)) e
theorem EntryIs.chgB (hd : DocS w b R) {e : Value} {x : Option (List UInt8)} (h : EntryIs w e x) (hc : Chg w w' (fun k => k = b)) : EntryIs w' e x := by
  cases x with
  | none => exact h
  | some l =>
    obtain ⟨sl, h1, h2⟩ := h
    exact ⟨sl, h1, (Rd.chgB hd h2 hc (Nat.le_refl _)).more hc.size⟩
theorem SaysF.chgB (hd : DocS w b R) {g : ByteArray → Option Value} {f : ByteArray → Option (Option (List UInt8))} (h : SaysF w g f) (hc : Chg w w' (fun k => k = b)) : SaysF w' g f := by
  intro s hs
  rcases h s hs with h | ⟨e, x, h1, h2, h3⟩
  · exact .inl h
  · exact .inr ⟨e, x, h1, h2, EntryIs.chgB hd h3 hc⟩
theorem LayS.chgB (hd : DocS w b R) {y : Lyr} {p : Value} (h : LayS w y p) (hc : Chg w w' (fun k => k = b)) : LayS w' y p := by
  obtain ⟨v, hb, hr⟩ := id hd
  have n1 : y.b ≠ b := fun e => by
    have h2 := h.cells.symm.trans ((congrArg (fun k => w.heap[k]?) e).trans hb)
    injection h2 with h2
    injection h2 with h3 h4 h5
    exact absurd h4 (by decide)
  obtain ⟨g, h1, h2⟩ := h.own
  have n2 : y.m ≠ b := fun e => by
    obtain ⟨es, c, e'⟩ := h1.isMap
    rw [e, hb] at e'; cases e'
  exact ⟨(hc.block _ h.lt.1 n1).trans h.cells, ⟨g, h1.chg hc n2, SaysF.chgB hd h2 hc⟩, h.ok⟩
theorem PileS.chgB (hd : DocS w b R) {l : List Lyr} (h : PileS w l) (hc : Chg w w' (fun k => k = b)) : PileS w' l := by
  induction l with
  | nil => trivial
  | cons y l ih =>
    obtain ⟨h1, h2, h3⟩ := h
    exact ⟨h1.chgB hd hc, h2, ih h3⟩
end

/-- the program's store at y, the document's at b -/
structure Two (B : Nat) (y : Lyr) (b : Nat) (Rp Rd : List Pr) (k : Nat) (W : World) : Prop where
  p : ∃ n f, PileS W [⟨y.b, y.m, n, f⟩] ∧ SeenL ⟨#[]⟩ [⟨y.b, y.m, n, f⟩] Rp ∧ n ≤ y.n + k
  d : DocS W b Rd
  n : Rd.length ≤ y.n + k
  v : ∀ p ∈ Rd, p.2.length ≤ 2000000
  hy : B ≤ y.m
  hb : B ≤ b
  hW : B ≤ W.heap.size
def FT (y : Lyr) (b : Nat) : Nat → Prop := fun k => k = y.m ∨ k = b
section
variable {B : Nat} {y : Lyr} {b k : Nat} {Rp Rd : List Pr} {W W' : World}
theorem Two.up (h : Two B y b Rp Rd k W) (hb : Below W.heap.size W W') : Two B y b Rp Rd k W' := by
  obtain ⟨n, f, h1, h2, h3⟩ := h.p
  exact ⟨⟨n, f, h1.up hb, h2, h3⟩, h.d.up hb, h.n, h.v, h.hy, h.hb, Nat.le_trans h.hW hb.size⟩
theorem Two.more {k' : Nat} (h : Two B y b Rp Rd k W) (hk : k ≤ k') : Two B y b Rp Rd k' W := by
  obtain ⟨n, f, h1, h2, h3⟩ := h.p
  exact ⟨⟨n, f, h1, h2, by omega⟩, h.d, by have := h.n; omega, h.v, h.hy, h.hb, h.hW⟩
theorem Two.lt (h : Two B y b Rp Rd k W) : y.m < W.heap.size ∧ b < W.heap.size := by
  obtain ⟨n, f, h1, -, -⟩ := h.p
  obtain ⟨v, hb, -⟩ := h.d
  exact ⟨h1.1.lt.2, blk_lt hb⟩
theorem Two.below (h : Two B y b Rp Rd k W) (hc : Chg W W' (FT y b)) : Below B W W' := hc.below (fun q e => by rcases e with e | e <;> rw [e]; exact h.hy; exact h.hb) h.hW
theorem Two.bankS (h : Two B y b Rp Rd k W) {R' : List Pr} {n : Nat} {f : LF} {W2 : World} (hn : n ≤ y.n + k) (hp : PileS W [⟨y.b, y.m, n, f⟩]) (hq : BankS W ⟨y.b, y.m, n, f⟩ [] R' 2 W2) : Two B y b R' Rd (k + 2) W2 ∧ Chg W W2 (FT y b) := by
  obtain ⟨n', f', g1, g2, g3, g4⟩ := hq
  dsimp only at g1 g2 g3 g4
  have hk : Kept W W2 := ⟨_, g4, hp.1.maps⟩
  exact ⟨⟨⟨n', f', g1, g2, by omega⟩, h.d.kept hk, by have := h.n; omega, h.v, h.hy, h.hb, Nat.le_trans h.hW g4.size⟩, g4.mono fun _ _ e => Or.inl e⟩
theorem Two.doc (h : Two B y b Rp Rd k W) : Doc W b Rd (y.n + k) W := ⟨h.d, h.n, h.v, Chg.refl _ _⟩
theorem Two.docS (h : Two B y b Rp Rd k W) {R' : List Pr} {W2 : World} (hq : Doc W b R' (y.n + k + 2) W2) : Two B y b Rp R' (k + 2) W2 ∧ Chg W W2 (FT y b) := by
  obtain ⟨n, f, h1, h2, h3⟩ := h.p
  exact ⟨⟨⟨n, f, h1.chgB h.d hq.c, h2, by omega⟩, hq.s, by have := hq.n; omega, hq.v, h.hy, h.hb, Nat.le_trans h.hW hq.c.size⟩, hq.c.mono fun _ _ e => Or.inr e⟩
theorem Two.mint (h : Two B y b Rp Rd k W) (hn : y.n + k + 2 ≤ 100000000) (a d : ByteArray) (x : U4) (hx : x.ok) (ha : a.size ≤ 100000000) (hd : d.size ≤ 100000000) :
    Calls Tryz.prog 113 #[.pointer (some ⟨y.b, 0, none⟩), .string a, .string d, x.val] W fun e w' => e = .returned (.int .i64 (mintM Rp a d x).1) ∧ Two B y b (mintM Rp a d x).2 Rd (k + 2) w' ∧ Chg W w' (FT y b) := by
  obtain ⟨n, f, h1, h2, h3⟩ := h.p
  refine (mint_any h1 h2 (show n + 2 ≤ maxLen by unfold maxLen; omega) a d x hx ha hd).mono ?_
  rintro e w' ⟨he, hq⟩
  exact ⟨he, h.bankS h3 h1 hq⟩
theorem Two.burn (h : Two B y b Rp Rd k W) (hn : y.n + k + 2 ≤ 100000000) (a d : ByteArray) (x : U4) (hx : x.ok) (ha : a.size ≤ 100000000) (hd : d.size ≤ 100000000) :
    Calls Tryz.prog 192 #[.pointer (some ⟨y.b, 0, none⟩), .string a, .string d, x.val] W fun e w' => e = .returned (.int .i64 (burnM Rp a d x).1) ∧ Two B y b (burnM Rp a d x).2 Rd (k + 2) w' ∧ Chg W w' (FT y b) := by
  obtain ⟨n, f, h1, h2, h3⟩ := h.p
  refine (burn_any h1 h2 (show n + 2 ≤ maxLen by unfold maxLen; omega) a d x hx ha hd).mono ?_
  rintro e w' ⟨he, hq⟩
  exact ⟨he, h.bankS h3 h1 hq⟩
theorem Two.send (h : Two B y b Rp Rd k W) (hn : y.n + k + 2 ≤ 100000000) (a c d : ByteArray) (x : U4) (hx : x.ok) (ha : a.size ≤ 100000000) (hc : c.size ≤ 100000000) (hd : d.size ≤ 100000000) :
    Calls Tryz.prog 114 #[.pointer (some ⟨y.b, 0, none⟩), .string a, .string c, .string d, x.val] W fun e w' => e = .returned (.int .i64 (sendM Rp a c d x).1) ∧ Two B y b (sendM Rp a c d x).2 Rd (k + 2) w' ∧ Chg W w' (FT y b) := by
  obtain ⟨n, f, h1, h2, h3⟩ := h.p
  refine (send_any h1 h2 (show n + 2 ≤ maxLen by unfold maxLen; omega) a c d x hx ha hc hd).mono ?_
  rintro e w' ⟨he, hq⟩
  exact ⟨he, h.bankS h3 h1 hq⟩
theorem Two.rmint (h : Two B y b Rp Rd k W) (hn : y.n + k + 2 ≤ 100000000) (a d : ByteArray) (x : U4) (hx : x.ok) (ha : a.size ≤ 100000000) (hd : d.size ≤ 100000000) :
    Calls Tryz.prog 116 #[.pointer (some ⟨b, 0, none⟩), .string a, .string d, x.val] W fun e w' => e = .returned (.int .i64 (mintM Rd a d x).1) ∧ Two B y b Rp (mintM Rd a d x).2 (k + 2) w' ∧ Chg W w' (FT y b) := by
  refine (rmint_any h.doc hn a d x hx ha hd).mono ?_
  rintro e w' ⟨he, hq⟩
  exact ⟨he, h.docS hq⟩
theorem Two.rsend (h : Two B y b Rp Rd k W) (hn : y.n + k + 2 ≤ 100000000) (a c d : ByteArray) (x : U4) (hx : x.ok) (ha : a.size ≤ 100000000) (hc : c.size ≤ 100000000) (hd : d.size ≤ 100000000) :
    Calls Tryz.prog 117 #[.pointer (some ⟨b, 0, none⟩), .string a, .string c, .string d, x.val] W fun e w' => e = .returned (.int .i64 (sendM Rd a c d x).1) ∧ Two B y b Rp (sendM Rd a c d x).2 (k + 2) w' ∧ Chg W w' (FT y b) := by
  refine (rsend_any h.doc hn a c d x hx ha hc hd).mono ?_
  rintro e w' ⟨he, hq⟩
  exact ⟨he, h.docS hq⟩
theorem Two.bal (h : Two B y b Rp Rd k W) (a d : ByteArray) (ha : a.size ≤ 100000000) (hd : d.size ≤ 100000000) :
    Calls Tryz.prog 163 #[.pointer (some ⟨y.b, 0, none⟩), .string a, .string d] W fun e w' => e = .returned (balM Rp a d).val ∧ Below W.heap.size W w' := by
  obtain ⟨n, f, h1, h2, h3⟩ := h.p
  rw [← balV_seen h2 a d]
  exact bal_any h1 a d ha hd
theorem Two.sup (h : Two B y b Rp Rd k W) (d : ByteArray) (hd : d.size ≤ 100000000) :
    Calls Tryz.prog 202 #[.pointer (some ⟨y.b, 0, none⟩), .string d] W fun e w' => e = .returned (supM Rp d).val ∧ Below W.heap.size W w' := by
  obtain ⟨n, f, h1, h2, h3⟩ := h.p
  rw [← supV_seen h2 d]
  exact supply_any h1 d hd
theorem Two.docR (h : Two B y b Rp Rd k W) (hn : y.n + k ≤ 100000000) : DocR W b Rd := ⟨h.d, Nat.le_trans h.n hn, h.v⟩
end
end Go.Proofs.YtlkkjnacolmmpaaGreatDoor
namespace Go.Proofs.YtlkkjnacolmmpaaGreatDoor
set_option maxRecDepth 100000
open Go Go.RowKit
set_option linter.unusedVariables false

end Go.Proofs.YtlkkjnacolmmpaaGreatDoor
namespace Go.Proofs.YtlkkjnacolmmpaaGreatDoor
set_option maxRecDepth 100000
open Go Go.RowKit
set_option linter.unusedVariables false

def BOp.step (R : List Pr) (o : BOp) : List Pr := stepM R o.kd o.a o.c o.d o.x
section
variable {R : List Pr} {a b c d : ByteArray} {x : U4}
theorem CanonL.step (h : CanonL R) (o : BOp) : CanonL (o.step R) := by
  unfold BOp.step stepM
  split
  · exact h.change addU_ok'
  · split
    · exact h.change subU_ok'
    · split
      · exact h.send
      · exact h
end
theorem Two.acc {B : Nat} {y : Lyr} {b k : Nat} {Rp Rd : List Pr} {W : World} (h : Two B y b Rp Rd k W) : ∃ n f, n ≤ y.n + k ∧ Rise Rp ∧ Acc W ⟨y.b, y.m, n, f⟩ Rp 0 W := by
  obtain ⟨n, f, h1, h2, h3⟩ := h.p
  exact ⟨n, f, h3, h2.rise, ⟨BankS.refl h1 h2, h1⟩⟩
end Go.Proofs.YtlkkjnacolmmpaaGreatDoor
