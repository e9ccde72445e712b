
/- A bank's store, behind calls; the law's fixed answers about banks, walked. The law's fixed answers about banks, walked. A bank's store: its root. -/
import Derived.Test.YtaafaaoioleokaaGreatDoorBankE
import Derived.Test.YtaafaaoioleokaaGreatDoorStoS2
import Derived.Test.YtaafaaoioleokaaGreatDoorStoR
namespace Go.Proofs.YtaafaaoioleokaaGreatDoor
set_option maxRecDepth 100000
open Go Go.RowKit
set_option linter.unusedVariables false

/-- pairs stay where maps alone have turned -/
theorem RdP.kept {w w' : World} {v : Value} {ps : List Pr} (h : RdP w w.heap.size v ps) (hk : Kept w w') : RdP w' w'.heap.size v ps := by
  have hsz : w.heap.size ≤ w'.heap.size := by obtain ⟨F, h1, _⟩ := hk; exact h1.size
  obtain ⟨A, c, hv, h1, h2, hp⟩ := h
  refine ⟨A, c, hv, h1, h2, fun h0 => ?_⟩
  obtain ⟨b, o, hA, hb, hcell⟩ := hp h0
  refine ⟨b, o, hA, by omega, fun j hj => ?_⟩
  obtain ⟨q1, x, q2, q3⟩ := hcell j hj
  exact ⟨hk.cell q1, x, hk.cell q2, hk.rd q3⟩
theorem Kept.of_below {w w' : World} (h : Below w.heap.size w w') : Kept w w' := ⟨fun _ => False, Chg.of_below h _, fun _ k => k.elim⟩

theorem Kept.trans {w w1 w2 : World} (h : Kept w w1) (k : Kept w1 w2) : Kept w w2 := by
  obtain ⟨F, h1, h2⟩ := h
  obtain ⟨G, k1, k2⟩ := k
  have hm : ∀ q, G q → q < w.heap.size → ¬ F q → ∃ es c, w.heap[q]? = some (.map es c) := fun q hq hl hn => by
    obtain ⟨es, c, e⟩ := k2 q hq
    exact ⟨es, c, (h1.block q hl hn).symm.trans e⟩
  refine ⟨fun q => q < w.heap.size ∧ (F q ∨ G q), ⟨k1.os.trans h1.os, k1.tape.trans h1.tape, k1.output.trans h1.output, Nat.le_trans h1.size k1.size, fun q hq hn => ?_⟩, fun q hq => ?_⟩
  · have hF : ¬ F q := fun e => hn ⟨hq, Or.inl e⟩
    have hG : ¬ G q := fun e => hn ⟨hq, Or.inr e⟩
    exact (k1.block q (Nat.lt_of_lt_of_le hq h1.size) hG).trans (h1.block q hq hF)
  · obtain ⟨hl, hq⟩ := hq
    by_cases hF : F q
    · exact h2 q hF
    · exact hm q (hq.resolve_left hF) hl hF
/-- a bank's store behind calls: made at W, R is seen of it -/
structure Acc (W : World) (y : Lyr) (R : List Pr) (k : Nat) (W' : World) : Prop where
  b : BankS W y [] R k W'
  p : PileS W [y]
section
variable {W W' W2 : World} {y : Lyr} {R R2 : List Pr} {k : Nat} {B : Nat}
theorem Acc.kept (h : Acc W y R k W') : Kept W W' := by
  obtain ⟨n, f, -, -, -, h4⟩ := h.b
  exact ⟨_, h4, h.p.1.maps⟩
theorem Acc.below (h : Acc W y R k W') (hB : B ≤ y.m) (hW : B ≤ W.heap.size) : Below B W W' := by
  obtain ⟨n, f, -, -, -, h4⟩ := h.b
  exact h4.below (fun k e => by rw [e]; exact hB) hW
theorem Acc.up (h : Acc W y R k W') (hb : Below W'.heap.size W' W2) : Acc W y R k W2 := ⟨h.b.up hb (Nat.le_refl k), h.p⟩
theorem Acc.made {ps : List Pr} (h : PileS W [y]) (hl : LyrIs ps y) (hr : Rise ps) (hs : ∀ p ∈ ps, p.1.size ≤ maxLen) : Acc W y ps 0 W := ⟨BankS.refl h (seen_bot0 hl hr hs), h⟩
theorem Acc.bal (h : Acc W y R k W') (a d : ByteArray) (ha : a.size ≤ 100000000) (hd : d.size ≤ 100000000) :
    Calls Tryz.prog 45 #[.pointer (some ⟨y.b, 0, none⟩), .string a, .string d] W' fun e w' => e = .returned (balM R a d).val ∧ Below W'.heap.size W' w' := by
  obtain ⟨n, f, h1, h2, h3, h4⟩ := h.b
  rw [← balV_seen h2 a d]
  exact bal_any h1 a d ha hd
theorem Acc.sup (h : Acc W y R k W') (d : ByteArray) (hd : d.size ≤ 100000000) :
    Calls Tryz.prog 160 #[.pointer (some ⟨y.b, 0, none⟩), .string d] W' fun e w' => e = .returned (supM R d).val ∧ Below W'.heap.size W' w' := by
  obtain ⟨n, f, h1, h2, h3, h4⟩ := h.b
  rw [← supV_seen h2 d]
  exact supply_any h1 d hd
theorem BankS.join {n : Nat} {f : LF} {j : Nat} (h3 : n ≤ y.n + k) (h4 : Chg W W' (fun k => k = y.m)) (h : BankS W' ⟨y.b, y.m, n, f⟩ [] R2 j W2) : BankS W y [] R2 (k + j) W2 := by
  obtain ⟨n', f', g1, g2, g3, g4⟩ := h
  dsimp only at g1 g2 g3 g4
  exact ⟨n', f', g1, g2, by omega, h4.trans' g4⟩
theorem Acc.mint (h : Acc W y R k W') (hn : y.n + k + 2 ≤ maxLen) (a d : ByteArray) (x : U4) (hx : x.ok) (ha : a.size ≤ 100000000) (hd : d.size ≤ 100000000) :
    Calls Tryz.prog 44 #[.pointer (some ⟨y.b, 0, none⟩), .string a, .string d, x.val] W' fun e w' => e = .returned (.int .i64 (mintM R a d x).1) ∧ Acc W y (mintM R a d x).2 (k + 2) w' ∧ Kept W' w' := by
  obtain ⟨n, f, h1, h2, h3, h4⟩ := h.b
  refine (mint_any h1 h2 (show n + 2 ≤ maxLen by omega) a d x hx ha hd).mono ?_
  rintro e w' ⟨he, hb⟩
  exact ⟨he, ⟨BankS.join h3 h4 hb, h.p⟩, Acc.kept ⟨hb, h1⟩⟩
theorem Acc.send (h : Acc W y R k W') (hn : y.n + k + 2 ≤ maxLen) (a b d : ByteArray) (x : U4) (hx : x.ok) (ha : a.size ≤ 100000000) (hb : b.size ≤ 100000000) (hd : d.size ≤ 100000000) :
    Calls Tryz.prog 54 #[.pointer (some ⟨y.b, 0, none⟩), .string a, .string b, .string d, x.val] W' fun e w' => e = .returned (.int .i64 (sendM R a b d x).1) ∧ Acc W y (sendM R a b d x).2 (k + 2) w' ∧ Kept W' w' := by
  obtain ⟨n, f, h1, h2, h3, h4⟩ := h.b
  refine (send_any h1 h2 (show n + 2 ≤ maxLen by omega) a b d x hx ha hb hd).mono ?_
  rintro e w' ⟨he, hq⟩
  exact ⟨he, ⟨BankS.join h3 h4 hq, h.p⟩, Acc.kept ⟨hq, h1⟩⟩
theorem Acc.pairs (h : Acc W y R k W') (hn : y.n + k ≤ 1000000000) (pfx : ByteArray) (hp : pfx.size ≤ maxLen) :
    Calls Tryz.prog 9 #[.pointer (some ⟨y.b, 0, none⟩), .string pfx] W' fun e w' => ∃ v, e = .returned v ∧ OutP w' W'.heap.size v (R.filter (fun p => begB pfx p.1)) ∧ Below W'.heap.size W' w' := by
  obtain ⟨n, f, h1, h2, h3, h4⟩ := h.b
  have hs : SeenL pfx [⟨y.b, y.m, n, f⟩] (R.filter (fun p => begB pfx p.1)) := ⟨h2.rise.filter _, fun p hp => h2.small p (List.mem_filter.1 hp).1, fun s hs => by
    have := h2.get s hs
    rw [begB_empty, if_pos rfl] at this
    rw [getL_filter, this]⟩
  exact pairs_any h1 (by simp [sumN]; omega) pfx hp hs
end
theorem filter_all {R : List Pr} : R.filter (fun p => begB ⟨#[]⟩ p.1) = R := List.filter_eq_self.2 fun p _ => begB_empty _

/-! ### what the law's fixed answers come to -/
def kAnn : ByteArray := ⟨#[97, 110, 110]⟩
def kBob : ByteArray := ⟨#[98, 111, 98]⟩
def kAtom : ByteArray := ⟨#[97, 116, 111, 109]⟩
def fixR1 : List Pr := (mintM [] kAnn kAtom ⟨10, 0, 0, 0⟩).2
def fixR2 : List Pr := (sendM fixR1 kAnn kBob kAtom ⟨4, 0, 0, 0⟩).2
theorem fixM1 : (mintM [] kAnn kAtom ⟨10, 0, 0, 0⟩).1 = 0 := by decide +kernel
theorem fixM2 : (sendM fixR1 kAnn kBob kAtom ⟨4, 0, 0, 0⟩).1 = 0 := by decide +kernel
theorem fixM3 : eqB (balM fixR2 kAnn kAtom) ⟨6, 0, 0, 0⟩ = true := by decide +kernel
theorem fixM4 : eqB (supM fixR2 kAtom) ⟨10, 0, 0, 0⟩ = true := by decide +kernel
theorem fixM5 : (sendM fixR2 kAnn kBob kAtom ⟨7, 0, 0, 0⟩).1 = 71 := by decide +kernel
end Go.Proofs.YtaafaaoioleokaaGreatDoor
namespace Go.Proofs.YtaafaaoioleokaaGreatDoor
set_option maxRecDepth 100000
open Go Go.RowKit
set_option linter.unusedVariables false

end Go.Proofs.YtaafaaoioleokaaGreatDoor
namespace Go.Proofs.YtaafaaoioleokaaGreatDoor
set_option maxRecDepth 100000
open Go Go.RowKit
set_option linter.unusedVariables false

theorem Kept.block {w w' : World} (h : Kept w w') {b : Nat} {cs : Array Value} {t : TypeId} {fr : Nat × Nat} (hb : w.heap[b]? = some (.cells cs t fr)) : w'.heap[b]? = some (.cells cs t fr) := by
  obtain ⟨F, h1, h2⟩ := h
  have hn : ¬ F b := fun k => by
    obtain ⟨es, c, e⟩ := h2 _ k
    rw [hb] at e; cases e
  exact (h1.block b (blk_lt hb) hn).trans hb
theorem Acc.root {W W' : World} {y : Lyr} {R : List Pr} {k : Nat} (h : Acc W y R k W') (hn : y.n + k ≤ 1000000000) (fr : TypeId × Nat × Nat) (hk : W'.heap[2]? = some (.cells kVals fr.1 fr.2)) :
    Calls Tryz.prog 10 #[.pointer (some ⟨y.b, 0, none⟩)] W' fun e w' => ∃ v, e = .returned v ∧ Own w' W'.heap.size v (rootM R).1 ∧ Below W'.heap.size W' w' := by
  obtain ⟨n, f, h1, h2, h3, h4⟩ := h.b
  exact sroot_any h1 (by simp [sumN]; omega) h2 fr hk
end Go.Proofs.YtaafaaoioleokaaGreatDoor
