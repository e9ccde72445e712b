/- Texts joined: Bra0, StB, ChnT, OpenB0, OpenM0, OpenG1. -/
import Derived.Test.YtmphegeiclgjbaaGreatDoorM10
import Derived.Test.YtmphegeiclgjbaaGreatDoorM14
import Derived.Test.YtmphegeiclgjbaaGreatDoorM18
import Derived.Test.YtmphegeiclgjbaaGreatDoorRows
import Derived.Test.YtmphegeiclgjbaaGreatDoorM01
import Derived.ProofKit
import Derived.OpenShut
import Derived.ShutString
import Derived.JoinedCond
import Derived.Deep.Slices
import Derived.Deep.Fields
import Derived.Carry
import Derived.Test.YtmphegeiclgjbaaGreatDoorM04
import Derived.Deep.Grids
import Derived.Test.YtmphegeiclgjbaaGreatDoorM06
import Derived.Test.YtmphegeiclgjbaaGreatDoorM07
import Derived.Laws.IdiomArrays
namespace Go.Proofs.YtmphegeiclgjbaaGreatDoor
set_option maxRecDepth 100000
open Go Go.RowKit
set_option linter.unusedVariables false

theorem SeenL.written {pfx : ByteArray} {y z : Lyr} {l : List Lyr} {R : List Pr} (h : SeenL pfx (y :: z :: l) R) {b m n : Nat} {f : LF} (hf : ∀ s : ByteArray, s.size ≤ maxLen → f s = wrF l.isEmpty y.f z.f (fun _ => false) s) : SeenL pfx (⟨b, m, n, f⟩ :: l) R where
  rise := h.rise
  small := h.small
  get := fun s hs => by
    rw [h.get s hs]
    have e : visV (⟨b, m, n, f⟩ :: l) s = visV (y :: z :: l) s := by
      unfold visV
      rw [visD_cons, visD_cons, visD_cons]
      have hq := hf s hs
      unfold wrF at hq
      rw [if_neg (by simp)] at hq
      dsimp only
      rw [hq]
      cases hy : y.f s with
      | none => rfl
      | some x =>
        dsimp only
        unfold wrC
        split
        · next hx =>
          obtain ⟨h1, h2⟩ := hx
          subst h2
          have : l = [] := by simpa using h1
          subst this
          rfl
        · rfl
    rw [e]
section
variable {W W' W2 : World} {y z : Lyr} {l : List Lyr} {R R2 : List Pr} {k j : Nat} {B : Nat}
/-- a branch z of a store y: R is seen of the store, R2 of the branch -/
structure Bra (W : World) (y : Lyr) (l : List Lyr) (R : List Pr) (k : Nat) (z : Lyr) (R2 : List Pr) (j : Nat) (W' : World) : Prop where
  ex : ∃ W1 n f, SeenL ⟨#[]⟩ (⟨y.b, y.m, n, f⟩ :: l) R ∧ n ≤ y.n + k ∧ Chg W W1 (fun q => q = y.m) ∧ At W1 z (⟨y.b, y.m, n, f⟩ :: l) R2 j W' ∧ W.heap.size ≤ z.m
  p : PileS W (y :: l)
  zn : z.n = 0
theorem At.branch (h : At W y l R k W') : Calls Tryz.prog 26 #[.pointer (some ⟨y.b, 0, none⟩)] W' fun e w' => ∃ z : Lyr, e = .returned (.pointer (some ⟨z.b, 0, none⟩)) ∧ W'.heap.size ≤ z.b ∧ W'.heap.size ≤ z.m ∧ Bra W y l R k z R 0 w' ∧ Below W'.heap.size W' w' := by
  obtain ⟨n, f, h1, h2, h3, h4⟩ := h.b
  refine (branch_any h1).mono ?_
  rintro e w' ⟨b, m, rfl, hb, hm, hp, hq⟩
  refine ⟨⟨b, m, 0, fun _ => none⟩, rfl, hb, hm, ⟨⟨w', n, f, h2, h3, h4.trans' (.of_below hq _), ⟨BankS.refl hp ⟨h2.rise, h2.small, fun s hs => ?_⟩, hp⟩, Nat.le_trans h4.size hm⟩, h.p, rfl⟩, hq⟩
  rw [h2.get s hs]
  rfl
theorem Bra.up (h : Bra W y l R k z R2 j W') (hb : Below W'.heap.size W' W2) : Bra W y l R k z R2 j W2 := by
  obtain ⟨W1, n, f, h1, h2, h3, h4, h5⟩ := h.ex
  exact ⟨⟨W1, n, f, h1, h2, h3, h4.up hb, h5⟩, h.p, h.zn⟩
theorem Chg.over (h1 : Chg W W' (fun q => q = y.m)) (h2 : Chg W' W2 (fun q => q = z.m ∨ q = y.m)) (hz : W.heap.size ≤ z.m) : Chg W W2 (fun q => q = y.m) :=
  ⟨h2.os.trans h1.os, h2.tape.trans h1.tape, h2.output.trans h1.output, Nat.le_trans h1.size h2.size, fun q hq hn => (h2.block q (Nat.lt_of_lt_of_le hq h1.size) (fun (e : q = z.m ∨ q = y.m) => e.elim (fun e => by omega) (fun e => hn e))).trans (h1.block q hq hn)⟩
/-- a branch that is left -/
theorem Bra.back (h : Bra W y l R k z R2 j W') : At W y l R k W' := by
  obtain ⟨W1, n, f, h1, h2, h3, h4, h5⟩ := h.ex
  obtain ⟨n', f', g1, g2, g3, g4⟩ := h4.b
  exact ⟨⟨n, f, g1.tail, h1, h2, Chg.over h3 (g4.mono fun _ _ e => .inl e) h5⟩, h.p⟩
end
end Go.Proofs.YtmphegeiclgjbaaGreatDoor
namespace Go.Proofs.YtmphegeiclgjbaaGreatDoor
set_option maxRecDepth 100000
open Go Go.RowKit
set_option linter.unusedVariables false

/-- a branch z of the first of two stores -/
structure StB (w : World) (b m b' m' : Nat) (R R' : List Pr) (N : Nat) (z : Lyr) (R2 : List Pr) (j : Nat) (Z : World) : Prop where
  ex : ∃ (Z0 : World) (n : Nat) (f : LF), Sts w b m b' m' R R' N Z0 ∧ n ≤ N ∧ Bra Z0 ⟨b, m, n, f⟩ [] R 0 z R2 j Z
section
variable {w Z Z' : World} {b m b' m' N j : Nat} {R R' R2 : List Pr} {z : Lyr}
theorem Sts.branch (h : Sts w b m b' m' R R' N Z) : Calls Tryz.prog 26 #[.pointer (some ⟨b, 0, none⟩)] Z fun e w' => ∃ z : Lyr, e = .returned (.pointer (some ⟨z.b, 0, none⟩)) ∧ StB w b m b' m' R R' N z R 0 w' ∧ Below Z.heap.size Z w' := by
  obtain ⟨n, f, hn, A⟩ := h.at
  refine A.branch.mono ?_
  rintro e w' ⟨z, he, -, -, hB, hb⟩
  exact ⟨z, he, ⟨Z, n, f, h, hn, hB⟩, hb⟩
theorem StB.up (h : StB w b m b' m' R R' N z R2 j Z) (hb : Below Z.heap.size Z Z') : StB w b m b' m' R R' N z R2 j Z' := by
  obtain ⟨Z0, n, f, h1, h2, h3⟩ := h.ex
  exact ⟨Z0, n, f, h1, h2, h3.up hb⟩
theorem StB.at (h : StB w b m b' m' R R' N z R2 j Z) : ∃ W n f, At W ⟨b, m, n, f⟩ [] R 0 Z := by
  obtain ⟨Z0, n, f, h1, h2, h3⟩ := h.ex
  exact ⟨Z0, n, f, h3.back⟩
theorem StB.back (h : StB w b m b' m' R R' N z R2 j Z) : Sts w b m b' m' R R' N Z := by
  obtain ⟨Z0, n, f, h1, h2, h3⟩ := h.ex
  exact h1.step h2 h3.back
/-- what is done to the branch -/
theorem StB.op (h : StB w b m b' m' R R' N z R2 j Z) : ∃ (W1 : World) (l : List Lyr), At W1 z l R2 j Z ∧ z.n = 0 ∧ ∀ (R3 : List Pr) (j' : Nat) (Z' : World), At W1 z l R3 j' Z' → StB w b m b' m' R R' N z R3 j' Z' := by
  obtain ⟨Z0, n, f, h1, h2, h3⟩ := h.ex
  obtain ⟨W1, n', f', g1, g2, g3, g4, g5⟩ := h3.ex
  exact ⟨W1, _, g4, h3.zn, fun R3 j' Z' A => ⟨Z0, n, f, h1, h2, ⟨W1, n', f', g1, g2, g3, A, g5⟩, h3.p, h3.zn⟩⟩
end
/-- two stores in the array's box, of which something is known -/
structure LSP (w : World) (b1 m1 b2 m2 g N : Nat) (P : List Pr → Prop) (Z : World) : Prop where
  s : ∃ R1 R2, P R1 ∧ P R2 ∧ Sts w b1 m1 b2 m2 R1 R2 N Z
  x : Z.cell? ⟨g, 0, none⟩ = some (.pointer (some ⟨b1, 0, none⟩))
  y : Z.cell? ⟨g, 1, none⟩ = some (.pointer (some ⟨b2, 0, none⟩))
section
variable {w Z : World} {b1 m1 b2 m2 g N : Nat} {P : List Pr → Prop}
theorem LSP.bel (h : LSP w b1 m1 b2 m2 g N P Z) : Below w.heap.size w Z := by
  obtain ⟨⟨R1, R2, p1, p2, hs⟩, hx, hy⟩ := h
  exact hs.bel
theorem LSP.pick (h : LSP w b1 m1 b2 m2 g N P Z) (q : Int) (hq : q = 0 ∨ q = 1) :
    ∃ (i b m b' m' : Nat) (R R' : List Pr), q = (i : Int) ∧ i < 2 ∧ P R ∧ Sts w b m b' m' R R' N Z ∧ Z.cell? ⟨g, i, none⟩ = some (.pointer (some ⟨b, 0, none⟩)) ∧
      ∀ (P2 : List Pr → Prop) (_ : ∀ S, P S → P2 S) (R2 : List Pr) (Z' : World) (N' : Nat), P2 R2 → Sts w b m b' m' R2 R' N' Z' → Kept Z Z' → LSP w b1 m1 b2 m2 g N' P2 Z' := by
  obtain ⟨⟨R1, R2, p1, p2, hs⟩, hx, hy⟩ := h
  rcases hq with rfl | rfl
  · exact ⟨0, b1, m1, b2, m2, R1, R2, rfl, by decide, p1, hs, hx, fun P2 hP R3 Z' N' hR h1 hk => ⟨⟨R3, R2, hR, hP _ p2, h1⟩, hk.cell hx, hk.cell hy⟩⟩
  · exact ⟨1, b2, m2, b1, m1, R2, R1, rfl, by decide, p2, hs.swap, hy, fun P2 hP R3 Z' N' hR h1 hk => ⟨⟨R1, R3, hP _ p1, hR, h1.swap⟩, hk.cell hx, hk.cell hy⟩⟩
end
end Go.Proofs.YtmphegeiclgjbaaGreatDoor
namespace Go.Proofs.YtmphegeiclgjbaaGreatDoor
set_option maxRecDepth 100000
open Go Go.RowKit
set_option linter.unusedVariables false
set_option maxHeartbeats 8000000 in
theorem chstores_any (w : World) (v1 v2 : Value) (ps1 ps2 : List Pr) (h1 : RdP w w.heap.size v1 ps1) (h2 : RdP w w.heap.size v2 ps2) (n1 : ∀ p ∈ ps1, p.1.size ≤ maxLen) (n2 : ∀ p ∈ ps2, p.1.size ≤ maxLen) (l1 : ps1.length ≤ 2000000) (l2 : ps2.length ≤ 2000000) :
    Calls Tryz.prog 37 #[v1, v2] w fun e w' => ∃ p1 p2 ok, e = .returned (.tuple #[.agg #[.pointer p1, .pointer p2], .bool ok]) ∧ Below w.heap.size w w' ∧ (ok = true → ∃ b1 m1 b2 m2, p1 = some ⟨b1, 0, none⟩ ∧ p2 = some ⟨b2, 0, none⟩ ∧ Sts w b1 m1 b2 m2 ps1 ps2 2000000 w' ∧ ps1.filter (fun p => begB ibcP p.1) = [] ∧ ps2.filter (fun p => begB ibcP p.1) = []) := by
  have HN1 := Lib.hid (fun (Z : World) (hz : Below w.heap.size w Z) => new_any Z v1 ps1 (h1.keptP (Kept.of_belowX hz)) n1)
  have HN2 := Lib.hid (fun (Z : World) (hz : Below w.heap.size w Z) => new_any Z v2 ps2 (h2.keptP (Kept.of_belowX hz)) n2)
  have HL := Lib.hid (And.intro (And.intro n1 n2) (And.intro l1 l2))
  obtain ⟨A1, c1, rfl⟩ : ∃ A c, v1 = .slice A ps1.length c := by obtain ⟨A, c, h, _⟩ := h1; exact ⟨A, c, h⟩
  obtain ⟨A2, c2, rfl⟩ : ∃ A c, v2 = .slice A ps2.length c := by obtain ⟨A, c, h, _⟩ := h2; exact ⟨A, c, h⟩
  have hbox := heap_alloc_new w (.cells #[.pointer none, .pointer none] 25)
  have ha0 : Below w.heap.size w (w.alloc (.cells #[.pointer none, .pointer none] 25)) := (Below.refl _ _).alloc (Nat.le_refl _) _
  clear h1 h2 n1 n2 l1 l2
  go_enter Tryz.func37, Tryz.ntmps37
  go_wp2_with fail
  generalize hW0 : w.alloc (.cells #[.pointer none, .pointer none] 25) = W0 at *
  generalize hgg : w.heap.size = g0 at *
  have HBX := Lib.hid hbox
  have HA0 := Lib.hid (And.intro ha0 hgg)
  have HT : Hid (∀ Z1 Z2, Below g0 w Z1 → Below Z1.heap.size Z1 Z2 → Below g0 w Z2) := Lib.hid fun Z1 Z2 h k => h.trans (k.mono (by rw [← hgg]; exact h.size))
  clear hbox ha0 hW0 hgg
  refine (HN1.out _ HA0.out.1).mono ?_
  rintro e w1 ⟨⟨ho1, rfl⟩ | ⟨ho1, y1, rfl, hyb1, hym1, hyn1, hly1, hri1, hp1⟩, hb1⟩
  · have hq1 := HT.out _ _ HA0.out.1 hb1
    have hk1 := (hb1.block _ (blk_lt HBX.out)).trans HBX.out
    have HQ1 := Lib.hid (And.intro hq1 hk1)
    clear HN1 ho1 hb1 hq1 hk1
    go_wp2_with fail
    refine (HN2.out _ HQ1.out.1).mono ?_
    rintro e w2 ⟨⟨ho2, rfl⟩ | ⟨ho2, y2, rfl, -, -, -, -, -, -⟩, hb2⟩
    · have hq2 := HT.out _ _ HQ1.out.1 hb2
      have hk2 := (hb2.block _ (blk_lt HQ1.out.2)).trans HQ1.out.2
      clear HN2 ho2 hb2 HQ1
      have r0 : w2.cell? ⟨g0, 0, none⟩ = some (.pointer none) := blk_cell hk2 0
      have r1 : w2.cell? ⟨g0, 1, none⟩ = some (.pointer none) := blk_cell hk2 1
      have f0 := blk_free hk2 0
      have f1 := blk_free hk2 1
      have HQX := Lib.hid (And.intro hq2 hk2)
      clear hq2 hk2
      go_wp2_with fail
      have d := set2P HQX.out.2 (.pointer (none)) (.pointer (none))
      have d0 := blk_cell d 0
      have d1 := blk_cell d 1
      refine bodyPost_ret (v := .tuple #[.agg #[.pointer (none), .pointer (none)], .bool false]) ?_ rfl ⟨_, _, _, rfl, ?_, ?_⟩
      · simp at d0 d1
        simp [results, Tryz.results37, go_sem, d0, d1]
      · rw [HA0.out.2]
        exact below_set2P HQX.out.1 (Nat.le_refl _) _ _
      · intro h
        cases h
    · have hq2 := HT.out _ _ HQ1.out.1 hb2
      have hk2 := (hb2.block _ (blk_lt HQ1.out.2)).trans HQ1.out.2
      clear HN2 ho2 hb2 HQ1
      have r0 : w2.cell? ⟨g0, 0, none⟩ = some (.pointer none) := blk_cell hk2 0
      have r1 : w2.cell? ⟨g0, 1, none⟩ = some (.pointer none) := blk_cell hk2 1
      have f0 := blk_free hk2 0
      have f1 := blk_free hk2 1
      have HQX := Lib.hid (And.intro hq2 hk2)
      clear hq2 hk2
      go_wp2_with fail
      have d := set2P HQX.out.2 (.pointer (none)) (.pointer (some ⟨y2.b, 0, none⟩))
      have d0 := blk_cell d 0
      have d1 := blk_cell d 1
      refine bodyPost_ret (v := .tuple #[.agg #[.pointer (none), .pointer (some ⟨y2.b, 0, none⟩)], .bool false]) ?_ rfl ⟨_, _, _, rfl, ?_, ?_⟩
      · simp at d0 d1
        simp [results, Tryz.results37, go_sem, d0, d1]
      · rw [HA0.out.2]
        exact below_set2P HQX.out.1 (Nat.le_refl _) _ _
      · intro h
        cases h
  · have hq1 := HT.out _ _ HA0.out.1 hb1
    have hk1 := (hb1.block _ (blk_lt HBX.out)).trans HBX.out
    have HQ1 := Lib.hid (And.intro hq1 hk1)
    have HY1 := Lib.hid (And.intro hym1 (And.intro hyn1 (And.intro hly1 (And.intro hri1 (And.intro hp1 hb1)))))
    obtain ⟨y1b, y1m, y1n, y1f⟩ := y1
    dsimp only at hyb1 ⊢
    have HYB := Lib.hid hyb1
    clear HN1 ho1 hb1 hq1 hk1 hyb1 hym1 hyn1 hly1 hri1 hp1
    go_wp2_with fail
    refine (HN2.out _ HQ1.out.1).mono ?_
    rintro e w2 ⟨⟨ho2, rfl⟩ | ⟨ho2, y2, rfl, hyb2, hym2, hyn2, hly2, hri2, hp2⟩, hb2⟩
    · have hq2 := HT.out _ _ HQ1.out.1 hb2
      have hk2 := (hb2.block _ (blk_lt HQ1.out.2)).trans HQ1.out.2
      clear HN2 ho2 hb2 HQ1
      have r0 : w2.cell? ⟨g0, 0, none⟩ = some (.pointer none) := blk_cell hk2 0
      have r1 : w2.cell? ⟨g0, 1, none⟩ = some (.pointer none) := blk_cell hk2 1
      have f0 := blk_free hk2 0
      have f1 := blk_free hk2 1
      have HQX := Lib.hid (And.intro hq2 hk2)
      clear hq2 hk2
      go_wp2_with fail
      have d := set2P HQX.out.2 (.pointer (some ⟨y1b, 0, none⟩)) (.pointer (none))
      have d0 := blk_cell d 0
      have d1 := blk_cell d 1
      refine bodyPost_ret (v := .tuple #[.agg #[.pointer (some ⟨y1b, 0, none⟩), .pointer (none)], .bool false]) ?_ rfl ⟨_, _, _, rfl, ?_, ?_⟩
      · simp at d0 d1
        simp [results, Tryz.results37, go_sem, d0, d1]
      · rw [HA0.out.2]
        exact below_set2P HQX.out.1 (Nat.le_refl _) _ _
      · intro h
        cases h
    · have hS := Sts.made (w := w) (N := 2000000) (by rw [HA0.out.2]; exact HQ1.out.1) (y1 := ⟨y1b, y1m, y1n, y1f⟩) (by dsimp only; exact Nat.le_trans (by rw [HA0.out.2]; have := HA0.out.1.size; rw [HA0.out.2] at this; exact this) HY1.out.1) HY1.out.2.2.2.2.1 HY1.out.2.2.1 HY1.out.2.2.2.1 HL.out.1.1 HY1.out.2.1 HL.out.2.1 hb2 hym2 hp2 hly2 hri2 HL.out.1.2 hyn2 HL.out.2.2
      obtain ⟨y2b, y2m, y2n, y2f⟩ := y2
      dsimp only at hS hyb2 ⊢
      have hq2 := HT.out _ _ HQ1.out.1 hb2
      have hk2 := (hb2.block _ (blk_lt HQ1.out.2)).trans HQ1.out.2
      have HQ2 := Lib.hid (And.intro hq2 hk2)
      obtain ⟨n1, f1', hn1, hA1⟩ := hS.at
      obtain ⟨L1, hL1⟩ : ∃ L, L = ps1.filter (fun p => begB ibcP p.1) := ⟨_, rfl⟩
      have HP1 := Lib.hid (hA1.pairs (show n1 + 0 + 0 ≤ 1000000000 by omega) ibcP (by decide +kernel))
      rw [← hL1] at HP1
      have HL1 := Lib.hid hL1
      have HS2 := Lib.hid hS
      unfold ibcP at HP1
      clear HN2 ho2 hb2 HQ1 hq2 hk2 hyb2 hym2 hyn2 hly2 hri2 hp2 hS hn1 hA1 hL1 HY1 HYB
      go_wp2_with fail
      refine HP1.out.mono ?_
      rintro e w3 ⟨v3, rfl, ho3, hb3⟩
      obtain ⟨A3, c3, rfl⟩ := ho3.form
      have hS3 := HS2.out.up hb3
      have hq3 := HT.out _ _ HQ2.out.1 hb3
      have hk3 := (hb3.block _ (blk_lt HQ2.out.2)).trans HQ2.out.2
      clear HP1 ho3 hb3 HQ2 HS2
      by_cases z1 : L1.length = 0
      rotate_left
      · have i1 : ((L1.length : Int) == 0) = false := beq_eq_false_iff_ne.2 (by omega)
        have i2 : ¬ (L1.length : Int) = 0 := by omega
        have hk2 := hk3
        have hq2 := hq3
        clear hS3 z1 hq3 hk3
        generalize L1.length = n1 at *
        have r0 : w3.cell? ⟨g0, 0, none⟩ = some (.pointer none) := blk_cell hk2 0
        have r1 : w3.cell? ⟨g0, 1, none⟩ = some (.pointer none) := blk_cell hk2 1
        have f0 := blk_free hk2 0
        have f1 := blk_free hk2 1
        have HQX := Lib.hid (And.intro hq2 hk2)
        clear hq2 hk2
        go_wp2_with fail
        have d := set2P HQX.out.2 (.pointer (some ⟨y1b, 0, none⟩)) (.pointer (some ⟨y2b, 0, none⟩))
        have d0 := blk_cell d 0
        have d1 := blk_cell d 1
        refine bodyPost_ret (v := .tuple #[.agg #[.pointer (some ⟨y1b, 0, none⟩), .pointer (some ⟨y2b, 0, none⟩)], .bool false]) ?_ rfl ⟨_, _, _, rfl, ?_, ?_⟩
        · simp at d0 d1
          simp [results, Tryz.results37, go_sem, d0, d1]
        · rw [HA0.out.2]
          exact below_set2P HQX.out.1 (Nat.le_refl _) _ _
        · intro h
          cases h
      rw [z1]
      have HZ1 := Lib.hid (HL1.out.symm.trans (List.length_eq_zero_iff.1 z1))
      have HQ3 := Lib.hid (And.intro hq3 hk3)
      obtain ⟨n2, f2', hn2, hA2⟩ := hS3.swap.at
      obtain ⟨L2, hL2⟩ : ∃ L, L = ps2.filter (fun p => begB ibcP p.1) := ⟨_, rfl⟩
      have HP2 := Lib.hid (hA2.pairs (show n2 + 0 + 0 ≤ 1000000000 by omega) ibcP (by decide +kernel))
      rw [← hL2] at HP2
      have HL2 := Lib.hid hL2
      have HS3 := Lib.hid hS3
      unfold ibcP at HP2
      clear z1 hq3 hk3 hn2 hA2 hL2 hS3
      go_wp2_with fail
      refine HP2.out.mono ?_
      rintro e w4 ⟨v4, rfl, ho4, hb4⟩
      obtain ⟨A4, c4, rfl⟩ := ho4.form
      have hS4 := HS3.out.up hb4
      have hq2 := HT.out _ _ HQ3.out.1 hb4
      have hk2 := (hb4.block _ (blk_lt HQ3.out.2)).trans HQ3.out.2
      have HS4 := Lib.hid hS4
      clear HP2 ho4 hb4 HQ3 HS3 hS4
      by_cases z2 : L2.length = 0
      rotate_left
      · have i1 : ((L2.length : Int) == 0) = false := beq_eq_false_iff_ne.2 (by omega)
        have i2 : ¬ (L2.length : Int) = 0 := by omega
        clear z2
        generalize L2.length = n1 at *
        have r0 : w4.cell? ⟨g0, 0, none⟩ = some (.pointer none) := blk_cell hk2 0
        have r1 : w4.cell? ⟨g0, 1, none⟩ = some (.pointer none) := blk_cell hk2 1
        have f0 := blk_free hk2 0
        have f1 := blk_free hk2 1
        have HQX := Lib.hid (And.intro hq2 hk2)
        clear hq2 hk2
        go_wp2_with fail
        have d := set2P HQX.out.2 (.pointer (some ⟨y1b, 0, none⟩)) (.pointer (some ⟨y2b, 0, none⟩))
        have d0 := blk_cell d 0
        have d1 := blk_cell d 1
        refine bodyPost_ret (v := .tuple #[.agg #[.pointer (some ⟨y1b, 0, none⟩), .pointer (some ⟨y2b, 0, none⟩)], .bool false]) ?_ rfl ⟨_, _, _, rfl, ?_, ?_⟩
        · simp at d0 d1
          simp [results, Tryz.results37, go_sem, d0, d1]
        · rw [HA0.out.2]
          exact below_set2P HQX.out.1 (Nat.le_refl _) _ _
        · intro h
          cases h
      rw [z2]
      have HZ2 := Lib.hid (HL2.out.symm.trans (List.length_eq_zero_iff.1 z2))
      clear z2
      have r0 : w4.cell? ⟨g0, 0, none⟩ = some (.pointer none) := blk_cell hk2 0
      have r1 : w4.cell? ⟨g0, 1, none⟩ = some (.pointer none) := blk_cell hk2 1
      have f0 := blk_free hk2 0
      have f1 := blk_free hk2 1
      have HQX := Lib.hid (And.intro hq2 hk2)
      clear hq2 hk2
      go_wp2_with fail
      have d := set2P HQX.out.2 (.pointer (some ⟨y1b, 0, none⟩)) (.pointer (some ⟨y2b, 0, none⟩))
      have d0 := blk_cell d 0
      have d1 := blk_cell d 1
      refine bodyPost_ret (v := .tuple #[.agg #[.pointer (some ⟨y1b, 0, none⟩), .pointer (some ⟨y2b, 0, none⟩)], .bool true]) ?_ rfl ⟨_, _, _, rfl, ?_, ?_⟩
      · simp at d0 d1
        simp [results, Tryz.results37, go_sem, d0, d1]
      · rw [HA0.out.2]
        exact below_set2P HQX.out.1 (Nat.le_refl _) _ _
      · intro _
        refine ⟨y1b, y1m, y2b, y2m, rfl, rfl, ?_, HZ1.out, HZ2.out⟩
        exact HS4.out.offB (grown_set2B _ g0 _ _) HQX.out.2 (fun j z e => by match j, e with | 0, e => cases e | 1, e => cases e | j + 2, e => simp at e) (fun e => by cases e) (by rw [HA0.out.2]; exact Nat.le_refl _)
end Go.Proofs.YtmphegeiclgjbaaGreatDoor
namespace Go.Proofs.YtmphegeiclgjbaaGreatDoor
set_option maxRecDepth 100000
open Go.ChangeShapes Go.WideShapes Go.ChangeAt Go.RowKit Go.Deep

section
variable {H : Type} {enc : TypeId × Value → H} {P : Program} {w : World}

theorem bulk_pos (d : DataW H) : 1 ≤ Rows.uptoBulk d := by
  cases d with
  | lit l => cases l <;> simp [Rows.uptoBulk]
  | _ => simp [Rows.uptoBulk]
theorem bulk_mem {d : DataW H} {l : List (DataW H)} (h : d ∈ l) : Rows.uptoBulk d ≤ Rows.uptoBulkAll l := by
  induction l with
  | nil => cases h
  | cons x r ih =>
    simp only [Rows.uptoBulkAll]
    rcases List.mem_cons.1 h with e | e
    · subst e; omega
    · have := ih e; omega
theorem bulk_len (l : List (DataW H)) : l.length ≤ Rows.uptoBulkAll l := by
  induction l with
  | nil => simp
  | cons x r ih => have := bulk_pos x; simp only [Rows.uptoBulkAll, List.length_cons]; omega
theorem bulk_bound {l : List (DataW H)} (hk : Rows.uptoSmall H l = true) : Rows.uptoBulkAll l ≤ 1048576 := of_decide_eq_true hk

/-- a byte that an integer in range is -/
def byteOf (z : Int) : UInt8 := UInt8.ofNat z.toNat
theorem bval_byteOf {z : Int} (h : (Lit.int .u8 z).wf = true) : bval (byteOf z) = .int .u8 z := by
  have h2 : 0 ≤ z ∧ z ≤ 255 := by simpa [Lit.wf, IntKind.min, IntKind.max, IntKind.signed, IntKind.bits] using h
  unfold bval byteOf
  congr 1
  rw [UInt8.toNat_ofNat']
  omega

theorem addr_add_none (b o i : Nat) : (⟨b, o, none⟩ : Addr).add i = ⟨b, o + i, none⟩ := by unfold Addr.add; split <;> simp_all

theorem open_bytes {t : TypeId} {fuel : Nat} {v : Value} {x : DataW H × List MemPlace} (ht : P.underlying t = some (.slice 5)) (he : P.underlying 5 = some (.int .u8)) (hc : P.cellsOf 5 = 1)
    (h : DataW.trod enc P w 0 (fun _ => true) true fuel t [v] = some x) : ∃ l : List UInt8, Rd w w.heap.size v l ∧ l.length ≤ Rows.uptoBulk x.1 := by
  rcases open_ints ht he hc h with ⟨hcs, rfl⟩ | ⟨a, len, cap, zs, hcs, _, hl, hm, hz, hx, hcell, hwz⟩
  · simp at hcs
    subst hcs
    exact ⟨[], Rd.nil _ _, by simp⟩
  · simp at hcs
    subst hcs
    simp only [if_true] at hz
    have hlen : ((zs.take len).map byteOf).length = len := by simp; omega
    refine ⟨(zs.take len).map byteOf, ⟨some a, cap, by rw [hlen], by rw [hlen]; exact hl, hm, fun h0 => ?_⟩, ?_⟩
    · rw [hlen] at h0
      have hc0 := hcell 0 (by omega)
      obtain ⟨b, o, spot⟩ := a
      have hspot : spot = none := by simpa [Addr.add] using World.cell?_spot hc0
      subst hspot
      refine ⟨b, o, rfl, ?_, fun j hj => ?_⟩
      · have := World.block_lt_of_cell? w _ hc0
        simpa [Addr.add] using this
      · rw [hlen] at hj
        have hcj := hcell j (by omega)
        rw [addr_add_none] at hcj
        rw [hcj]
        have hw := hwz (zs.getD j 0) (by rw [List.getD_eq_getElem?_getD, List.getElem?_eq_getElem (by omega)]; exact List.getElem_mem _)
        rw [List.getElem_map, List.getElem_take, bval_byteOf]
        · simp [List.getD_eq_getElem?_getD, List.getElem?_eq_getElem (show j < zs.length by omega)]
        · simpa [List.getD_eq_getElem?_getD, List.getElem?_eq_getElem (show j < zs.length by omega)] using hw
    · rw [hx, hlen]
      simp only [Rows.uptoBulk]
      have := bulk_len (lits (H := H) .u8 (zs.take len))
      simp [lits] at this ⊢
      omega

end
end Go.Proofs.YtmphegeiclgjbaaGreatDoor
namespace Go.Proofs.YtmphegeiclgjbaaGreatDoor
set_option maxRecDepth 100000
open Go.ChangeShapes Go.WideShapes Go.ChangeAt Go.RowKit Go.Deep

theorem str_bulk {H : Type} {d : DataW H} {a : ByteArray} (e : d = .lit (.string a.data.toList)) : a.size ≤ Rows.uptoBulk d := by
  have ea : a.data.toList.length = a.size := by rw [Array.length_toList]; rfl
  rw [e]
  simp only [Rows.uptoBulk, ea]
  omega
end Go.Proofs.YtmphegeiclgjbaaGreatDoor
namespace Go.Proofs.YtmphegeiclgjbaaGreatDoor
set_option maxRecDepth 100000
open Go Go.ChangeShapes Go.WideShapes Go.ChangeAt Go.RowKit Go.Deep
set_option linter.unusedVariables false

theorem list2p {α : Type} {l : List α} (h : l.length = 2) : ∃ a b, l = [a, b] := by
  match l, h with
  | [a, b], _ => exact ⟨a, b, rfl⟩
theorem Tryz.pairFields : ∃ f0 f1 : Field, Tryz.prog.underlying 74 = some (.struct #[f0, f1]) ∧ f0.type = 9 ∧ f1.type = 32 ∧ Hid (oneCellFields Tryz.prog #[f0, f1] = true) :=
  ⟨_, _, Tryz.underlying74, rfl, rfl, (by kernel_rfl : oneCellFields Tryz.prog _ = true)⟩
instance : Inhabited (ByteArray × List UInt8) := ⟨(⟨#[]⟩, [])⟩
theorem addP_none (b o k : Nat) : ((⟨b, o, none⟩ : Addr).add k) = ⟨b, o + k, none⟩ := by simp [Addr.add]
theorem addP_zero (a : Addr) : a.add 0 = a := by
  obtain ⟨b, o, s⟩ := a
  cases s <;> simp [Addr.add]
theorem addP_none' (b o k : Nat) : ((⟨b, o, none⟩ : Addr).add k) = ⟨b, o + k, none⟩ := by simp [Addr.add]

theorem bulk_sumP {H : Type} (n : Nat) (D : Nat → DataW H) (L : Nat → ByteArray × List UInt8) (h : ∀ i, i < n → (L i).2.length ≤ Rows.uptoBulk (D i)) : (((List.range n).map L).map fun f => f.2.length).sum ≤ Rows.uptoBulkAll ((List.range n).map D) := by
  have : ∀ (l : List Nat), (∀ i ∈ l, (L i).2.length ≤ Rows.uptoBulk (D i)) → ((l.map L).map fun f => f.2.length).sum ≤ Rows.uptoBulkAll (l.map D) := by
    intro l
    induction l with
    | nil => intro _; simp
    | cons x l ih =>
      intro hl
      have h1 := ih fun i hi => hl i (by simp [hi])
      have h2 := hl x (by simp)
      simp only [List.map_cons, List.sum_cons, Rows.uptoBulkAll]
      omega
  exact this _ fun i hi => h i (List.mem_range.1 hi)

theorem open_pairs_arg {H : Type} {enc : TypeId × Value → H} {W : World} {v : Value} {d : DataW H} {p : List MemPlace} {base : Nat} (hv : Value.okWide Tryz.prog W .any base 22 v)
    (h : DataW.Trod enc Tryz.prog W 0 (fun _ => true) true 22 v d p) : ∃ fs : List (ByteArray × List UInt8), RdP W W.heap.size v fs ∧ (fs.map fun f => f.2.length).sum ≤ Rows.uptoBulk d ∧ fs.length ≤ Rows.uptoBulk d ∧ ∀ f ∈ fs, f.1.size ≤ maxLen := by
  obtain ⟨fuel, hf⟩ := h
  obtain ⟨b0, c0, k0, rfl⟩ := okWide_slice Tryz.underlying22 hv
  rcases open_slice Tryz.underlying22 hf with ⟨hcs, hx⟩ | ⟨a, len, cap, m, n, D, Pl, hcs, _, hl, hcm, hm, hx, hi⟩
  · simp [Value.cells] at hcs
    obtain ⟨rfl, rfl, rfl⟩ := hcs
    exact ⟨[], ⟨none, 0, rfl, by simp, by simp [maxLen], fun h => absurd h (by simp)⟩, by simp, by simp, by simp⟩
  · simp [Value.cells] at hcs
    obtain ⟨rfl, rfl, rfl⟩ := hcs
    simp only [if_true] at hm
    obtain rfl : m = k0 := hm
    simp only [Prod.mk.injEq] at hx
    have hall : ∀ i, i < m → ∃ f : ByteArray × List UInt8, ∃ x : Value, W.cell? (a.add (i * 2)) = some (.string f.1) ∧ W.cell? ((a.add (i * 2)).add 1) = some x ∧ Rd W W.heap.size x f.2 ∧ f.2.length ≤ Rows.uptoBulk (D i) ∧ f.1.size ≤ maxLen := fun i hi2 => by
      obtain ⟨cs, hc, ht⟩ := hi i hi2
      have h1 : Tryz.prog.cellsOf 74 = 2 := by kernel_rfl
      rw [h1] at hc
      obtain ⟨_, hcl, hat⟩ := World.cells?_some hc
      obtain ⟨x0, x1, rfl⟩ := list2p hcl
      obtain ⟨f0, f1, hu, e0, e1, ho⟩ := Tryz.pairFields
      obtain ⟨xs, n', _, hy, _, hlen, hg⟩ := DataW.trod_struct hu ht
      obtain ⟨y0, y1, rfl⟩ := list2p hlen
      have fld : ∀ (j : Nat) (f : Field), (#[f0, f1] : Array Field)[j]? = some f → f.offset = j ∧ Tryz.prog.cellsOf f.type = 1 := hone_of ho.out
      have g0 := hg 0 f0 rfl
      have g1 := hg 1 f1 rfl
      rw [(fld 0 f0 rfl).1, (fld 0 f0 rfl).2, e0] at g0
      rw [(fld 1 f1 rfl).1, (fld 1 f1 rfl).2, e1] at g1
      obtain ⟨s, q0, _, hs⟩ := DataW.trod_string Tryz.underlying9 g0
      obtain ⟨l, hr, hb⟩ := open_bytes (x := y1) Tryz.underlying32 Tryz.underlying5 (by kernel_rfl) g1
      simp at q0
      subst q0
      have a0 := hat 0 (by omega)
      have a1 := hat 1 (by omega)
      have ez : ∀ x : Addr, x.add 0 = x := fun x => addP_zero x
      rw [ez] at a0
      simp at a0 a1
      refine ⟨(s, l), x1, a0, a1, hr, ?_, hs⟩
      simp only [Prod.mk.injEq] at hy
      rw [hy.1]
      simp only [List.map_cons, List.map_nil, Rows.uptoBulk, Rows.uptoBulkAll]
      omega
    obtain ⟨L, hL⟩ := choose_lt (α := ByteArray × List UInt8) (p := fun i f => ∃ x : Value, W.cell? (a.add (i * 2)) = some (.string f.1) ∧ W.cell? ((a.add (i * 2)).add 1) = some x ∧ Rd W W.heap.size x f.2 ∧ f.2.length ≤ Rows.uptoBulk (D i) ∧ f.1.size ≤ maxLen) hall
    have hs := bulk_sumP (H := H) c0 D L fun i hi2 => by obtain ⟨_, _, _, _, h, _⟩ := hL i (by omega); exact h
    refine ⟨(List.range c0).map L, ⟨some a, m, by simp, by simpa using hl, hcm, fun h0 => ?_⟩, ?_, ?_, ?_⟩
    · simp at h0
      obtain ⟨x0, q0, _⟩ := hL 0 (by omega)
      obtain ⟨b, o, spot⟩ := a
      have hspot : spot = none := by simpa [Addr.add] using World.cell?_spot q0
      subst hspot
      refine ⟨b, o, rfl, ?_, fun j hj => ?_⟩
      · have := World.block_lt_of_cell? W _ q0
        simpa [Addr.add] using this
      · simp at hj
        obtain ⟨x, qx, qy, hr, _⟩ := hL j (by omega)
        rw [addP_none', addP_none'] at qy
        rw [addP_none'] at qx
        exact ⟨by simpa using qx, x, qy, by simpa using hr⟩
    · rw [hx.1]
      simp only [Rows.uptoBulk]
      omega
    · rw [hx.1]
      have := bulk_len ((List.range c0).map D)
      simp only [Rows.uptoBulk]
      simp at this ⊢
      omega
    · intro f hf
      obtain ⟨i, hi2, rfl⟩ := List.mem_map.1 hf
      obtain ⟨_, _, _, _, _, h⟩ := hL i (by have := List.mem_range.1 hi2; omega)
      exact h
end Go.Proofs.YtmphegeiclgjbaaGreatDoor
namespace Go.Proofs.YtmphegeiclgjbaaGreatDoor
set_option maxRecDepth 100000
open Go Go.ChangeShapes Go.WideShapes Go.ChangeAt Go.RowKit Go.Deep
set_option linter.unusedVariables false

section
variable {H : Type} {enc : TypeId × Value → H} {W : World} {fuel : Nat}
instance : Inhabited Lf := ⟨⟨0, ⟨#[]⟩, [], []⟩⟩
theorem list4p {α : Type} {l : List α} (h : l.length = 4) : ∃ a b c d, l = [a, b, c, d] := by
  match l, h with
  | [a, b, c, d], _ => exact ⟨a, b, c, d, rfl⟩
theorem open_path {v : Value} {x : DataW H × List MemPlace} (h : DataW.trod enc Tryz.prog W 0 (fun _ => true) true fuel 109 [v] = some x) : ∃ ls : List (List UInt8), PathV W W.heap.size v ls := by
  rcases open_slice1 Tryz.underlying109 (by kernel_rfl) h with ⟨hcs, _⟩ | ⟨a, len, cap, m, n, V, D, Pl, hcs, _, hl, hcm, hm, hx, hi⟩
  · simp at hcs
    subst hcs
    exact ⟨[], PathV.none_ none 0 (by simp [maxLen])⟩
  · simp at hcs
    subst hcs
    simp only [if_true] at hm
    subst hm
    have hall : ∀ i, i < m → ∃ l : List UInt8, Rd W W.heap.size (V i) l := fun i hi2 => by
      obtain ⟨l, hr, _⟩ := open_bytes Tryz.underlying32 Tryz.underlying5 (by kernel_rfl) (hi i hi2).2
      exact ⟨l, hr⟩
    obtain ⟨L, hL⟩ := choose_lt (α := List UInt8) (p := fun i l => Rd W W.heap.size (V i) l) hall
    refine ⟨(List.range len).map L, some a, m, by simp, by simpa using hl, hcm, fun h0 => ?_⟩
    simp at h0
    have q0 := (hi 0 (by omega)).1
    obtain ⟨b, o, spot⟩ := a
    have hspot : spot = none := by simpa [Addr.add] using World.cell?_spot q0
    subst hspot
    refine ⟨b, o, rfl, ?_, fun j hj => ?_⟩
    · have := World.block_lt_of_cell? W _ q0
      simpa [Addr.add] using this
    · simp at hj
      have qj := (hi j (by omega)).1
      rw [addP_none] at qj
      exact ⟨V j, qj, by simpa using hL j (by omega)⟩
theorem Tryz.leafFields : ∃ f0 f1 f2 f3 : Field, Tryz.prog.underlying 111 = some (.struct #[f0, f1, f2, f3]) ∧ f0.type = 3 ∧ f1.type = 9 ∧ f2.type = 32 ∧ f3.type = 109 ∧ Hid (oneCellFields Tryz.prog #[f0, f1, f2, f3] = true) :=
  ⟨_, _, _, _, Tryz.underlying111, rfl, rfl, rfl, rfl, (by kernel_rfl : oneCellFields Tryz.prog _ = true)⟩
theorem open_leaf {cs : List Value} {x : DataW H × List MemPlace} (h : DataW.trod enc Tryz.prog W 0 (fun _ => true) true fuel 111 cs = some x) : ∃ (l : Lf) (sv pv : Value), cs = [.int .i64 l.at_, .string l.key, sv, pv] ∧ LeafV W W.heap.size (.agg #[.int .i64 l.at_, .string l.key, sv, pv]) l := by
  obtain ⟨f0, f1, f2, f3, hu, e0, e1, e2, e3, hone⟩ := Tryz.leafFields
  have hC : Tryz.prog.cellsOf 111 = 4 := by kernel_rfl
  obtain ⟨xs, n', _, hy, hcl, hlen, hg⟩ := DataW.trod_struct hu h
  obtain ⟨x0, x1, x2, x3, rfl⟩ := list4p (hcl.trans hC)
  obtain ⟨y0, y1, y2, y3, rfl⟩ := list4p hlen
  have fld : ∀ (j : Nat) (f : Field), (#[f0, f1, f2, f3] : Array Field)[j]? = some f → f.offset = j ∧ Tryz.prog.cellsOf f.type = 1 := hone_of hone.out
  have g0 := hg 0 f0 rfl
  have g1 := hg 1 f1 rfl
  have g2 := hg 2 f2 rfl
  have g3 := hg 3 f3 rfl
  rw [(fld 0 f0 rfl).1, (fld 0 f0 rfl).2, e0] at g0
  rw [(fld 1 f1 rfl).1, (fld 1 f1 rfl).2, e1] at g1
  rw [(fld 2 f2 rfl).1, (fld 2 f2 rfl).2, e2] at g2
  rw [(fld 3 f3 rfl).1, (fld 3 f3 rfl).2, e3] at g3
  obtain ⟨z, ez, _, hw⟩ := DataW.trod_int Tryz.underlying3 g0
  obtain ⟨s, es, _, hs⟩ := DataW.trod_string Tryz.underlying9 g1
  obtain ⟨l, hl, _⟩ := open_bytes (v := x2) Tryz.underlying32 Tryz.underlying5 (by kernel_rfl) g2
  obtain ⟨p, hp⟩ := open_path (v := x3) g3
  simp at ez es
  subst ez; subst es
  have b0 : -9223372036854775808 ≤ z ∧ z ≤ 9223372036854775807 := by simpa [Lit.wf, IntKind.min, IntKind.max, IntKind.signed, IntKind.bits] using hw
  exact ⟨⟨z, s, l, p⟩, x2, x3, rfl, x2, x3, rfl, hl, hp, hs, b0.1, b0.2⟩
theorem open_leaves {v : Value} {x : DataW H × List MemPlace} (h : DataW.trod enc Tryz.prog W 0 (fun _ => true) true fuel 39 [v] = some x) : ∃ ls : List Lf, LeavesV W W.heap.size v ls := by
  rcases open_slice Tryz.underlying39 h with ⟨hcs, _⟩ | ⟨a, len, cap, m, n, D, Pl, hcs, _, hl, hcm, hm, hx, hi⟩
  · simp at hcs
    subst hcs
    exact ⟨[], none, 0, rfl, by simp, by simp [maxLen], fun h => absurd h (by simp)⟩
  · simp at hcs
    subst hcs
    simp only [if_true] at hm
    subst hm
    have hall : ∀ i, i < m → ∃ l : Lf, ∃ sv pv : Value, W.cell? (a.add (i * 4)) = some (.int .i64 l.at_) ∧ W.cell? ((a.add (i * 4)).add 1) = some (.string l.key) ∧ W.cell? ((a.add (i * 4)).add 2) = some sv ∧ W.cell? ((a.add (i * 4)).add 3) = some pv ∧ LeafV W W.heap.size (.agg #[.int .i64 l.at_, .string l.key, sv, pv]) l := fun i hi2 => by
      obtain ⟨cs, hc, ht⟩ := hi i hi2
      have h1 : Tryz.prog.cellsOf 111 = 4 := by kernel_rfl
      rw [h1] at hc
      obtain ⟨_, hcl, hat⟩ := World.cells?_some hc
      obtain ⟨l, sv, pv, rfl, hlv⟩ := open_leaf ht
      have a0 := hat 0 (by omega)
      have a1 := hat 1 (by omega)
      have a2 := hat 2 (by omega)
      have a3 := hat 3 (by omega)
      rw [addP_zero] at a0
      simp at a0 a1 a2 a3
      exact ⟨l, sv, pv, a0, a1, a2, a3, hlv⟩
    obtain ⟨L, hL⟩ := choose_lt (α := Lf) (p := fun i l => ∃ sv pv : Value, W.cell? (a.add (i * 4)) = some (.int .i64 l.at_) ∧ W.cell? ((a.add (i * 4)).add 1) = some (.string l.key) ∧ W.cell? ((a.add (i * 4)).add 2) = some sv ∧ W.cell? ((a.add (i * 4)).add 3) = some pv ∧ LeafV W W.heap.size (.agg #[.int .i64 l.at_, .string l.key, sv, pv]) l) hall
    refine ⟨(List.range len).map L, some a, m, by simp, by simpa using hl, hcm, fun h0 => ?_⟩
    simp at h0
    obtain ⟨_, _, q0, _⟩ := hL 0 (by omega)
    obtain ⟨b, o, spot⟩ := a
    have hspot : spot = none := by simpa [Addr.add] using World.cell?_spot q0
    subst hspot
    refine ⟨b, o, rfl, ?_, fun j hj => ?_⟩
    · have := World.block_lt_of_cell? W _ q0
      simpa [Addr.add] using this
    · simp at hj
      obtain ⟨sv, pv, a0, a1, a2, a3, hlv⟩ := hL j (by omega)
      simp only [addP_none] at a0 a1 a2 a3
      have e : ((List.range len).map L)[j]'(by simpa using hj) = L j := by simp
      rw [e]
      exact ⟨sv, pv, a0, a1, a2, a3, hlv⟩
end
end Go.Proofs.YtmphegeiclgjbaaGreatDoor
namespace Go.Proofs.YtmphegeiclgjbaaGreatDoor
set_option maxRecDepth 100000
open Go Go.ChangeShapes Go.WideShapes Go.ChangeAt Go.RowKit Go.Deep
set_option linter.unusedVariables false

theorem u64_natG {c : Value} {H : Type} {enc : TypeId × Value → H} {W : World} {n : Nat} {y : DataW H × List MemPlace}
    (h : DataW.trod enc Tryz.prog W 0 (fun _ => true) true n 29 [c] = some y) : ∃ k : Nat, c = .int .u64 (k : Int) ∧ k < 18446744073709551616 := by
  obtain ⟨z, hc, _, hw⟩ := DataW.trod_int Tryz.underlying29 h
  have h2 : 0 ≤ z ∧ z ≤ 18446744073709551615 := by simpa [Lit.wf, IntKind.min, IntKind.max, IntKind.signed, IntKind.bits] using hw
  obtain ⟨k, rfl⟩ := Int.eq_ofNat_of_zero_le h2.1
  refine ⟨k, by simpa using hc, by omega⟩
theorem trod_u4G {H : Type} {enc : TypeId × Value → H} {W : World} {n : Nat} {c0 c1 c2 c3 : Value} {y : DataW H × List MemPlace}
    (h : DataW.trod enc Tryz.prog W 0 (fun _ => true) true n 31 [c0, c1, c2, c3] = some y) : ∃ x : U4, c0 = .int .u64 (x.a : Int) ∧ c1 = .int .u64 (x.b : Int) ∧ c2 = .int .u64 (x.c : Int) ∧ c3 = .int .u64 (x.d : Int) ∧ x.ok := by
  obtain ⟨y0, y1, y2, y3, n, _, h0, h1, h2, h3⟩ := trod_array4 Tryz.underlying31 (by kernel_rfl) h
  obtain ⟨k0, rfl, b0⟩ := u64_natG h0
  obtain ⟨k1, rfl, b1⟩ := u64_natG h1
  obtain ⟨k2, rfl, b2⟩ := u64_natG h2
  obtain ⟨k3, rfl, b3⟩ := u64_natG h3
  exact ⟨⟨k0, k1, k2, k3⟩, rfl, rfl, rfl, rfl, b0, b1, b2, b3⟩
theorem one_intG : Tryz.prog.cellsOf 3 = 1 := by kernel_rfl
theorem one_stringG : Tryz.prog.cellsOf 9 = 1 := by kernel_rfl
theorem one_u64G : Tryz.prog.cellsOf 29 = 1 := by kernel_rfl
theorem one_boolG : Tryz.prog.cellsOf 4 = 1 := by kernel_rfl
theorem one_bytesG : Tryz.prog.cellsOf 32 = 1 := by kernel_rfl
theorem four_uG : Tryz.prog.cellsOf 31 = 4 := by kernel_rfl
end Go.Proofs.YtmphegeiclgjbaaGreatDoor
namespace Go.Proofs.YtmphegeiclgjbaaGreatDoor
set_option maxRecDepth 100000
open Go Go.ChangeShapes Go.WideShapes Go.ChangeAt Go.RowKit Go.Deep
set_option linter.unusedVariables false

end Go.Proofs.YtmphegeiclgjbaaGreatDoor
namespace Go.Proofs.YtmphegeiclgjbaaGreatDoor
set_option maxRecDepth 100000
open Go Go.ChangeShapes Go.WideShapes Go.ChangeAt Go.RowKit Go.Deep
set_option linter.unusedVariables false

end Go.Proofs.YtmphegeiclgjbaaGreatDoor
namespace Go.Proofs.YtmphegeiclgjbaaGreatDoor
set_option maxRecDepth 100000
open Go Go.ChangeShapes Go.WideShapes Go.ChangeAt Go.RowKit Go.Deep
set_option linter.unusedVariables false

end Go.Proofs.YtmphegeiclgjbaaGreatDoor
namespace Go.Proofs.YtmphegeiclgjbaaGreatDoor
set_option maxRecDepth 100000
open Go Go.RowKit Go.ChangeShapes Go.WideShapes
set_option linter.unusedVariables false

end Go.Proofs.YtmphegeiclgjbaaGreatDoor
