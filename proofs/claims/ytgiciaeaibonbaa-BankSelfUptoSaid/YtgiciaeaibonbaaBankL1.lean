
/- The walk of the law: what somebody sends to themselves changes nothing. -/
import Derived.Test.YtgiciaeaibonbaaBankF0
import Derived.Test.YtgiciaeaibonbaaSto1
import Derived.Test.YtgiciaeaibonbaaLimbZ
namespace Go.Proofs.Ytgiciaeaibonbaa
set_option maxRecDepth 100000
open Go Go.RowKit
set_option linter.unusedVariables false

/-- a call of the bank, handed in by value, in its own block -/
theorem box_op (w : World) (kd : Int) (a b d : ByteArray) (x : U4) (t : TypeId) : ∀ W, Kept (w.alloc (.cells #[.int .i64 kd, .string a, .string b, .string d, .int .u64 (x.a : Int), .int .u64 (x.b : Int), .int .u64 (x.c : Int), .int .u64 (x.d : Int)] t)) W →
    W.cell? ⟨w.heap.size, 0, none⟩ = some (.int .i64 kd) ∧ W.cell? ⟨w.heap.size, 1, none⟩ = some (.string a) ∧ W.cell? ⟨w.heap.size, 2, none⟩ = some (.string b) ∧ W.cell? ⟨w.heap.size, 3, none⟩ = some (.string d) ∧
    W.cell? ⟨w.heap.size, 4, none⟩ = some (.int .u64 (x.a : Int)) ∧ W.cell? ⟨w.heap.size, 5, none⟩ = some (.int .u64 (x.b : Int)) ∧ W.cell? ⟨w.heap.size, 6, none⟩ = some (.int .u64 (x.c : Int)) ∧ W.cell? ⟨w.heap.size, 7, none⟩ = some (.int .u64 (x.d : Int)) := fun W h => by
  have hb := heap_alloc_new w (.cells #[.int .i64 kd, .string a, .string b, .string d, .int .u64 (x.a : Int), .int .u64 (x.b : Int), .int .u64 (x.c : Int), .int .u64 (x.d : Int)] t)
  exact ⟨h.cell (blk_cell hb 0), h.cell (blk_cell hb 1), h.cell (blk_cell hb 2), h.cell (blk_cell hb 3), h.cell (blk_cell hb 4), h.cell (blk_cell hb 5), h.cell (blk_cell hb 6), h.cell (blk_cell hb 7)⟩
theorem send_self_funds {R : List Pr} {a d : ByteArray} {x : U4} (h : (sendM R a a d x).1 = 0) : (subU (balM R a d) x).2 = true := by
  by_cases e : (subU (balM R a d) x).2 = true
  · exact e
  · unfold sendM at h
    by_cases h1 : rightM a d x = 0
    · obtain ⟨h2, -, -⟩ := rightM_zero h1
      rw [if_pos h1, if_pos h2, if_neg e] at h
      cases h
    · rw [if_neg h1] at h
      exact absurd h h1
theorem subU_le {x y : U4} (h : (subU x y).2 = true) : y.nat ≤ x.nat := by
  unfold subU at h
  split at h
  · assumption
  · cases h

set_option maxHeartbeats 8000000 in
theorem self_law (w : World) (v : Value) (ps : List Pr) (hps : RdP w w.heap.size v ps) (hnl : ∀ p ∈ ps, p.1.size ≤ maxLen) (hlen : ps.length ≤ 2000000) (kd : Int) (a b d : ByteArray) (x : U4) (hx : x.ok) (ha : a.size ≤ 100000000) (hd : d.size ≤ 100000000) :
    Calls Try.prog 5 #[v, .agg #[.int .i64 kd, .string a, .string b, .string d, .int .u64 (x.a : Int), .int .u64 (x.b : Int), .int .u64 (x.c : Int), .int .u64 (x.d : Int)]] w fun e w' => e = .returned (.bool true) ∧ Below w.heap.size w w' := by
  have HO := Lib.hid (box_op w kd a b d x 27)
  obtain ⟨C, hC⟩ : ∃ C, C = Obj.cells #[.int .i64 kd, .string a, .string b, .string d, .int .u64 (x.a : Int), .int .u64 (x.b : Int), .int .u64 (x.c : Int), .int .u64 (x.d : Int)] 27 := ⟨_, rfl⟩
  have ha0 : Below w.heap.size w (w.alloc C) := (Below.refl _ _).alloc (Nat.le_refl _) _
  have hp0 : RdP (w.alloc C) (w.alloc C).heap.size v ps := hps.kept (Kept.of_below ha0)
  have HN := Lib.hid (new_any (w.alloc C) v ps hp0 hnl)
  have HP := Lib.hid hp0
  rw [hC] at HN HP ha0
  clear hC hp0
  obtain ⟨A, c, rfl⟩ : ∃ A c, v = .slice A ps.length c := by obtain ⟨A, c, h, _⟩ := hps; exact ⟨A, c, h⟩
  clear hps
  go_enter Try.func5, Try.ntmps5
  go_wp2_with fail
  generalize w.alloc (.cells #[.int .i64 kd, .string a, .string b, .string d, .int .u64 (x.a : Int), .int .u64 (x.b : Int), .int .u64 (x.c : Int), .int .u64 (x.d : Int)] 27) = W0 at *
  refine HN.out.mono ?_
  rintro e w1 ⟨⟨-, rfl⟩ | ⟨-, y, rfl, hyb, hym, hyn, hly, hri, hp1⟩, hb1⟩
  · have hq1 := below_chain ha0 ha0.size hb1
    go_wp2_with fail
    refine (bfixed_any _).mono ?_
    rintro e w2 ⟨rfl, hb2⟩
    have hq2 := below_chain hq1 hq1.size hb2
    go_wp2_with fail
    refine (bfixed_any _).mono ?_
    rintro e w3 ⟨rfl, hb3⟩
    have hq3 := below_chain hq2 hq2.size hb3
    go_wp2_with fail
    go_ret
    exact ⟨rfl, hq3⟩
  · have A1 := Acc.made hp1 hly hri hnl
    have hq1 := below_chain ha0 ha0.size hb1
    have hk1 := Kept.of_below hb1
    have hym' : w.heap.size ≤ y.m := Nat.le_trans ha0.size hym
    have HYN := Lib.hid (show y.n = ps.length from hyn)
    have hW1 : w.heap.size ≤ w1.heap.size := Nat.le_trans ha0.size hb1.size
    obtain ⟨yb, ym, yn, yf⟩ := y
    dsimp only at hym' HYN ⊢
    clear hyb hym hyn hly hri hp1 hb1 HN
    go_wp2_with fail
    refine (bfixed_any _).mono ?_
    rintro e w2 ⟨rfl, hb2⟩
    have A2 := A1.up hb2
    have hk2 := hk1.trans (Kept.of_below hb2)
    obtain ⟨c0, c1, c2, c3, c4, c5, c6, c7⟩ := HO.out _ hk2
    have HL := Lib.hid (A2.bal a d ha hd)
    obtain ⟨X, hX⟩ : ∃ X, X = balM ps a d := ⟨_, rfl⟩
    have HX := Lib.hid (show X = balM ps a d ∧ X.ok from ⟨hX, by rw [hX]; exact balM_ok _ _ _⟩)
    rw [← hX] at HL
    clear A1 hk1 hb2 hX
    go_wp2_with fail
    refine HL.out.mono ?_
    rintro e w3 ⟨rfl, hb3⟩
    have A3 := A2.up hb3
    have hk3 := hk2.trans (Kept.of_below hb3)
    have hb4 : Below w3.heap.size w3 (w3.alloc (.cells X.cells 25)) := (Below.refl _ _).alloc (Nat.le_refl _) _
    have hU := LBlk.new w3 X.cells
    have A4 := A3.up hb4
    have hk4 := hk3.trans (Kept.of_below hb4)
    unfold U4.val U4.cells at *
    clear HL A2 hk2 hb3 c0 c1 c2 c3 c4 c5 c6 c7 A3 hk3 hb4
    obtain ⟨c0, c1, c2, c3, c4, c5, c6, c7⟩ := HO.out _ hk4
    go_wp2_with fail
    generalize w3.alloc (.cells #[.int .u64 (X.a : Int), .int .u64 (X.b : Int), .int .u64 (X.c : Int), .int .u64 (X.d : Int)] 25) = w4 at *
    generalize w3.heap.size = gx at *
    have HS := Lib.hid (A4.send (show yn + 0 + 2 ≤ maxLen by have := HYN.out; unfold maxLen; omega) a a d x hx ha ha hd)
    rw [send_self] at HS
    obtain ⟨E, hE⟩ : ∃ E, E = (sendM ps a a d x).1 := ⟨_, rfl⟩
    rw [← hE] at HS
    have HE := Lib.hid hE
    unfold U4.val U4.cells at HS
    clear hE A4
    refine HS.out.mono ?_
    rintro e w5 ⟨rfl, A5, hk⟩
    have hk5 := hk4.trans hk
    obtain ⟨z0, z1, z2, z3⟩ := LBlk.all (s := X) hU
    replace z0 := hk.cell z0
    replace z1 := hk.cell z1
    replace z2 := hk.cell z2
    replace z3 := hk.cell z3
    have HPA := Lib.hid (A5.pairs (show yn + (0 + 2) ≤ 1000000000 by have := HYN.out; omega) ⟨#[]⟩ (by decide +kernel))
    rw [filter_all] at HPA
    clear HS hk4 hk hU c0 c1 c2 c3 c4 c5 c6 c7
    go_wp2_with fail
    refine HPA.out.mono ?_
    rintro e w6 ⟨v6, rfl, ho6, hb6⟩
    have hk6 := hk5.trans (Kept.of_below hb6)
    have HSA := Lib.hid (samePs_any w6 v6 (.slice A ps.length c) ps ps ho6.rdP (HP.out.kept hk6))
    obtain ⟨A6, c6, rfl⟩ := ho6.form
    clear ho6 HPA
    go_wp2_with fail
    refine HSA.out.mono ?_
    rintro e w7 ⟨rfl, hb7⟩
    have hb67 := below_chain hb6 hb6.size hb7
    have hk7 := hk6.trans (Kept.of_below hb7)
    obtain ⟨c0, c1, c2, c3, c4, c5, c6, c7⟩ := HO.out _ hk7
    replace z0 := (Kept.of_below hb67).cell z0
    replace z1 := (Kept.of_below hb67).cell z1
    replace z2 := (Kept.of_below hb67).cell z2
    replace z3 := (Kept.of_below hb67).cell z3
    have hA5 := A5.below hym' hW1
    have hq7 := below_chain (hq1.trans hA5) (Nat.le_trans hW1 hA5.size) hb67
    clear hA5
    simp only [decide_true]
    clear HSA hb6 hb7 hb67 hk6 hk7 A5
    by_cases e0 : E = 0
    · have hle := subU_le (send_self_funds (by rw [← HE.out]; exact e0))
      have HC := Lib.hid (rcmp_any X x w7 HX.out.2 hx)
      have HZ : Hid (0 ≤ cmpN X.nat x.nat) := Lib.hid (by rw [HX.out.1]; unfold cmpN; split <;> first | omega | (split <;> omega))
      generalize cmpN X.nat x.nat = z at *
      unfold U4.val U4.cells at HC
      clear hle HE
      subst e0
      go_wp2_with fail
      refine HC.out.mono ?_
      rintro e w8 ⟨rfl, hb8⟩
      have hq8 := below_chain hq7 hq7.size hb8
      have hz := HZ.out
      go_wp2_with fail
      go_ret
      exact ⟨rfl, hq8⟩
    · clear HE
      have hne : (E != 0) = true := by simpa using e0
      go_wp2_with fail
      go_ret
      exact ⟨rfl, hq7⟩
end Go.Proofs.Ytgiciaeaibonbaa
