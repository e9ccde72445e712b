
/- The walk of the document's Mul. -/
import Derived.Test.YthiacmpkbioahaaDoorLimbPa
namespace Go.Proofs.YthiacmpkbioahaaDoor
open Go Go.RowKit

theorem LBlk.farU {w : World} {g g' : Nat} {cs : Array Value} (h : LBlk w g cs) (hne : g ≠ g') (x0 x1 x2 x3 : Value) : LBlk ((((w.setCell ⟨g', 0, none⟩ x0).setCell ⟨g', 1, none⟩ x1).setCell ⟨g', 2, none⟩ x2).setCell ⟨g', 3, none⟩ x3) g cs :=
  (((h.far hne 0 x0).far hne 1 x1).far hne 2 x2).far hne 3 x3
theorem Below.setU {B : Nat} {w w' : World} {g : Nat} (h : Below B w w') (hg : B ≤ g) (x0 x1 x2 x3 : Value) : Below B w ((((w'.setCell ⟨g, 0, none⟩ x0).setCell ⟨g, 1, none⟩ x1).setCell ⟨g, 2, none⟩ x2).setCell ⟨g, 3, none⟩ x3) :=
  (((h.setCell (p := ⟨g, 0, none⟩) hg x0).setCell (p := ⟨g, 1, none⟩) hg x1).setCell (p := ⟨g, 2, none⟩) hg x2).setCell (p := ⟨g, 3, none⟩) hg x3

theorem put_p {B : Nat} {w W w' : World} {ga gr gp : Nat} {a z P : U4} (D : U4) (h0 : LBlk W ga a.cells) (h1 : LBlk W gr z.cells) (h2 : LBlk W gp P.cells) (hb : Below B w W) (hB : B ≤ gp) (n1 : ga ≠ gp) (n2 : gr ≠ gp) (hw : Below W.heap.size W w') :
    LBlk (w'.alloc (.cells #[.int .u64 (D.a : Int), .int .u64 (D.b : Int), .int .u64 (D.c : Int), .int .u64 (D.d : Int)] 24)) gp P.cells ∧ LBlk (((((w'.alloc (.cells #[.int .u64 (D.a : Int), .int .u64 (D.b : Int), .int .u64 (D.c : Int), .int .u64 (D.d : Int)] 24)).setCell ⟨gp, 0, none⟩ (.int .u64 (D.a : Int))).setCell ⟨gp, 1, none⟩ (.int .u64 (D.b : Int))).setCell ⟨gp, 2, none⟩ (.int .u64 (D.c : Int))).setCell ⟨gp, 3, none⟩ (.int .u64 (D.d : Int))) ga a.cells ∧ LBlk (((((w'.alloc (.cells #[.int .u64 (D.a : Int), .int .u64 (D.b : Int), .int .u64 (D.c : Int), .int .u64 (D.d : Int)] 24)).setCell ⟨gp, 0, none⟩ (.int .u64 (D.a : Int))).setCell ⟨gp, 1, none⟩ (.int .u64 (D.b : Int))).setCell ⟨gp, 2, none⟩ (.int .u64 (D.c : Int))).setCell ⟨gp, 3, none⟩ (.int .u64 (D.d : Int))) gr z.cells ∧ LBlk (((((w'.alloc (.cells #[.int .u64 (D.a : Int), .int .u64 (D.b : Int), .int .u64 (D.c : Int), .int .u64 (D.d : Int)] 24)).setCell ⟨gp, 0, none⟩ (.int .u64 (D.a : Int))).setCell ⟨gp, 1, none⟩ (.int .u64 (D.b : Int))).setCell ⟨gp, 2, none⟩ (.int .u64 (D.c : Int))).setCell ⟨gp, 3, none⟩ (.int .u64 (D.d : Int))) gp D.cells ∧ Below B w (((((w'.alloc (.cells #[.int .u64 (D.a : Int), .int .u64 (D.b : Int), .int .u64 (D.c : Int), .int .u64 (D.d : Int)] 24)).setCell ⟨gp, 0, none⟩ (.int .u64 (D.a : Int))).setCell ⟨gp, 1, none⟩ (.int .u64 (D.b : Int))).setCell ⟨gp, 2, none⟩ (.int .u64 (D.c : Int))).setCell ⟨gp, 3, none⟩ (.int .u64 (D.d : Int))) := by
  have k0 := (h0.below hw h0.lt).alloc (.cells #[.int .u64 (D.a : Int), .int .u64 (D.b : Int), .int .u64 (D.c : Int), .int .u64 (D.d : Int)] 24)
  have k1 := (h1.below hw h1.lt).alloc (.cells #[.int .u64 (D.a : Int), .int .u64 (D.b : Int), .int .u64 (D.c : Int), .int .u64 (D.d : Int)] 24)
  have k2 := (h2.below hw h2.lt).alloc (.cells #[.int .u64 (D.a : Int), .int .u64 (D.b : Int), .int .u64 (D.c : Int), .int .u64 (D.d : Int)] 24)
  have hBW : B ≤ W.heap.size := Nat.le_of_lt (Nat.lt_of_le_of_lt hB h2.lt)
  have kb := hb.trans (hw.mono hBW)
  exact ⟨k2, LBlk.farU k0 n1 _ _ _ _, LBlk.farU k1 n2 _ _ _ _, LBlk.putU (x := P) k2 D, Below.setU (kb.alloc (Nat.le_trans hBW hw.size) _) hB _ _ _ _⟩
set_option maxHeartbeats 4000000 in
theorem rmul_any (a : U4) (k : Nat) (w : World) (ha : a.ok) (hk : k < 18446744073709551616) : Calls Tryd.prog 20 #[a.val, .int .u64 (k : Int)] w fun e w' => e = .returned (.tuple #[(mulU a k).1.val, .bool (mulU a k).2]) ∧ Below w.heap.size w w' := by
  have h3 := three w a.cells U4.zero.cells U4.zero.cells
  have HA := Lib.hid ha
  have HK := Lib.hid hk
  have HS := Lib.hid (RMul.start a k hk)
  have HR := Lib.hid (fun x y W hx hy => radd_any x y W hx hy)
  have HB := Lib.hid (fun i => bit_at k i hk)
  clear ha hk
  unfold U4.val
  unfold U4.cells
  go_enter Tryd.func20, Tryd.ntmps20
  go_wp2_with fail
  generalize hw0 : ((w.alloc (.cells #[.int .u64 (a.a : Int), .int .u64 (a.b : Int), .int .u64 (a.c : Int), .int .u64 (a.d : Int)] 24)).alloc (.cells #[.int .u64 0, .int .u64 0, .int .u64 0, .int .u64 0] 24)).alloc (.cells #[.int .u64 0, .int .u64 0, .int .u64 0, .int .u64 0] 24) = w0
  replace h3 : LBlk w0 w.heap.size a.cells ∧ LBlk w0 (w.heap.size + 1) U4.zero.cells ∧ LBlk w0 (w.heap.size + 1 + 1) U4.zero.cells ∧ Below w.heap.size w w0 := by rw [← hw0]; exact h3
  clear hw0
  have H3 := Lib.hid h3
  clear h3
  go_loopw [7, 8] (fun f i wr => ∃ (r : Nat) (P : U4) (ft : Bool), r ≤ 64 ∧ i = .int .i64 ((r : Int) - 1) ∧ f = .bool ft ∧ RMul a k r P ft ∧ LBlk wr w.heap.size a.cells ∧ LBlk wr (w.heap.size + 1) U4.zero.cells ∧ LBlk wr (w.heap.size + 1 + 1) P.cells ∧ Below w.heap.size w wr)
    (fun _ i _ => (intOf i + 1).toNat)
  case atStart => exact ⟨64, U4.zero, true, Nat.le_refl _, rfl, rfl, HS.out, H3.out.1, H3.out.2.1, H3.out.2.2.1, H3.out.2.2.2⟩
  case round =>
    clear H3
    obtain ⟨r, P, ft, hr, rfl, rfl, hrm, h0, h1, h2, hb⟩ := hrel
    have RM := Lib.hid hrm
    cases r with
    | zero =>
      have hdn := hrm.done
      obtain ⟨c0, c1, c2, c3⟩ := LBlk.all (s := P) h2
      obtain ⟨d0, d1, d2, d3⟩ := LBlk.all (s := U4.zero) h1
      have f0 := (show LBlk _ _ U4.zero.cells from h1).free 0
      have f1 := (show LBlk _ _ U4.zero.cells from h1).free 1
      have f2 := (show LBlk _ _ U4.zero.cells from h1).free 2
      have f3 := (show LBlk _ _ U4.zero.cells from h1).free 3
      have BB := Lib.hid hb
      have HDN := Lib.hid hdn
      clear hrm hdn h0 h1 h2 hb
      cases ft with
      | true =>
        have e : mulU a k = (P, true) := by
          rcases HDN.out with ⟨-, h⟩ | ⟨h, -⟩
          · exact h
          · cases h
        have HE := Lib.hid e
        clear e
        go_wp2_with fail
        refine bodyPost_ret (v := .tuple #[.agg P.cells, .bool true]) ?_ rfl ⟨?_, ?_⟩
        · simp [results, Tryd.results20, go_sem, U4.cells, d0, d1, d2, d3]
        · rw [HE.out]; rfl
        · have hg : w.heap.size ≤ w.heap.size + 1 := by omega
          exact (((BB.out.setCell hg _).setCell hg _).setCell hg _).setCell hg _
      | false =>
        have e : mulU a k = (U4.zero, false) := by
          rcases HDN.out with ⟨h, -⟩ | ⟨-, h⟩
          · cases h
          · exact h
        have HE := Lib.hid e
        clear e
        go_wp2_with fail
        refine bodyPost_ret (v := .tuple #[.agg U4.zero.cells, .bool false]) ?_ rfl ⟨?_, ?_⟩
        · simp [results, Tryd.results20, go_sem, U4.cells, U4.zero, d0, d1, d2, d3]
        · rw [HE.out]; rfl
        · have hg : w.heap.size ≤ w.heap.size + 1 := by omega
          first
            | exact BB.out
            | exact (((BB.out.setCell hg _).setCell hg _).setCell hg _).setCell hg _
    | succ i =>
      rw [show ((i + 1 : Nat) : Int) - 1 = (i : Int) by omega]
      have j0 : (0 : Int) ≤ (i : Int) := by omega
      have j1 : (i : Int) < 64 := by omega
      have j2 : i < 64 := by omega
      have k1 := HR.out P P wr hrm.1 hrm.1
      have k2 := fun W => HR.out (addU P P).1 a W addU_ok HA.out
      have hbits : k / 2 ^ i % 2 = 0 ∨ k / 2 ^ i % 2 = 1 := by omega
      have z0 := fun h : k / 2 ^ i % 2 = 0 => RM.out.zero h
      have z1 := fun h : k / 2 ^ i % 2 = 1 => RM.out.one HA.out h
      have hbt := HB.out i
      generalize addU P P = D at *
      obtain ⟨D1, D2⟩ := D
      dsimp only at k2 z0 z1
      generalize addU D1 a = E at *
      obtain ⟨E1, E2⟩ := E
      unfold U4.val U4.cells at k1 k2
      dsimp only at k1 k2 z0 z1
      have K2 := Lib.hid k2
      have Z0 := Lib.hid z0
      have Z1 := Lib.hid z1
      have HL := Lib.hid (And.intro h0 (And.intro h1 (And.intro h2 hb)))
      obtain ⟨c0, c1, c2, c3⟩ := LBlk.all (s := P) h2
      clear hrm RM k2 z0 z1 h0 h1 h2 hb
      generalize k / 2 ^ i % 2 = bt at *
      go_wp2_with fail
      refine k1.mono ?_
      rintro e w1 ⟨rfl, hb1⟩
      obtain ⟨p2, q0, q1, q2, qb⟩ := put_p D1 HL.out.1 HL.out.2.1 HL.out.2.2.1 HL.out.2.2.2 (show w.heap.size ≤ w.heap.size + 1 + 1 by omega) (by omega) (by omega) hb1
      have HQ := Lib.hid (And.intro q0 (And.intro q1 (And.intro q2 qb)))
      have f0 := (show LBlk _ _ P.cells from p2).free 0
      have f1 := (show LBlk _ _ P.cells from p2).free 1
      have f2 := (show LBlk _ _ P.cells from p2).free 2
      have f3 := (show LBlk _ _ P.cells from p2).free 3
      have hdn : LBlk (w1.alloc (.cells #[.int .u64 (D1.a : Int), .int .u64 (D1.b : Int), .int .u64 (D1.c : Int), .int .u64 (D1.d : Int)] 24)) w1.heap.size D1.cells := LBlk.new w1 _
      obtain ⟨d0, d1, d2, d3⟩ := LBlk.all (s := D1) hdn
      obtain ⟨e0, e1, e2, e3⟩ := LBlk.all (s := P) p2
      clear c0 c1 c2 c3 k1 hb1 p2 q0 q1 q2 qb HL hdn
      rcases hbits with rfl | rfl
      · cases ft <;> cases D2
        all_goals
          go_wp2_with fail
          exact ⟨⟨i, D1, _, by omega, rfl, rfl, Z0.out (by first | rfl | trivial), HQ.out.1, HQ.out.2.1, HQ.out.2.2.1, HQ.out.2.2.2⟩, by (simp [intOf]; try omega)⟩
      · obtain ⟨a0, a1, a2, a3⟩ := LBlk.all (s := a) HQ.out.1
        obtain ⟨b0, b1, b2, b3⟩ := LBlk.all (s := D1) HQ.out.2.2.1
        cases ft <;> cases D2
        all_goals
          go_wp2_with fail
          clear d0 d1 d2 d3 e0 e1 e2 e3 f0 f1 f2 f3 a0 a1 a2 a3 b0 b1 b2 b3
          refine (K2.out _).mono ?_
          rintro e w3 ⟨rfl, hb3⟩
          obtain ⟨p2, q0, q1, q2, qb⟩ := put_p E1 HQ.out.1 HQ.out.2.1 HQ.out.2.2.1 HQ.out.2.2.2 (show w.heap.size ≤ w.heap.size + 1 + 1 by omega) (by omega) (by omega) hb3
          have HW := Lib.hid (And.intro q0 (And.intro q1 (And.intro q2 qb)))
          have f0 := (show LBlk _ _ D1.cells from p2).free 0
          have f1 := (show LBlk _ _ D1.cells from p2).free 1
          have f2 := (show LBlk _ _ D1.cells from p2).free 2
          have f3 := (show LBlk _ _ D1.cells from p2).free 3
          have hdn : LBlk (w3.alloc (.cells #[.int .u64 (E1.a : Int), .int .u64 (E1.b : Int), .int .u64 (E1.c : Int), .int .u64 (E1.d : Int)] 24)) w3.heap.size E1.cells := LBlk.new w3 _
          obtain ⟨d0, d1, d2, d3⟩ := LBlk.all (s := E1) hdn
          obtain ⟨e0, e1, e2, e3⟩ := LBlk.all (s := D1) p2
          clear HQ hb3 p2 q0 q1 q2 qb hdn K2
          cases E2
          all_goals
            go_wp2_with fail
            exact ⟨⟨i, E1, _, by omega, rfl, rfl, Z1.out (by first | rfl | trivial), HW.out.1, HW.out.2.1, HW.out.2.2.1, HW.out.2.2.2⟩, by (simp [intOf]; try omega)⟩
end Go.Proofs.YthiacmpkbioahaaDoor
