
/- The law's fixed answers. -/
import Derived.Test.YthiacmpkbioahaaDoorLimbR
import Derived.Test.YthiacmpkbioahaaDoorLimbP
namespace Go.Proofs.YthiacmpkbioahaaDoor
open Go Go.RowKit

def fixS : ByteArray := ⟨#[49, 56, 52, 52, 54, 55, 52, 52, 48, 55, 51, 55, 48, 57, 53, 53, 49, 54, 49, 54]⟩
theorem fix_dig : ∀ k (h : k < fixS.size), 48 ≤ fixS[k].toNat ∧ fixS[k].toNat ≤ 57 := by
  intro k h
  have h20 : k < 20 := h
  have : ∀ j : Fin 20, 48 ≤ (fixS.data.toList.getD j.val 0).toNat ∧ (fixS.data.toList.getD j.val 0).toNat ≤ 57 := by decide
  have h2 := this ⟨k, h20⟩
  have e : fixS.data.toList.getD k 0 = fixS[k] := by
    have hl : k < fixS.data.toList.length := h20
    rw [List.getD_eq_getElem?_getD, List.getElem?_eq_getElem hl]; rfl
  rw [e] at h2
  exact h2
theorem fix_parsed : parsed fixS.data.toList = (⟨0, 1, 0, 0⟩, 0) := by
  unfold parsed
  rw [show valF 0 fixS.data.toList = 18446744073709551616 by decide +kernel, if_pos (by decide)]
  rfl
theorem fix_print : printL 18446744073709551616 = [49, 56, 52, 52, 54, 55, 52, 52, 48, 55, 51, 55, 48, 57, 53, 53, 49, 54, 49, 54] := by decide +kernel
theorem lit_ok (a b : Nat) (ha : a < 18446744073709551616) (hb : b < 18446744073709551616) : U4.ok ⟨a, b, 0, 0⟩ := ⟨ha, hb, show 0 < 18446744073709551616 by decide, show 0 < 18446744073709551616 by decide⟩

set_option maxHeartbeats 2000000 in
theorem fixed_any (w : World) : Calls Tryd.prog 15 #[] w fun e w' => e = .returned (.bool true) ∧ Below w.heap.size w w' := by
  have k1 : ∀ W, Calls Tryd.prog 19 #[.agg #[.int .u64 0, .int .u64 1, .int .u64 0, .int .u64 0], .int .u64 3] W fun e w' => e = .returned (.tuple #[.agg #[.int .u64 0, .int .u64 3, .int .u64 0, .int .u64 0], .bool true]) ∧ Below W.heap.size W w' := by
    intro W
    have := mul_any ⟨0, 1, 0, 0⟩ 3 W (lit_ok 0 1 (by decide) (by decide)) (by decide)
    rw [show mulU ⟨0, 1, 0, 0⟩ 3 = (⟨0, 3, 0, 0⟩, true) from by unfold mulU; rw [if_pos (by decide)]; rfl] at this
    exact this
  have k2 : ∀ W, Calls Tryd.prog 13 #[.agg #[.int .u64 5, .int .u64 0, .int .u64 0, .int .u64 0], .agg #[.int .u64 7, .int .u64 0, .int .u64 0, .int .u64 0]] W fun e w' => e = .returned (.tuple #[.agg #[.int .u64 0, .int .u64 0, .int .u64 0, .int .u64 0], .bool false]) ∧ Below W.heap.size W w' := by
    intro W
    have := sub_any ⟨5, 0, 0, 0⟩ ⟨7, 0, 0, 0⟩ W (lit_ok 5 0 (by decide) (by decide)) (lit_ok 7 0 (by decide) (by decide))
    rw [show subU ⟨5, 0, 0, 0⟩ ⟨7, 0, 0, 0⟩ = (U4.zero, false) from by unfold subU; rw [if_neg (by decide)]] at this
    exact this
  have k3 : ∀ W, Calls Tryd.prog 24 #[.string ⟨#[49, 56, 52, 52, 54, 55, 52, 52, 48, 55, 51, 55, 48, 57, 53, 53, 49, 54, 49, 54]⟩] W fun e w' => e = .returned (.tuple #[.agg #[.int .u64 0, .int .u64 1, .int .u64 0, .int .u64 0], .int .i64 0]) ∧ Below W.heap.size W w' := by
    intro W
    have := parse_any fixS W (by decide) dec_fix fix_dig
    rw [fix_parsed] at this
    exact this
  have k4 : ∀ W, Calls Tryd.prog 26 #[.agg #[.int .u64 0, .int .u64 1, .int .u64 0, .int .u64 0]] W fun e w' => e = .returned (.string ⟨#[49, 56, 52, 52, 54, 55, 52, 52, 48, 55, 51, 55, 48, 57, 53, 53, 49, 54, 49, 54]⟩) ∧ Below W.heap.size W w' := by
    intro W
    have := print_any ⟨0, 1, 0, 0⟩ W (lit_ok 0 1 (by decide) (by decide))
    rw [show (U4.mk 0 1 0 0).nat = 18446744073709551616 from rfl, fix_print] at this
    exact this
  have k5 : ∀ W, Calls Tryd.prog 16 #[.agg #[.int .u64 0, .int .u64 1, .int .u64 0, .int .u64 0], .agg #[.int .u64 0, .int .u64 3, .int .u64 0, .int .u64 0]] W fun e w' => e = .returned (.int .i64 (-1)) ∧ Below W.heap.size W w' := by
    intro W
    have := cmp_any ⟨0, 1, 0, 0⟩ ⟨0, 3, 0, 0⟩ W (lit_ok 0 1 (by decide) (by decide)) (lit_ok 0 3 (by decide) (by decide))
    rw [show cmpN (U4.mk 0 1 0 0).nat (U4.mk 0 3 0 0).nat = -1 from by decide] at this
    exact this
  have k6 : ∀ W, Calls Tryd.prog 23 #[.int .u64 5] W fun e w' => e = .returned (.agg #[.int .u64 5, .int .u64 0, .int .u64 0, .int .u64 0]) ∧ Below W.heap.size W w' := fun W => of_any 5 W
  have k7 : ∀ W, Calls Tryd.prog 23 #[.int .u64 7] W fun e w' => e = .returned (.agg #[.int .u64 7, .int .u64 0, .int .u64 0, .int .u64 0]) ∧ Below W.heap.size W w' := fun W => of_any 7 W
  have q1 : ∀ W, (binOp .eql 24 (.agg #[.int .u64 0, .int .u64 3, .int .u64 0, .int .u64 0]) (.agg #[.int .u64 0, .int .u64 3, .int .u64 0, .int .u64 0])).run Tryd.prog W = .ok (.bool true) W := fun W => by
    have := eql4 ⟨0, 3, 0, 0⟩ ⟨0, 3, 0, 0⟩ W
    rw [eqB_refl] at this
    exact this
  have q2 : ∀ W, (binOp .eql 24 (.agg #[.int .u64 0, .int .u64 1, .int .u64 0, .int .u64 0]) (.agg #[.int .u64 0, .int .u64 1, .int .u64 0, .int .u64 0])).run Tryd.prog W = .ok (.bool true) W := fun W => by
    have := eql4 ⟨0, 1, 0, 0⟩ ⟨0, 1, 0, 0⟩ W
    rw [eqB_refl] at this
    exact this
  have K1 := Lib.hid k1
  have K2 := Lib.hid k2
  have K3 := Lib.hid k3
  have K4 := Lib.hid k4
  have K5 := Lib.hid k5
  have K6 := Lib.hid k6
  have K7 := Lib.hid k7
  clear k1 k2 k3 k4 k5 k6 k7
  go_enter Tryd.func15, Tryd.ntmps15
  go_wp2_with fail
  refine (K1.out _).mono ?_
  rintro e w1 ⟨rfl, hb1⟩
  have ha1 : LBlk (w1.alloc (.cells #[.int .u64 0, .int .u64 3, .int .u64 0, .int .u64 0] 24)) w1.heap.size (U4.cells ⟨0, 3, 0, 0⟩) := LBlk.new w1 _
  have hbe1 : Below w.heap.size w (w1.alloc (.cells #[.int .u64 0, .int .u64 3, .int .u64 0, .int .u64 0] 24)) := hb1.alloc hb1.size _
  clear hb1
  go_wp2_with fail
  generalize w1.alloc (.cells #[.int .u64 0, .int .u64 3, .int .u64 0, .int .u64 0] 24) = w2 at *
  generalize w1.heap.size = ga at *
  refine (K6.out _).mono ?_
  rintro e w3 ⟨rfl, hb3⟩
  have ha3 := ha1.below hb3 ha1.lt
  have hbe3 := below_chain hbe1 hbe1.size hb3
  clear ha1 hbe1 hb3
  go_wp2_with fail
  refine (K7.out _).mono ?_
  rintro e w4 ⟨rfl, hb4⟩
  have ha4 := ha3.below hb4 ha3.lt
  have hbe4 := below_chain hbe3 hbe3.size hb4
  clear ha3 hbe3 hb4
  go_wp2_with fail
  refine (K2.out _).mono ?_
  rintro e w5 ⟨rfl, hb5⟩
  have ha5 := (ha4.below hb5 ha4.lt).alloc (.cells #[.int .u64 0, .int .u64 0, .int .u64 0, .int .u64 0] 24)
  have hbe5 := (below_chain hbe4 hbe4.size hb5)
  replace hbe5 := hbe5.alloc hbe5.size (.cells #[.int .u64 0, .int .u64 0, .int .u64 0, .int .u64 0] 24)
  clear ha4 hbe4 hb5
  go_wp2_with fail
  generalize w5.alloc (.cells #[.int .u64 0, .int .u64 0, .int .u64 0, .int .u64 0] 24) = w6 at *
  refine (K3.out _).mono ?_
  rintro e w7 ⟨rfl, hb7⟩
  have ha7 := (ha5.below hb7 ha5.lt).alloc (.cells #[.int .u64 0, .int .u64 1, .int .u64 0, .int .u64 0] 24)
  have hn7 : LBlk (w7.alloc (.cells #[.int .u64 0, .int .u64 1, .int .u64 0, .int .u64 0] 24)) w7.heap.size (U4.cells ⟨0, 1, 0, 0⟩) := LBlk.new w7 _
  have hbe7 := (below_chain hbe5 hbe5.size hb7)
  replace hbe7 := hbe7.alloc hbe7.size (.cells #[.int .u64 0, .int .u64 1, .int .u64 0, .int .u64 0] 24)
  obtain ⟨c0, c1, c2, c3⟩ := ha7.all
  have HA7 := Lib.hid (And.intro ha7 (And.intro hn7 hbe7))
  clear ha5 hbe5 hb7 ha7 hn7 hbe7
  go_wp2_with fail
  generalize w7.alloc (.cells #[.int .u64 0, .int .u64 1, .int .u64 0, .int .u64 0] 24) = w8 at *
  generalize w7.heap.size = gn at *
  refine (K4.out _).mono ?_
  rintro e w9 ⟨rfl, hb9⟩
  have ha9 := HA7.out.1.below hb9 HA7.out.1.lt
  have hn9 := HA7.out.2.1.below hb9 HA7.out.2.1.lt
  have hbe9 := below_chain HA7.out.2.2 HA7.out.2.2.size hb9
  obtain ⟨c0, c1, c2, c3⟩ := ha9.all
  obtain ⟨d0, d1, d2, d3⟩ := hn9.all
  have HB9 := Lib.hid hbe9
  clear ha9 hn9 hbe9 hb9
  go_wp2_with fail
  refine (K5.out _).mono ?_
  rintro e wA ⟨rfl, hbA⟩
  go_wp2_with fail
  go_ret
  exact ⟨rfl, below_chain HB9.out HB9.out.size hbA⟩
end Go.Proofs.YthiacmpkbioahaaDoor
