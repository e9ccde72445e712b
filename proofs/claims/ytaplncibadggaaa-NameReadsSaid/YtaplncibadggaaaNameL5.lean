/- The walk of the law: identifiers and denominations are told from other texts, and taken apart, as the document says. -/
import Derived.Test.YtaplncibadggaaaNameM
import Derived.Test.YtaplncibadggaaaNameL4
namespace Go.Proofs.Ytaplncibadggaaa
open Go Go.RowKit

/-- Hop's three answers -/
theorem hopV_form (l : List UInt8) : ∃ (x y : ByteArray) (b : Bool), hopV l = .tuple #[.string x, .string y, .bool b] := by
  unfold hopV
  cases hopL l with
  | none => exact ⟨_, _, _, rfl⟩
  | some p => exact ⟨_, _, _, rfl⟩

set_option maxHeartbeats 1000000 in
theorem reads_walk (s : ByteArray) (w : World) (hs : s.size ≤ maxLen) :
    Calls Try.prog 3 #[.string s] w fun e w' => e = .returned (.bool true) ∧ Below w.heap.size w w' := by
  have H1 := Lib.hid (hop_any s · hs)
  have H2 := Lib.hid (rhop_any s · hs)
  have H3 := Lib.hid (ident_any s · hs)
  have H4 := Lib.hid (rident_any s · hs)
  have H5 := Lib.hid (denom_any s · hs)
  have H6 := Lib.hid (rdenom_any s · hs)
  have H7 := Lib.hid (base_any s · hs)
  have H8 := Lib.hid (rbase_any s · hs)
  have H9 := Lib.hid (hops_any s · hs)
  have HA := Lib.hid (rhops_any s · hs)
  obtain ⟨x, y, b, hv⟩ := hopV_form s.data.toList
  rw [hv] at H1 H2
  clear hv
  generalize identL s.data.toList = b1 at H3 H4
  generalize denomL s.data.toList = b2 at H5 H6
  generalize (⟨(baseD s.data.toList).toArray⟩ : ByteArray) = z at H7 H8
  generalize ((hopsD s.data.toList : Nat) : Int) = k at H9 HA
  go_enter Try.func3, Try.ntmps3
  go_wp2_with fail
  refine (H1.out _).mono ?_
  rintro e w1 ⟨rfl, n1, rfl⟩
  go_wp2_with fail
  refine (H2.out _).mono ?_
  rintro e w2 ⟨rfl, hb2⟩
  go_wp2_with fail
  refine (fixed_any _).mono ?_
  rintro e w3 ⟨rfl, n3, rfl⟩
  go_wp2_with fail
  refine (H3.out _).mono ?_
  rintro e w4 ⟨rfl, rfl⟩
  go_wp2_with fail
  refine (H4.out _).mono ?_
  rintro e w4 ⟨rfl, rfl⟩
  go_wp2_with fail
  refine (H5.out _).mono ?_
  rintro e w5 ⟨rfl, n5, rfl⟩
  go_wp2_with fail
  refine (H6.out _).mono ?_
  rintro e w6 ⟨rfl, hb6⟩
  go_wp2_with fail
  refine (H7.out _).mono ?_
  rintro e w7 ⟨rfl, n7, rfl⟩
  go_wp2_with fail
  refine (H8.out _).mono ?_
  rintro e w8 ⟨rfl, hb8⟩
  go_wp2_with fail
  refine (H9.out _).mono ?_
  rintro e w9 ⟨rfl, n9, rfl⟩
  go_wp2_with fail
  refine (HA.out _).mono ?_
  rintro e wA ⟨rfl, hbA⟩
  go_wp2_with fail
  go_ret
  refine ⟨rfl, ?_⟩
  have g1 : Below w.heap.size w (w.drewN n1) := below_drewN' (Below.refl _ _) n1
  have g2 := below_chain' g1 g1.size hb2
  have g3 := below_drewB g2 (n3 + n5)
  have g4 : Below w.heap.size w w6 := g3.trans (hb6.mono (by have := g2.size; simpa using this))
  have g5 := below_drewB g4 n7
  have g6 : Below w.heap.size w w8 := g5.trans (hb8.mono (by have := g4.size; simpa using this))
  have g7 := below_drewB g6 n9
  exact g7.trans (hbA.mono (by have := g6.size; simpa using this))
end Go.Proofs.Ytaplncibadggaaa
