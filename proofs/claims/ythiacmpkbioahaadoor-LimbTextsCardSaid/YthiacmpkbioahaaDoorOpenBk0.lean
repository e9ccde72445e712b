
/- An argument that is four numbers of 64 bits, or one, opened. An argument that is a call of the bank, opened. -/
import Derived.Test.YthiacmpkbioahaaDoorLimbA0
import Derived.Test.YthiacmpkbioahaaDoorRows
import Derived.ProofKit
import Derived.OpenShut
import Derived.Laws.IdiomArrays
import Derived.Test.YthiacmpkbioahaaDoorOpenB0
namespace Go.Proofs.YthiacmpkbioahaaDoor
open Go.ChangeShapes Go.WideShapes Go.ChangeAt Go.RowKit

theorem u64_nat {c : Value} {H : Type} {enc : TypeId × Value → H} {W : World} {n : Nat} {y : DataW H × List MemPlace}
    (h : DataW.trod enc Tryd.prog W 0 (fun _ => true) true n 22 [c] = some y) : ∃ k : Nat, c = .int .u64 (k : Int) ∧ k < 18446744073709551616 := by
  obtain ⟨z, hc, _, hw⟩ := DataW.trod_int Tryd.underlying22 h
  have h2 : 0 ≤ z ∧ z ≤ 18446744073709551615 := by simpa [Lit.wf, IntKind.min, IntKind.max, IntKind.signed, IntKind.bits] using hw
  obtain ⟨k, rfl⟩ := Int.eq_ofNat_of_zero_le h2.1
  refine ⟨k, by simpa using hc, by omega⟩
theorem open_u4 {H : Type} {enc : TypeId × Value → H} {W : World} {v : Value} {d : DataW H} {p : List MemPlace} {base : Nat} (hv : Value.okWide Tryd.prog W .any base 24 v)
    (h : DataW.Trod enc Tryd.prog W 0 (fun _ => true) true 24 v d p) : ∃ x : U4, v = x.val ∧ x.ok := by
  obtain ⟨cs, rfl, hsz⟩ : ∃ cs, v = .agg cs ∧ cs.size = Tryd.prog.cellsOf 24 := by
    simp only [Value.okWide, Tryd.underlying24] at hv
    obtain ⟨cs, h1, h2, _⟩ := hv
    exact ⟨cs, h1, h2⟩
  have h4 : cs.size = 4 := hsz.trans (by kernel_rfl)
  obtain ⟨c0, c1, c2, c3, hcs⟩ : ∃ c0 c1 c2 c3, cs = #[c0, c1, c2, c3] := by
    obtain ⟨l⟩ := cs
    have hl : l.length = 4 := h4
    match l, hl with
    | [c0, c1, c2, c3], _ => exact ⟨c0, c1, c2, c3, rfl⟩
  subst hcs
  obtain ⟨fuel, hf⟩ := h
  obtain ⟨y0, y1, y2, y3, n, _, h0, h1, h2, h3⟩ := trod_array4 Tryd.underlying24 (by kernel_rfl) hf
  obtain ⟨k0, rfl, b0⟩ := u64_nat h0
  obtain ⟨k1, rfl, b1⟩ := u64_nat h1
  obtain ⟨k2, rfl, b2⟩ := u64_nat h2
  obtain ⟨k3, rfl, b3⟩ := u64_nat h3
  exact ⟨⟨k0, k1, k2, k3⟩, rfl, b0, b1, b2, b3⟩
theorem open_u64 {H : Type} {enc : TypeId × Value → H} {W : World} {v : Value} {d : DataW H} {p : List MemPlace} {base : Nat} (hv : Value.okWide Tryd.prog W .any base 22 v)
    (h : DataW.Trod enc Tryd.prog W 0 (fun _ => true) true 22 v d p) : ∃ k : Nat, v = .int .u64 (k : Int) ∧ k < 18446744073709551616 := by
  obtain ⟨z, rfl, _, _, hw⟩ := open_int Tryd.underlying22 hv h
  have h2 : 0 ≤ z ∧ z ≤ 18446744073709551615 := by simpa [Lit.wf, IntKind.min, IntKind.max, IntKind.signed, IntKind.bits] using hw
  obtain ⟨k, rfl⟩ := Int.eq_ofNat_of_zero_le h2.1
  exact ⟨k, rfl, by omega⟩
end Go.Proofs.YthiacmpkbioahaaDoor
namespace Go.Proofs.YthiacmpkbioahaaDoor
open Go Go.ChangeShapes Go.WideShapes Go.ChangeAt Go.RowKit Go.Deep
set_option linter.unusedVariables false

theorem list8p {α : Type} {l : List α} (h : l.length = 8) : ∃ a b c d e f g i, l = [a, b, c, d, e, f, g, i] := by
  match l, h with
  | [a, b, c, d, e, f, g, i], _ => exact ⟨a, b, c, d, e, f, g, i, rfl⟩
theorem array8p {cs : Array Value} (h : cs.size = 8) : ∃ a b c d e f g i, cs = #[a, b, c, d, e, f, g, i] := by
  obtain ⟨l⟩ := cs
  obtain ⟨a, b, c, d, e, f, g, i, rfl⟩ := list8p (l := l) h
  exact ⟨a, b, c, d, e, f, g, i, rfl⟩
theorem list5b {α : Type} {l : List α} (h : l.length = 5) : ∃ a b c d e, l = [a, b, c, d, e] := by
  match l, h with
  | [a, b, c, d, e], _ => exact ⟨a, b, c, d, e, rfl⟩
theorem trod_u4 {H : Type} {enc : TypeId × Value → H} {W : World} {n : Nat} {c0 c1 c2 c3 : Value} {y : DataW H × List MemPlace}
    (h : DataW.trod enc Tryd.prog W 0 (fun _ => true) true n 24 [c0, c1, c2, c3] = some y) : ∃ x : U4, c0 = .int .u64 (x.a : Int) ∧ c1 = .int .u64 (x.b : Int) ∧ c2 = .int .u64 (x.c : Int) ∧ c3 = .int .u64 (x.d : Int) ∧ x.ok := by
  obtain ⟨y0, y1, y2, y3, n, _, h0, h1, h2, h3⟩ := trod_array4 Tryd.underlying24 (by kernel_rfl) h
  obtain ⟨k0, rfl, b0⟩ := u64_nat h0
  obtain ⟨k1, rfl, b1⟩ := u64_nat h1
  obtain ⟨k2, rfl, b2⟩ := u64_nat h2
  obtain ⟨k3, rfl, b3⟩ := u64_nat h3
  exact ⟨⟨k0, k1, k2, k3⟩, rfl, rfl, rfl, rfl, b0, b1, b2, b3⟩
theorem one_int : Tryd.prog.cellsOf 3 = 1 := by kernel_rfl
theorem one_string : Tryd.prog.cellsOf 9 = 1 := by kernel_rfl
theorem four_u : Tryd.prog.cellsOf 24 = 4 := by kernel_rfl
end Go.Proofs.YthiacmpkbioahaaDoor
