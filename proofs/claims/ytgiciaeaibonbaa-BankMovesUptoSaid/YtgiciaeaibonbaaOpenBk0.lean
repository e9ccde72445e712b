
/- An argument that is four numbers of 64 bits, or one, opened. An argument that is a call of the bank, opened. -/
import Derived.Test.YtgiciaeaibonbaaLimbA0
import Derived.Test.YtgiciaeaibonbaaRows
import Derived.ProofKit
import Derived.OpenShut
import Derived.Laws.IdiomArrays
import Derived.Test.YtgiciaeaibonbaaOpenB
namespace Go.Proofs.Ytgiciaeaibonbaa
set_option maxRecDepth 100000
open Go.ChangeShapes Go.WideShapes Go.ChangeAt Go.RowKit

theorem u64_nat {c : Value} {H : Type} {enc : TypeId × Value → H} {W : World} {n : Nat} {y : DataW H × List MemPlace}
    (h : DataW.trod enc Try.prog W 0 (fun _ => true) true n 23 [c] = some y) : ∃ k : Nat, c = .int .u64 (k : Int) ∧ k < 18446744073709551616 := by
  obtain ⟨z, hc, _, hw⟩ := DataW.trod_int Try.underlying23 h
  have h2 : 0 ≤ z ∧ z ≤ 18446744073709551615 := by simpa [Lit.wf, IntKind.min, IntKind.max, IntKind.signed, IntKind.bits] using hw
  obtain ⟨k, rfl⟩ := Int.eq_ofNat_of_zero_le h2.1
  refine ⟨k, by simpa using hc, by omega⟩
theorem open_u4 {H : Type} {enc : TypeId × Value → H} {W : World} {v : Value} {d : DataW H} {p : List MemPlace} {base : Nat} (hv : Value.okWide Try.prog W .any base 25 v)
    (h : DataW.Trod enc Try.prog W 0 (fun _ => true) true 25 v d p) : ∃ x : U4, v = x.val ∧ x.ok := by
  obtain ⟨cs, rfl, hsz⟩ : ∃ cs, v = .agg cs ∧ cs.size = Try.prog.cellsOf 25 := by
    simp only [Value.okWide, Try.underlying25] at hv
    obtain ⟨cs, h1, h2, _⟩ := hv
    exact ⟨cs, h1, h2⟩
  have h4 : cs.size = 4 := hsz.trans (by kernel_rfl)
  obtain ⟨c0, c1, c2, c3, hcs⟩ : ∃ c0 c1 c2 c3, cs = #[c0, c1, c2, c3] := by
    obtain ⟨l⟩ := cs
    have hl : l.length = 4 := h4
    match l, hl with
    | [c0, c1, c2, c3], _ => exact ⟨c0, c1, c2, c3, rfl⟩
  subst hcs
  obtain ⟨fuel, hf⟩ := h
  obtain ⟨y0, y1, y2, y3, n, _, h0, h1, h2, h3⟩ := trod_array4 Try.underlying25 (by kernel_rfl) hf
  obtain ⟨k0, rfl, b0⟩ := u64_nat h0
  obtain ⟨k1, rfl, b1⟩ := u64_nat h1
  obtain ⟨k2, rfl, b2⟩ := u64_nat h2
  obtain ⟨k3, rfl, b3⟩ := u64_nat h3
  exact ⟨⟨k0, k1, k2, k3⟩, rfl, b0, b1, b2, b3⟩
theorem open_u64 {H : Type} {enc : TypeId × Value → H} {W : World} {v : Value} {d : DataW H} {p : List MemPlace} {base : Nat} (hv : Value.okWide Try.prog W .any base 23 v)
    (h : DataW.Trod enc Try.prog W 0 (fun _ => true) true 23 v d p) : ∃ k : Nat, v = .int .u64 (k : Int) ∧ k < 18446744073709551616 := by
  obtain ⟨z, rfl, _, _, hw⟩ := open_int Try.underlying23 hv h
  have h2 : 0 ≤ z ∧ z ≤ 18446744073709551615 := by simpa [Lit.wf, IntKind.min, IntKind.max, IntKind.signed, IntKind.bits] using hw
  obtain ⟨k, rfl⟩ := Int.eq_ofNat_of_zero_le h2.1
  exact ⟨k, rfl, by omega⟩
end Go.Proofs.Ytgiciaeaibonbaa
namespace Go.Proofs.Ytgiciaeaibonbaa
set_option maxRecDepth 100000
open Go Go.ChangeShapes Go.WideShapes Go.ChangeAt Go.RowKit Go.Deep
set_option linter.unusedVariables false

theorem list8p {α : Type} {l : List α} (h : l.length = 8) : ∃ a b c d e f g i, l = [a, b, c, d, e, f, g, i] := by
  match l, h with
  | [a, b, c, d, e, f, g, i], _ => exact ⟨a, b, c, d, e, f, g, i, rfl⟩
theorem array8p {cs : Array Value} (h : cs.size = 8) : ∃ a b c d e f g i, cs = #[a, b, c, d, e, f, g, i] := by
  obtain ⟨l⟩ := cs
  obtain ⟨a, b, c, d, e, f, g, i, rfl⟩ := list8p (l := l) h
  exact ⟨a, b, c, d, e, f, g, i, rfl⟩
theorem list5b {α : Type} {l : List α} (h : l.length = 5) : ∃ a b c d e, l = [a, b, c, d, e] := by
  match l, h with
  | [a, b, c, d, e], _ => exact ⟨a, b, c, d, e, rfl⟩
theorem Try.opFields : ∃ f0 f1 f2 f3 f4 : Field, Try.prog.underlying 27 = some (.struct #[f0, f1, f2, f3, f4]) ∧ f0.type = 3 ∧ f1.type = 9 ∧ f2.type = 9 ∧ f3.type = 9 ∧ f4.type = 25 ∧
    Hid (f0.offset = 0 ∧ f1.offset = 1 ∧ f2.offset = 2 ∧ f3.offset = 3 ∧ f4.offset = 4) :=
  ⟨_, _, _, _, _, Try.underlying27, rfl, rfl, rfl, rfl, rfl, (⟨rfl, rfl, rfl, rfl, rfl⟩ : _ ∧ _ ∧ _ ∧ _ ∧ _)⟩
theorem trod_u4 {H : Type} {enc : TypeId × Value → H} {W : World} {n : Nat} {c0 c1 c2 c3 : Value} {y : DataW H × List MemPlace}
    (h : DataW.trod enc Try.prog W 0 (fun _ => true) true n 25 [c0, c1, c2, c3] = some y) : ∃ x : U4, c0 = .int .u64 (x.a : Int) ∧ c1 = .int .u64 (x.b : Int) ∧ c2 = .int .u64 (x.c : Int) ∧ c3 = .int .u64 (x.d : Int) ∧ x.ok := by
  obtain ⟨y0, y1, y2, y3, n, _, h0, h1, h2, h3⟩ := trod_array4 Try.underlying25 (by kernel_rfl) h
  obtain ⟨k0, rfl, b0⟩ := u64_nat h0
  obtain ⟨k1, rfl, b1⟩ := u64_nat h1
  obtain ⟨k2, rfl, b2⟩ := u64_nat h2
  obtain ⟨k3, rfl, b3⟩ := u64_nat h3
  exact ⟨⟨k0, k1, k2, k3⟩, rfl, rfl, rfl, rfl, b0, b1, b2, b3⟩
theorem str_bulk {H : Type} {d : DataW H} {a : ByteArray} (e : d = .lit (.string a.data.toList)) : a.size ≤ Rows.uptoBulk d := by
  have ea : a.data.toList.length = a.size := by rw [Array.length_toList]; rfl
  rw [e]
  simp only [Rows.uptoBulk, ea]
  omega
theorem one_int : Try.prog.cellsOf 3 = 1 := by kernel_rfl
theorem one_string : Try.prog.cellsOf 9 = 1 := by kernel_rfl
theorem four_u : Try.prog.cellsOf 25 = 4 := by kernel_rfl
/-- the cells of a call of the bank, read -/
theorem trod_bop {H : Type} {enc : TypeId × Value → H} {W : World} {n : Nat} {cs : List Value} {y : DataW H × List MemPlace} (hl : cs.length = 8)
    (hf : DataW.trod enc Try.prog W 0 (fun _ => true) true n 27 cs = some y) :
    ∃ (k : Int) (a b d : ByteArray) (x : U4), cs = [.int .i64 k, .string a, .string b, .string d, .int .u64 (x.a : Int), .int .u64 (x.b : Int), .int .u64 (x.c : Int), .int .u64 (x.d : Int)] ∧ x.ok ∧ a.size + b.size + d.size ≤ Rows.uptoBulk y.1 := by
  obtain ⟨f0, f1, f2, f3, f4, hu, e0, e1, e2, e3, e4, ho⟩ := Try.opFields
  obtain ⟨x0, x1, x2, x3, x4, x5, x6, x7, rfl⟩ := list8p hl
  obtain ⟨xs, n', _, hy, _, hlen, hg⟩ := DataW.trod_struct hu hf
  obtain ⟨y0, y1, y2, y3, y4, rfl⟩ := list5b hlen
  obtain ⟨o0, o1, o2, o3, o4⟩ := ho.out
  have g0 := hg 0 f0 rfl
  have g1 := hg 1 f1 rfl
  have g2 := hg 2 f2 rfl
  have g3 := hg 3 f3 rfl
  have g4 := hg 4 f4 rfl
  rw [o0, e0, one_int] at g0
  rw [o1, e1, one_string] at g1
  rw [o2, e2, one_string] at g2
  rw [o3, e3, one_string] at g3
  rw [o4, e4, four_u] at g4
  obtain ⟨k, ek, _⟩ := DataW.trod_int Try.underlying3 g0
  obtain ⟨a, ea, ha, _⟩ := DataW.trod_string Try.underlying9 g1
  obtain ⟨b, eb, hb, _⟩ := DataW.trod_string Try.underlying9 g2
  obtain ⟨d, ed, hd, _⟩ := DataW.trod_string Try.underlying9 g3
  obtain ⟨x, q0, q1, q2, q3, hx⟩ := trod_u4 (c0 := x4) (c1 := x5) (c2 := x6) (c3 := x7) g4
  simp at ek ea eb ed
  subst ek; subst ea; subst eb; subst ed; subst q0; subst q1; subst q2; subst q3
  refine ⟨k, a, b, d, x, rfl, hx, ?_⟩
  have ha' : y1.1 = .lit (.string a.data.toList) := congrArg Prod.fst ha
  have hb' : y2.1 = .lit (.string b.data.toList) := congrArg Prod.fst hb
  have hd' : y3.1 = .lit (.string d.data.toList) := congrArg Prod.fst hd
  have hy1 := congrArg Prod.fst hy
  rw [hy1]
  have ea : a.data.toList.length = a.size := by rw [Array.length_toList]; rfl
  have eb : b.data.toList.length = b.size := by rw [Array.length_toList]; rfl
  have ed : d.data.toList.length = d.size := by rw [Array.length_toList]; rfl
  simp only [Rows.uptoBulk, List.map_cons, List.map_nil, Rows.uptoBulkAll, ha', hb', hd', ea, eb, ed]
  omega
theorem open_bop {H : Type} {enc : TypeId × Value → H} {W : World} {v : Value} {d : DataW H} {p : List MemPlace} {base : Nat} (hv : Value.okWide Try.prog W .any base 27 v)
    (h : DataW.Trod enc Try.prog W 0 (fun _ => true) true 27 v d p) :
    ∃ (k : Int) (a b dn : ByteArray) (x : U4), v = .agg #[.int .i64 k, .string a, .string b, .string dn, .int .u64 (x.a : Int), .int .u64 (x.b : Int), .int .u64 (x.c : Int), .int .u64 (x.d : Int)] ∧ x.ok ∧ a.size + b.size + dn.size ≤ Rows.uptoBulk d := by
  obtain ⟨f0, f1, f2, f3, f4, hu, -⟩ := Try.opFields
  have hC : Try.prog.cellsOf 27 = 8 := by kernel_rfl
  obtain ⟨cs, rfl, hsz⟩ := okWide_struct hu hv
  obtain ⟨fuel, hf⟩ := h
  have hl : cs.toList.length = 8 := by rw [Array.length_toList]; exact hsz.trans hC
  obtain ⟨k, a, b, dn, x, hcs, hx, hb⟩ := trod_bop (cs := cs.toList) hl hf
  refine ⟨k, a, b, dn, x, ?_, hx, hb⟩
  congr 1
  obtain ⟨l⟩ := cs
  simp at hcs
  rw [hcs]
end Go.Proofs.Ytgiciaeaibonbaa
