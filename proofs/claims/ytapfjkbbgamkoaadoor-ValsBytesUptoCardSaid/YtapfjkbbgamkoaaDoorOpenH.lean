/- An argument that is a header, opened. -/
import Derived.Test.YtapfjkbbgamkoaaDoorOpenB
import Derived.Test.YtapfjkbbgamkoaaDoorValH
namespace Go.Proofs.YtapfjkbbgamkoaaDoor
open Go Go.ChangeShapes Go.WideShapes Go.ChangeAt Go.RowKit Go.Deep

theorem list6 {α : Type} {l : List α} (h : l.length = 6) : ∃ a b c d e f, l = [a, b, c, d, e, f] := by
  match l, h with
  | [a, b, c, d, e, f], _ => exact ⟨a, b, c, d, e, f, rfl⟩
theorem array6 {cs : Array Value} (h : cs.size = 6) : ∃ a b c d e f, cs = #[a, b, c, d, e, f] := by
  obtain ⟨l⟩ := cs
  obtain ⟨a, b, c, d, e, f, rfl⟩ := list6 (l := l) h
  exact ⟨a, b, c, d, e, f, rfl⟩
theorem Tryd.headFields : ∃ f0 f1 f2 f3 f4 f5 : Field, Tryd.prog.underlying 32 = some (.struct #[f0, f1, f2, f3, f4, f5]) ∧ f0.type = 9 ∧ f1.type = 26 ∧ f2.type = 26 ∧ f3.type = 30 ∧ f4.type = 30 ∧ f5.type = 30 ∧ Hid (oneCellFields Tryd.prog #[f0, f1, f2, f3, f4, f5] = true) :=
  ⟨_, _, _, _, _, _, Tryd.underlying32, rfl, rfl, rfl, rfl, rfl, rfl, (by kernel_rfl : oneCellFields Tryd.prog _ = true)⟩

theorem open_u64 {H : Type} {enc : TypeId × Value → H} {W : World} {c : Value} {y : DataW H × List MemPlace} {n : Nat}
    (t : DataW.trod enc Tryd.prog W 0 (fun _ => true) true n 26 [c] = some y) : ∃ k : Nat, c = .int .u64 (k : Int) ∧ k < 18446744073709551616 := by
  obtain ⟨z, e1, _, hw⟩ := DataW.trod_int Tryd.underlying26 t
  have h2 : 0 ≤ z ∧ z ≤ 18446744073709551615 := by simpa [Lit.wf, IntKind.min, IntKind.max, IntKind.signed, IntKind.bits] using hw
  obtain ⟨k, rfl⟩ := Int.eq_ofNat_of_zero_le h2.1
  simp at e1
  exact ⟨k, e1, by omega⟩

theorem open_head {H : Type} {enc : TypeId × Value → H} {W : World} {v : Value} {d : DataW H} {p : List MemPlace} {base : Nat} (hv : Value.okWide Tryd.prog W .any base 32 v)
    (h : DataW.Trod enc Tryd.prog W 0 (fun _ => true) true 32 v d p) :
    ∃ h : HV, v = .agg #[.string h.chain, .int .u64 (h.height : Int), .int .u64 (h.time : Int), .slice h.vrA h.root.length h.vrC, .slice h.vvA h.vals.length h.vvC, .slice h.vnA h.next.length h.vnC] ∧ h.at W := by
  obtain ⟨f0, f1, f2, f3, f4, f5, hu, e0, e1, e2, e3, e4, e5, hone⟩ := Tryd.headFields
  have hC : Tryd.prog.cellsOf 32 = 6 := by kernel_rfl
  obtain ⟨cs, rfl, hsz⟩ := okWide_struct hu hv
  obtain ⟨x0, x1, x2, x3, x4, x5, rfl⟩ := array6 (hsz.trans hC)
  obtain ⟨fuel, hf⟩ := h
  obtain ⟨xs, n', _, hy, _, hlen, hg⟩ := DataW.trod_struct hu hf
  obtain ⟨y0, y1, y2, y3, y4, y5, rfl⟩ := list6 hlen
  have fld : ∀ (j : Nat) (f : Field), (#[f0, f1, f2, f3, f4, f5] : Array Field)[j]? = some f → f.offset = j ∧ Tryd.prog.cellsOf f.type = 1 := hone_of hone.out
  have g0 := hg 0 f0 rfl
  have g1 := hg 1 f1 rfl
  have g2 := hg 2 f2 rfl
  have g3 := hg 3 f3 rfl
  have g4 := hg 4 f4 rfl
  have g5 := hg 5 f5 rfl
  rw [(fld 0 f0 rfl).1, (fld 0 f0 rfl).2, e0] at g0
  rw [(fld 1 f1 rfl).1, (fld 1 f1 rfl).2, e1] at g1
  rw [(fld 2 f2 rfl).1, (fld 2 f2 rfl).2, e2] at g2
  rw [(fld 3 f3 rfl).1, (fld 3 f3 rfl).2, e3] at g3
  rw [(fld 4 f4 rfl).1, (fld 4 f4 rfl).2, e4] at g4
  rw [(fld 5 f5 rfl).1, (fld 5 f5 rfl).2, e5] at g5
  obtain ⟨s, es, _, hs⟩ := DataW.trod_string Tryd.underlying9 g0
  obtain ⟨k1, ek1, hk1⟩ := open_u64 (c := x1) g1
  obtain ⟨k2, ek2, hk2⟩ := open_u64 (c := x2) g2
  obtain ⟨a, ha, _⟩ := open_bytes (v := x3) Tryd.underlying30 Tryd.underlying5 (by kernel_rfl) g3
  obtain ⟨b, hb, _⟩ := open_bytes (v := x4) Tryd.underlying30 Tryd.underlying5 (by kernel_rfl) g4
  obtain ⟨c, hc, _⟩ := open_bytes (v := x5) Tryd.underlying30 Tryd.underlying5 (by kernel_rfl) g5
  obtain ⟨A, ac, rfl⟩ := ha.form
  obtain ⟨B, bc, rfl⟩ := hb.form
  obtain ⟨C, cc, rfl⟩ := hc.form
  simp [Value.cells] at es
  subst es; subst ek1; subst ek2
  exact ⟨⟨s, k1, k2, A, ac, B, bc, C, cc, a, b, c⟩, rfl, ⟨hs, hk1, hk2, ha, hb, hc⟩⟩
end Go.Proofs.YtapfjkbbgamkoaaDoor
