/- An argument that is a root, a key, a message and a signature, opened. -/
import Derived.Test.YtgomhojaappbnaaDoorOpenB
namespace Go.Proofs.YtgomhojaappbnaaDoor
open Go Go.ChangeShapes Go.WideShapes Go.ChangeAt Go.RowKit Go.Deep

theorem list4 {α : Type} {l : List α} (h : l.length = 4) : ∃ a b c d, l = [a, b, c, d] := by
  match l, h with
  | [a, b, c, d], _ => exact ⟨a, b, c, d, rfl⟩
theorem array4 {cs : Array Value} (h : cs.size = 4) : ∃ a b c d, cs = #[a, b, c, d] := by
  obtain ⟨l⟩ := cs
  obtain ⟨a, b, c, d, rfl⟩ := list4 (l := l) h
  exact ⟨a, b, c, d, rfl⟩
theorem Tryd.askFields : ∃ f0 f1 f2 f3 : Field, Tryd.prog.underlying 30 = some (.struct #[f0, f1, f2, f3]) ∧ f0.type = 22 ∧ f1.type = 3 ∧ f2.type = 22 ∧ f3.type = 22 ∧ Hid (oneCellFields Tryd.prog #[f0, f1, f2, f3] = true) :=
  ⟨_, _, _, _, Tryd.underlying30, rfl, rfl, rfl, rfl, (by kernel_rfl : oneCellFields Tryd.prog _ = true)⟩

theorem open_ask {H : Type} {enc : TypeId × Value → H} {W : World} {v : Value} {d : DataW H} {p : List MemPlace} {base : Nat} (hv : Value.okWide Tryd.prog W .any base 30 v)
    (h : DataW.Trod enc Tryd.prog W 0 (fun _ => true) true 30 v d p) :
    ∃ (A B C : Option Addr) (ac bc cc : Nat) (a b c : List UInt8) (key : Int), v = .agg #[.slice A a.length ac, .int .i64 key, .slice B b.length bc, .slice C c.length cc] ∧ Rd W W.heap.size (.slice A a.length ac) a ∧ Rd W W.heap.size (.slice B b.length bc) b ∧ Rd W W.heap.size (.slice C c.length cc) c ∧ a.length + b.length + c.length ≤ Rows.uptoBulk d := by
  obtain ⟨f0, f1, f2, f3, hu, e0, e1, e2, e3, hone⟩ := Tryd.askFields
  have hC : Tryd.prog.cellsOf 30 = 4 := by kernel_rfl
  obtain ⟨cs, rfl, hsz⟩ := okWide_struct hu hv
  obtain ⟨x0, x1, x2, x3, rfl⟩ := array4 (hsz.trans hC)
  obtain ⟨fuel, hf⟩ := h
  obtain ⟨xs, n', _, hy, _, hlen, hg⟩ := DataW.trod_struct hu hf
  obtain ⟨y0, y1, y2, y3, rfl⟩ := list4 hlen
  have fld : ∀ (j : Nat) (f : Field), (#[f0, f1, f2, f3] : Array Field)[j]? = some f → f.offset = j ∧ Tryd.prog.cellsOf f.type = 1 := hone_of hone.out
  have g0 := hg 0 f0 rfl
  have g1 := hg 1 f1 rfl
  have g2 := hg 2 f2 rfl
  have g3 := hg 3 f3 rfl
  rw [(fld 0 f0 rfl).1, (fld 0 f0 rfl).2, e0] at g0
  rw [(fld 1 f1 rfl).1, (fld 1 f1 rfl).2, e1] at g1
  rw [(fld 2 f2 rfl).1, (fld 2 f2 rfl).2, e2] at g2
  rw [(fld 3 f3 rfl).1, (fld 3 f3 rfl).2, e3] at g3
  obtain ⟨a, ha, hal⟩ := open_bytes (v := x0) Tryd.underlying22 Tryd.underlying5 (by kernel_rfl) g0
  obtain ⟨z, ez, _, _⟩ := DataW.trod_int Tryd.underlying3 g1
  obtain ⟨b, hb, hbl⟩ := open_bytes (v := x2) Tryd.underlying22 Tryd.underlying5 (by kernel_rfl) g2
  obtain ⟨c, hc, hcl⟩ := open_bytes (v := x3) Tryd.underlying22 Tryd.underlying5 (by kernel_rfl) g3
  obtain ⟨A, ac, rfl⟩ := ha.form
  obtain ⟨B, bc, rfl⟩ := hb.form
  obtain ⟨C, cc, rfl⟩ := hc.form
  simp [Value.cells] at ez
  subst ez
  refine ⟨A, B, C, ac, bc, cc, a, b, c, z, rfl, ha, hb, hc, ?_⟩
  simp only [Prod.mk.injEq] at hy
  rw [hy.1]
  simp only [Rows.uptoBulk, List.map_cons, List.map_nil, Rows.uptoBulkAll]
  omega
end Go.Proofs.YtgomhojaappbnaaDoor
