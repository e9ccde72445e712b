
/- The struct of the laws of wire, opened. -/
import Derived.Test.YtpcoonnfaoakhaaOpenB0
namespace Go.Proofs.Ytpcoonnfaoakhaa
set_option maxRecDepth 100000
open Go.ChangeShapes Go.WideShapes Go.ChangeAt Go.RowKit Go.Deep

theorem Try.opFields : ∃ f0 f1 f2 f3 f4 : Field, Try.prog.underlying 27 = some (.struct #[f0, f1, f2, f3, f4]) ∧ f0.type = 3 ∧ f1.type = 3 ∧ f2.type = 25 ∧ f3.type = 24 ∧ f4.type = 4 ∧ Hid (oneCellFields Try.prog #[f0, f1, f2, f3, f4] = true) :=
  ⟨_, _, _, _, _, Try.underlying27, rfl, rfl, rfl, rfl, rfl, (by kernel_rfl : oneCellFields Try.prog _ = true)⟩

/-- one operation's cells, read -/
theorem open_op_cells {H : Type} {enc : TypeId × Value → H} {W : World} {c0 c1 c2 c3 c4 : Value} {y0 y1 y2 y3 y4 : DataW H × List MemPlace} {n : Nat}
    (t0 : DataW.trod enc Try.prog W 0 (fun _ => true) true n 3 [c0] = some y0) (t1 : DataW.trod enc Try.prog W 0 (fun _ => true) true n 3 [c1] = some y1) (t2 : DataW.trod enc Try.prog W 0 (fun _ => true) true n 25 [c2] = some y2)
    (t3 : DataW.trod enc Try.prog W 0 (fun _ => true) true n 24 [c3] = some y3) (t4 : DataW.trod enc Try.prog W 0 (fun _ => true) true n 4 [c4] = some y4) :
    ∃ (kind most nn : Int) (yes : Bool) (m : List UInt8), c0 = .int .i64 kind ∧ c1 = .int .i64 most ∧ c2 = .int .u64 nn ∧ c4 = .bool yes ∧ Rd W W.heap.size c3 m ∧ 0 ≤ nn ∧ nn < 18446744073709551616 ∧ m.length ≤ Rows.uptoBulk y3.1 ∧
      -9223372036854775808 ≤ kind ∧ kind ≤ 9223372036854775807 ∧ -9223372036854775808 ≤ most ∧ most ≤ 9223372036854775807 := by
  obtain ⟨kind, e0, _, w0⟩ := DataW.trod_int Try.underlying3 t0
  obtain ⟨most, e1, _, w1⟩ := DataW.trod_int Try.underlying3 t1
  obtain ⟨nn, e2, _, w2⟩ := DataW.trod_int Try.underlying25 t2
  obtain ⟨yes, e4, _⟩ := DataW.trod_bool Try.underlying4 t4
  obtain ⟨m, hm, hb⟩ := open_bytes Try.underlying24 Try.underlying5 (by kernel_rfl) t3
  have b0 : -9223372036854775808 ≤ kind ∧ kind ≤ 9223372036854775807 := by simpa [Lit.wf, IntKind.min, IntKind.max, IntKind.signed, IntKind.bits] using w0
  have b1 : -9223372036854775808 ≤ most ∧ most ≤ 9223372036854775807 := by simpa [Lit.wf, IntKind.min, IntKind.max, IntKind.signed, IntKind.bits] using w1
  have b2 : 0 ≤ nn ∧ nn ≤ 18446744073709551615 := by simpa [Lit.wf, IntKind.min, IntKind.max, IntKind.signed, IntKind.bits] using w2
  simp at e0 e1 e2 e4
  exact ⟨kind, most, nn, yes, m, e0, e1, e2, e4, hm, b2.1, by omega, hb, b0.1, b0.2, b1.1, b1.2⟩

theorem list5 {α : Type} {l : List α} (h : l.length = 5) : ∃ a b c d e, l = [a, b, c, d, e] := by
  match l, h with
  | [a, b, c, d, e], _ => exact ⟨a, b, c, d, e, rfl⟩

theorem open_op {H : Type} {enc : TypeId × Value → H} {W : World} {v : Value} {d : DataW H} {p : List MemPlace} {base : Nat} (hv : Value.okWide Try.prog W .any base 27 v)
    (h : DataW.Trod enc Try.prog W 0 (fun _ => true) true 27 v d p) :
    ∃ (kind most nn : Int) (xv : Value) (yes : Bool) (m : List UInt8), v = .agg #[.int .i64 kind, .int .i64 most, .int .u64 nn, xv, .bool yes] ∧ Rd W W.heap.size xv m ∧ 0 ≤ nn ∧ nn < 18446744073709551616 ∧ m.length ≤ Rows.uptoBulk d := by
  obtain ⟨f0, f1, f2, f3, f4, hu, e0, e1, e2, e3, e4, _⟩ := Try.opFields
  have hu' := Try.underlying27
  obtain ⟨cs, xs, n, rfl, hsz, rfl, hlen, hf⟩ := open_struct hu' (by kernel_rfl) (by kernel_rfl) hv h
  rw [hu] at hu'
  injection hu' with hu'
  injection hu' with hu'
  rw [← hu'] at hf hsz hlen
  obtain ⟨a0, a1, a2, a3, a4, hl⟩ := list5 (l := cs.toList) (by simpa using hsz)
  obtain ⟨x0, x1, x2, x3, x4, rfl⟩ := list5 hlen
  obtain rfl : cs = #[a0, a1, a2, a3, a4] := by apply Array.ext'; exact hl
  obtain ⟨_, _, q0, q1, t0⟩ := hf 0 f0 rfl
  simp at q0 q1; subst q0; subst q1
  obtain ⟨_, _, q0, q1, t1⟩ := hf 1 f1 rfl
  simp at q0 q1; subst q0; subst q1
  obtain ⟨_, _, q0, q1, t2⟩ := hf 2 f2 rfl
  simp at q0 q1; subst q0; subst q1
  obtain ⟨_, _, q0, q1, t3⟩ := hf 3 f3 rfl
  simp at q0 q1; subst q0; subst q1
  obtain ⟨_, _, q0, q1, t4⟩ := hf 4 f4 rfl
  simp at q0 q1; subst q0; subst q1
  rw [e0] at t0; rw [e1] at t1; rw [e2] at t2; rw [e3] at t3; rw [e4] at t4
  obtain ⟨kind, most, nn, yes, m, rfl, rfl, rfl, rfl, hm, b0, b1, hb, _⟩ := open_op_cells t0 t1 t2 t3 t4
  refine ⟨kind, most, nn, _, yes, m, rfl, hm, b0, b1, ?_⟩
  simp only [Rows.uptoBulk, List.map_cons, List.map_nil, Rows.uptoBulkAll]
  omega
end Go.Proofs.Ytpcoonnfaoakhaa
