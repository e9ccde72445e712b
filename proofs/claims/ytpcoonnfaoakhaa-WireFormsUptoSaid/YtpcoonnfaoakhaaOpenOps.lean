
/- A script of operations, opened. -/
import Derived.Test.YtpcoonnfaoakhaaOpenW
import Derived.Test.YtpcoonnfaoakhaaOps
namespace Go.Proofs.Ytpcoonnfaoakhaa
set_option maxRecDepth 100000
open Go.ChangeShapes Go.WideShapes Go.ChangeAt Go.RowKit Go.Deep

instance : Inhabited OpD := ⟨⟨0, 0, 0, [], false, by omega, by omega, by omega, by omega, by omega, by omega⟩⟩

theorem bulk_map {H : Type} (f : Nat → OpD) (D : Nat → DataW H) (n : Nat) (h : ∀ i, i < n → (f i).bytes.length + 1 ≤ Rows.uptoBulk (D i)) : ∀ k, k ≤ n → opsSize ((List.range k).map f) ≤ Rows.uptoBulkAll ((List.range k).map D) := by
  intro k
  induction k with
  | zero => intro _; simp [opsSize]
  | succ k ih =>
    intro hk
    have h1 := ih (by omega)
    have h2 := h k (by omega)
    have app : ∀ (l r : List (DataW H)), Rows.uptoBulkAll (l ++ r) = Rows.uptoBulkAll l + Rows.uptoBulkAll r := by
      intro l r
      induction l with
      | nil => simp [Rows.uptoBulkAll]
      | cons x l ih => simp only [List.cons_append, Rows.uptoBulkAll, ih]; omega
    rw [List.range_succ, List.map_append, List.map_append, app]
    simp only [opsSize, List.map_append, List.sum_append, List.map_cons, List.map_nil, List.sum_cons, List.sum_nil, Rows.uptoBulkAll] at h1 ⊢
    omega

theorem open_ops {H : Type} {enc : TypeId × Value → H} {W : World} {v : Value} {d : DataW H} {p : List MemPlace} {base : Nat} (hv : Value.okWide Try.prog W .any base 22 v)
    (h : DataW.Trod enc Try.prog W 0 (fun _ => true) true 22 v d p) : ∃ ops : List OpD, OpsAt W W.heap.size v ops ∧ opsSize ops ≤ Rows.uptoBulk d := by
  obtain ⟨fuel, hf⟩ := h
  obtain ⟨b0, c0, k0, rfl⟩ := okWide_slice Try.underlying22 hv
  rcases open_slice Try.underlying22 hf with ⟨hcs, hx⟩ | ⟨a, len, cap, m, n, D, Pl, hcs, _, hl, hcm, hm, hx, hi⟩
  · simp [Value.cells] at hcs
    obtain ⟨rfl, rfl, rfl⟩ := hcs
    exact ⟨[], ⟨none, 0, rfl, by simp, by simp [maxLen], fun h => absurd h (by simp)⟩, by simp [opsSize]⟩
  · simp [Value.cells] at hcs
    obtain ⟨rfl, rfl, rfl⟩ := hcs
    simp only [if_true] at hm
    obtain rfl : m = k0 := hm
    have hC : Try.prog.cellsOf 27 = 5 := by kernel_rfl
    obtain ⟨f0, f1, f2, f3, f4, hu, e0, e1, e2, e3, e4, hone⟩ := Try.opFields
    have hsp : 0 < m → a.spot = none := by
      intro h0
      obtain ⟨cs, hc, _⟩ := hi 0 h0
      rw [hC] at hc
      obtain ⟨_, hcl, hat⟩ := World.cells?_some hc
      obtain ⟨x0, x1, x2, x3, x4, rfl⟩ := list5 hcl
      have := World.cell?_spot (hat 0 (by omega))
      simpa [Addr.add] using this
    have each : ∀ i, i < m → ∃ x : OpD, (∃ b o, a = ⟨b, o, none⟩ ∧ b < W.heap.size ∧ OpAt W W.heap.size b (o + i * 5) x) ∧ x.bytes.length + 1 ≤ Rows.uptoBulk (D i) := by
      intro i hik
      obtain ⟨cs, hc, ht⟩ := hi i hik
      rw [hC] at hc
      obtain ⟨_, hcl, hat⟩ := World.cells?_some hc
      obtain ⟨x0, x1, x2, x3, x4, rfl⟩ := list5 hcl
      obtain ⟨xs, n', _, hy, _, hlen, hg⟩ := DataW.trod_struct hu ht
      obtain ⟨y0, y1, y2, y3, y4, rfl⟩ := list5 hlen
      simp only [Prod.mk.injEq] at hy
      have fld : ∀ (j : Nat) (f : Field), (#[f0, f1, f2, f3, f4] : Array Field)[j]? = some f → f.offset = j ∧ Try.prog.cellsOf f.type = 1 := hone_of hone.out
      have g0 := hg 0 f0 rfl
      have g1 := hg 1 f1 rfl
      have g2 := hg 2 f2 rfl
      have g3 := hg 3 f3 rfl
      have g4 := hg 4 f4 rfl
      rw [(fld 0 f0 rfl).1, (fld 0 f0 rfl).2, e0] at g0
      rw [(fld 1 f1 rfl).1, (fld 1 f1 rfl).2, e1] at g1
      rw [(fld 2 f2 rfl).1, (fld 2 f2 rfl).2, e2] at g2
      rw [(fld 3 f3 rfl).1, (fld 3 f3 rfl).2, e3] at g3
      rw [(fld 4 f4 rfl).1, (fld 4 f4 rfl).2, e4] at g4
      obtain ⟨kind, most, nn, yes, mm, rfl, rfl, rfl, rfl, hr, b0, b1, hb, k0', k1', m0', m1'⟩ := open_op_cells g0 g1 g2 g3 g4
      have q0 := hat 0 (by omega)
      have q1 := hat 1 (by omega)
      have q2 := hat 2 (by omega)
      have q3 := hat 3 (by omega)
      have q4 := hat 4 (by omega)
      obtain ⟨b, o, spot⟩ := a
      have hspot : spot = none := hsp (by omega)
      subst hspot
      simp only [addr_add_none] at q0 q1 q2 q3 q4
      refine ⟨⟨kind, most, nn, mm, yes, k0', k1', m0', m1', b0, b1⟩, ⟨b, o, rfl, ?_, ⟨_, ?_, ?_, ?_, ?_, ?_, hr⟩⟩, ?_⟩
      · exact World.block_lt_of_cell? W _ q0
      · simpa using q0
      · simpa using q1
      · simpa using q2
      · simpa using q3
      · simpa using q4
      · rw [hy.1]
        simp only [Rows.uptoBulk, List.map_cons, List.map_nil, Rows.uptoBulkAll]
        omega
    have each' : ∀ i, ∃ x : OpD, i < m → (∃ b o, a = ⟨b, o, none⟩ ∧ b < W.heap.size ∧ OpAt W W.heap.size b (o + i * 5) x) ∧ x.bytes.length + 1 ≤ Rows.uptoBulk (D i) := by
      intro i
      by_cases hik : i < m
      · obtain ⟨x, hx⟩ := each i hik
        exact ⟨x, fun _ => hx⟩
      · exact ⟨default, fun h => absurd h hik⟩
    obtain ⟨f, hff⟩ := Classical.axiomOfChoice each'
    refine ⟨(List.range c0).map f, ⟨some a, m, by simp, by simpa using hl, hcm, fun h0 => ?_⟩, ?_⟩
    · simp at h0
      obtain ⟨⟨b, o, rfl, hb, _⟩, _⟩ := hff 0 (by omega)
      refine ⟨b, o, rfl, hb, fun j hj => ?_⟩
      simp at hj
      obtain ⟨⟨b', o', he, _, hat⟩, _⟩ := hff j (by omega)
      injection he with h1 h2 _
      subst h1; subst h2
      simpa using hat
    · have h1 := bulk_map f D m (fun i h => (hff i h).2) c0 hl
      simp only [Prod.mk.injEq] at hx
      rw [hx.1]
      simp only [Rows.uptoBulk]
      omega
end Go.Proofs.Ytpcoonnfaoakhaa
