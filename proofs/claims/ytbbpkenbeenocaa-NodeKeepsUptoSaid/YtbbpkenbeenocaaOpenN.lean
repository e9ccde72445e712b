
/- An argument that is a script of a node's steps, opened. -/
import Derived.Test.YtbbpkenbeenocaaOpenP
import Derived.Test.YtbbpkenbeenocaaNodeTA
namespace Go.Proofs.Ytbbpkenbeenocaa
set_option maxRecDepth 100000
open Go Go.ChangeShapes Go.WideShapes Go.ChangeAt Go.RowKit Go.Deep
set_option linter.unusedVariables false

theorem list4 {α : Type} {l : List α} (h : l.length = 4) : ∃ a b c d, l = [a, b, c, d] := by
  match l, h with
  | [a, b, c, d], _ => exact ⟨a, b, c, d, rfl⟩
theorem Try.opFields7 : ∃ f0 f1 f2 f3 : Field, Try.prog.underlying 43 = some (.struct #[f0, f1, f2, f3]) ∧ f0.type = 3 ∧ f1.type = 3 ∧ f2.type = 40 ∧ f3.type = 41 ∧ Hid (oneCellFields Try.prog #[f0, f1, f2, f3] = true) :=
  ⟨_, _, _, _, Try.underlying43, rfl, rfl, rfl, rfl, (by kernel_rfl : oneCellFields Try.prog _ = true)⟩
instance : Inhabited OpN := ⟨⟨0, 0, [], [], none, 0, none, 0⟩⟩
def sumN (ops : List OpN) : Nat := (ops.map fun o => o.b.length).sum
theorem bytesN_eq (ops : List OpN) : bytesN ops = 9 * ops.length + sumN ops := by
  induction ops with
  | nil => rfl
  | cons o ops ih => simp only [bytesN, sumN, List.map_cons, List.sum_cons, List.length_cons] at ih ⊢; omega
theorem sumN_mem {ops : List OpN} {o : OpN} (h : o ∈ ops) : o.b.length ≤ sumN ops := by
  induction ops with
  | nil => cases h
  | cons x ops ih =>
    simp only [sumN, List.map_cons, List.sum_cons] at ih ⊢
    rcases List.mem_cons.1 h with rfl | h
    · omega
    · have := ih h; omega

theorem bulk_sumN {H : Type} (n : Nat) (D : Nat → DataW H) (L : Nat → OpN) (h : ∀ i, i < n → (L i).b.length ≤ Rows.uptoBulk (D i)) : sumN ((List.range n).map L) ≤ Rows.uptoBulkAll ((List.range n).map D) := by
  have : ∀ (l : List Nat), (∀ i ∈ l, (L i).b.length ≤ Rows.uptoBulk (D i)) → sumN (l.map L) ≤ Rows.uptoBulkAll (l.map D) := by
    intro l
    induction l with
    | nil => intro _; simp [sumN]
    | cons x l ih =>
      intro hl
      have h1 := ih fun i hi => hl i (by simp [hi])
      have h2 := hl x (by simp)
      simp only [sumN, List.map_cons, List.sum_cons, Rows.uptoBulkAll] at h1 ⊢
      omega
  exact this _ fun i hi => h i (List.mem_range.1 hi)
theorem open_steps_arg {H : Type} {enc : TypeId × Value → H} {W : World} {v : Value} {d : DataW H} {p : List MemPlace} {base : Nat} (hv : Value.okWide Try.prog W .any base 23 v)
    (h : DataW.Trod enc Try.prog W 0 (fun _ => true) true 23 v d p) : ∃ ops : List OpN, RdOpsN W W.heap.size v ops ∧ sumN ops ≤ Rows.uptoBulk d ∧ ops.length ≤ Rows.uptoBulk d ∧ ∀ o ∈ ops, o.ks.length ≤ Rows.uptoBulk d := by
  obtain ⟨fuel, hf⟩ := h
  obtain ⟨b0, c0, k0, rfl⟩ := okWide_slice Try.underlying23 hv
  rcases open_slice Try.underlying23 hf with ⟨hcs, hx⟩ | ⟨a, len, cap, m, n, D, Pl, hcs, _, hl, hcm, hm, hx, hi⟩
  · simp [Value.cells] at hcs
    obtain ⟨rfl, rfl, rfl⟩ := hcs
    exact ⟨[], ⟨none, 0, rfl, by simp, by simp [maxLen], fun h => absurd h (by simp)⟩, by simp [sumN], by simp, by simp⟩
  · simp [Value.cells] at hcs
    obtain ⟨rfl, rfl, rfl⟩ := hcs
    simp only [if_true] at hm
    obtain rfl : m = k0 := hm
    simp only [Prod.mk.injEq] at hx
    have hall : ∀ i, i < m → ∃ f : OpN, W.cell? (a.add (i * 4)) = some (.int .i64 f.k) ∧ W.cell? ((a.add (i * 4)).add 1) = some (.int .i64 f.n) ∧ W.cell? ((a.add (i * 4)).add 2) = some (.slice f.A1 f.b.length f.c1) ∧ W.cell? ((a.add (i * 4)).add 3) = some (.slice f.A2 f.ks.length f.c2) ∧ f.At W W.heap.size ∧ f.b.length ≤ Rows.uptoBulk (D i) ∧ f.ks.length ≤ Rows.uptoBulk (D i) := fun i hi2 => by
      obtain ⟨cs, hc, ht⟩ := hi i hi2
      have h1 : Try.prog.cellsOf 43 = 4 := by kernel_rfl
      rw [h1] at hc
      obtain ⟨_, hcl, hat⟩ := World.cells?_some hc
      obtain ⟨x0, x1, x2, x3, rfl⟩ := list4 hcl
      obtain ⟨f0, f1, f2, f3, hu, e0, e1, e2, e3, ho⟩ := Try.opFields7
      obtain ⟨xs, n', _, hy, _, hlen, hg⟩ := DataW.trod_struct hu ht
      obtain ⟨y0, y1, y2, y3, rfl⟩ := list4 hlen
      have fld : ∀ (j : Nat) (f : Field), (#[f0, f1, f2, f3] : Array Field)[j]? = some f → f.offset = j ∧ Try.prog.cellsOf f.type = 1 := hone_of ho.out
      have g0 := hg 0 f0 rfl
      have g1 := hg 1 f1 rfl
      have g2 := hg 2 f2 rfl
      have g3 := hg 3 f3 rfl
      rw [(fld 0 f0 rfl).1, (fld 0 f0 rfl).2, e0] at g0
      rw [(fld 1 f1 rfl).1, (fld 1 f1 rfl).2, e1] at g1
      rw [(fld 2 f2 rfl).1, (fld 2 f2 rfl).2, e2] at g2
      rw [(fld 3 f3 rfl).1, (fld 3 f3 rfl).2, e3] at g3
      obtain ⟨kk, q0, _, w0⟩ := DataW.trod_int Try.underlying3 g0
      obtain ⟨nn, q1, _, w1⟩ := DataW.trod_int Try.underlying3 g1
      obtain ⟨l, hr, hb⟩ := open_bytes (x := y2) Try.underlying40 Try.underlying5 (by kernel_rfl) g2
      obtain ⟨ks, hk, hkb⟩ := open_bools_cell (x := y3) g3
      simp at q0 q1
      subst q0 q1
      have b1 : -9223372036854775808 ≤ nn ∧ nn ≤ 9223372036854775807 := by simpa [Lit.wf, IntKind.min, IntKind.max, IntKind.signed, IntKind.bits] using w1
      have hr' := hr
      obtain ⟨A1, c1, rfl, _⟩ := hr'
      obtain ⟨A2, c2, rfl, _, _⟩ := hk.form
      have a0 := hat 0 (by omega)
      have a1 := hat 1 (by omega)
      have a2 := hat 2 (by omega)
      have a3 := hat 3 (by omega)
      have ez : ∀ x : Addr, x.add 0 = x := fun x => addr_add_zero x
      rw [ez] at a0
      simp at a0 a1 a2 a3
      simp only [Prod.mk.injEq] at hy
      refine ⟨⟨kk, nn, l, ks, A1, c1, A2, c2⟩, a0, a1, a2, a3, ⟨b1, hr, hk⟩, ?_, ?_⟩
      all_goals
        rw [hy.1]
        simp only [List.map_cons, List.map_nil, Rows.uptoBulk, Rows.uptoBulkAll]
        omega
    obtain ⟨L, hL⟩ := choose_lt (α := OpN) (p := fun i f => W.cell? (a.add (i * 4)) = some (.int .i64 f.k) ∧ W.cell? ((a.add (i * 4)).add 1) = some (.int .i64 f.n) ∧ W.cell? ((a.add (i * 4)).add 2) = some (.slice f.A1 f.b.length f.c1) ∧ W.cell? ((a.add (i * 4)).add 3) = some (.slice f.A2 f.ks.length f.c2) ∧ f.At W W.heap.size ∧ f.b.length ≤ Rows.uptoBulk (D i) ∧ f.ks.length ≤ Rows.uptoBulk (D i)) hall
    have hs := bulk_sumN (H := H) c0 D L fun i hi2 => (hL i (by omega)).2.2.2.2.2.1
    refine ⟨(List.range c0).map L, ⟨some a, m, by simp, by simpa using hl, hcm, fun h0 => ?_⟩, ?_, ?_, ?_⟩
    · simp at h0
      have q0 := (hL 0 (by omega)).1
      obtain ⟨b, o, spot⟩ := a
      have hspot : spot = none := by simpa [Addr.add] using World.cell?_spot q0
      subst hspot
      refine ⟨b, o, rfl, ?_, fun j hj => ?_⟩
      · have := World.block_lt_of_cell? W _ q0
        simpa [Addr.add] using this
      · simp at hj
        obtain ⟨r0, r1, r2, r3, r4, _⟩ := hL j (by omega)
        rw [addr_add_none', addr_add_none'] at r1 r2 r3
        rw [addr_add_none'] at r0
        exact ⟨by simpa using r0, by simpa using r1, by simpa using r2, by simpa using r3, by simpa using r4⟩
    · rw [hx.1]
      simp only [Rows.uptoBulk]
      omega
    · rw [hx.1]
      have := bulk_len ((List.range c0).map D)
      simp only [Rows.uptoBulk]
      simp at this ⊢
      omega
    · intro o ho
      obtain ⟨i, hi2, rfl⟩ := List.mem_map.1 ho
      have hi3 := List.mem_range.1 hi2
      have h1 := (hL i (by omega)).2.2.2.2.2.2
      have h2 := bulk_one ((List.range c0).map D) (D i) (List.mem_map.2 ⟨i, hi2, rfl⟩)
      rw [hx.1]
      simp only [Rows.uptoBulk]
      omega
end Go.Proofs.Ytbbpkenbeenocaa
