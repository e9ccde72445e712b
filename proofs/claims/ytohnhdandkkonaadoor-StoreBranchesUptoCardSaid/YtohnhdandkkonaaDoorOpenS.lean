
/- Arguments that are rows of calls on stores, opened. -/
import Derived.Test.YtohnhdandkkonaaDoorOpenM0
import Derived.Test.YtohnhdandkkonaaDoorStoU
namespace Go.Proofs.YtohnhdandkkonaaDoor
set_option maxRecDepth 100000
open Go Go.ChangeShapes Go.WideShapes Go.ChangeAt Go.RowKit Go.Deep
set_option linter.unusedVariables false

theorem list3p {α : Type} {l : List α} (h : l.length = 3) : ∃ a b c, l = [a, b, c] := by
  match l, h with
  | [a, b, c], _ => exact ⟨a, b, c, rfl⟩
theorem Tryd.sopFields : ∃ f0 f1 f2 : Field, Tryd.prog.underlying 47 = some (.struct #[f0, f1, f2]) ∧ f0.type = 3 ∧ f1.type = 9 ∧ f2.type = 29 ∧ Hid (oneCellFields Tryd.prog #[f0, f1, f2] = true) :=
  ⟨_, _, _, Tryd.underlying47, rfl, rfl, rfl, (by kernel_rfl : oneCellFields Tryd.prog _ = true)⟩
instance : Inhabited SOp := ⟨⟨0, ⟨#[]⟩, []⟩⟩
theorem bulk_sumO {H : Type} (n : Nat) (D : Nat → DataW H) (L : Nat → SOp) (h : ∀ i, i < n → (L i).val.length ≤ Rows.uptoBulk (D i)) : (((List.range n).map L).map fun f : SOp => f.val.length).sum ≤ Rows.uptoBulkAll ((List.range n).map D) := by
  have : ∀ (l : List Nat), (∀ i ∈ l, (L i).val.length ≤ Rows.uptoBulk (D i)) → ((l.map L).map fun f : SOp => f.val.length).sum ≤ Rows.uptoBulkAll (l.map D) := by
    intro l
    induction l with
    | nil => intro _; simp
    | cons x l ih =>
      intro hl
      have h1 := ih fun i hi => hl i (by simp [hi])
      have h2 := hl x (by simp)
      simp only [List.map_cons, List.sum_cons, Rows.uptoBulkAll]
      omega
  exact this _ fun i hi => h i (List.mem_range.1 hi)

theorem open_sops_arg {H : Type} {enc : TypeId × Value → H} {W : World} {v : Value} {d : DataW H} {p : List MemPlace} {base : Nat} (hv : Value.okWide Tryd.prog W .any base 45 v)
    (h : DataW.Trod enc Tryd.prog W 0 (fun _ => true) true 45 v d p) : ∃ fs : List SOp, RdOps W W.heap.size v fs ∧ (fs.map fun f : SOp => f.val.length).sum ≤ Rows.uptoBulk d ∧ fs.length ≤ Rows.uptoBulk d ∧ ∀ f ∈ fs, f.key.size ≤ maxLen := by
  obtain ⟨fuel, hf⟩ := h
  obtain ⟨b0, c0, k0, rfl⟩ := okWide_slice Tryd.underlying45 hv
  rcases open_slice Tryd.underlying45 hf with ⟨hcs, hx⟩ | ⟨a, len, cap, m, n, D, Pl, hcs, _, hl, hcm, hm, hx, hi⟩
  · simp [Value.cells] at hcs
    obtain ⟨rfl, rfl, rfl⟩ := hcs
    exact ⟨[], ⟨none, 0, rfl, by simp, by simp [maxLen], fun h => absurd h (by simp)⟩, by simp, by simp, by simp⟩
  · simp [Value.cells] at hcs
    obtain ⟨rfl, rfl, rfl⟩ := hcs
    simp only [if_true] at hm
    obtain rfl : m = k0 := hm
    simp only [Prod.mk.injEq] at hx
    have hall : ∀ i, i < m → ∃ f : SOp, ∃ x : Value, W.cell? (a.add (i * 3)) = some (.int .i64 f.kind) ∧ W.cell? ((a.add (i * 3)).add 1) = some (.string f.key) ∧ W.cell? ((a.add (i * 3)).add 2) = some x ∧ Rd W W.heap.size x f.val ∧ f.val.length ≤ Rows.uptoBulk (D i) ∧ f.key.size ≤ maxLen := fun i hi2 => by
      obtain ⟨cs, hc, ht⟩ := hi i hi2
      have h1 : Tryd.prog.cellsOf 47 = 3 := by kernel_rfl
      rw [h1] at hc
      obtain ⟨_, hcl, hat⟩ := World.cells?_some hc
      obtain ⟨x0, x1, x2, rfl⟩ := list3p hcl
      obtain ⟨f0, f1, f2, hu, e0, e1, e2, ho⟩ := Tryd.sopFields
      obtain ⟨xs, n', _, hy, _, hlen, hg⟩ := DataW.trod_struct hu ht
      obtain ⟨y0, y1, y2, rfl⟩ := list3p hlen
      have fld : ∀ (j : Nat) (f : Field), (#[f0, f1, f2] : Array Field)[j]? = some f → f.offset = j ∧ Tryd.prog.cellsOf f.type = 1 := hone_of ho.out
      have g0 := hg 0 f0 rfl
      have g1 := hg 1 f1 rfl
      have g2 := hg 2 f2 rfl
      rw [(fld 0 f0 rfl).1, (fld 0 f0 rfl).2, e0] at g0
      rw [(fld 1 f1 rfl).1, (fld 1 f1 rfl).2, e1] at g1
      rw [(fld 2 f2 rfl).1, (fld 2 f2 rfl).2, e2] at g2
      obtain ⟨z, qz, -, -⟩ := DataW.trod_int Tryd.underlying3 g0
      obtain ⟨s, q0, _, hs⟩ := DataW.trod_string Tryd.underlying9 g1
      obtain ⟨l, hr, hb⟩ := open_bytes (x := y2) Tryd.underlying29 Tryd.underlying5 (by kernel_rfl) g2
      simp at q0 qz
      subst q0 qz
      have a0 := hat 0 (by omega)
      have a1 := hat 1 (by omega)
      have a2 := hat 2 (by omega)
      have ez : ∀ x : Addr, x.add 0 = x := fun x => addP_zero x
      rw [ez] at a0
      simp at a0 a1 a2
      refine ⟨⟨z, s, l⟩, x2, a0, a1, a2, hr, ?_, hs⟩
      simp only [Prod.mk.injEq] at hy
      rw [hy.1]
      simp only [List.map_cons, List.map_nil, Rows.uptoBulk, Rows.uptoBulkAll]
      omega
    obtain ⟨L, hL⟩ := choose_lt (α := SOp) (p := fun i f => ∃ x : Value, W.cell? (a.add (i * 3)) = some (.int .i64 f.kind) ∧ W.cell? ((a.add (i * 3)).add 1) = some (.string f.key) ∧ W.cell? ((a.add (i * 3)).add 2) = some x ∧ Rd W W.heap.size x f.val ∧ f.val.length ≤ Rows.uptoBulk (D i) ∧ f.key.size ≤ maxLen) hall
    have hs := bulk_sumO (H := H) c0 D L fun i hi2 => by obtain ⟨_, _, _, _, _, h, _⟩ := hL i (by omega); exact h
    refine ⟨(List.range c0).map L, ⟨some a, m, by simp, by simpa using hl, hcm, fun h0 => ?_⟩, ?_, ?_, ?_⟩
    · simp at h0
      obtain ⟨x0, q0, _⟩ := hL 0 (by omega)
      obtain ⟨b, o, spot⟩ := a
      have hspot : spot = none := by simpa [Addr.add] using World.cell?_spot q0
      subst hspot
      refine ⟨b, o, rfl, ?_, fun j hj => ?_⟩
      · have := World.block_lt_of_cell? W _ q0
        simpa [Addr.add] using this
      · simp at hj
        obtain ⟨x, qx, qy, qz, hr, _⟩ := hL j (by omega)
        rw [addP_none', addP_none'] at qy qz
        rw [addP_none'] at qx
        exact ⟨by simpa using qx, by simpa using qy, x, qz, by simpa using hr⟩
    · rw [hx.1]
      simp only [Rows.uptoBulk]
      omega
    · rw [hx.1]
      have := bulk_len ((List.range c0).map D)
      simp only [Rows.uptoBulk]
      simp at this ⊢
      omega
    · intro f hf
      obtain ⟨i, hi2, rfl⟩ := List.mem_map.1 hf
      obtain ⟨_, _, _, _, _, _, h⟩ := hL i (by have := List.mem_range.1 hi2; omega)
      exact h
end Go.Proofs.YtohnhdandkkonaaDoor
