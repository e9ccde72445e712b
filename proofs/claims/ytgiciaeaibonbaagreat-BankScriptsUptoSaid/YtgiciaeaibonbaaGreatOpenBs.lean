
/- An argument that is a script of the bank, opened. -/
import Derived.Test.YtgiciaeaibonbaaGreatOpenBk0
import Derived.Test.YtgiciaeaibonbaaGreatOpenM0
import Derived.Test.YtgiciaeaibonbaaGreatBankP0
namespace Go.Proofs.YtgiciaeaibonbaaGreat
set_option maxRecDepth 100000
open Go Go.ChangeShapes Go.WideShapes Go.ChangeAt Go.RowKit Go.Deep
set_option linter.unusedVariables false

instance : Inhabited BOp := ⟨⟨0, ⟨#[]⟩, ⟨#[]⟩, ⟨#[]⟩, U4.zero⟩⟩
theorem bulk_each {H : Type} (n : Nat) (D : Nat → DataW H) (i : Nat) (hi : i < n) : Rows.uptoBulk (D i) ≤ Rows.uptoBulkAll ((List.range n).map D) := by
  have : ∀ (l : List Nat), i ∈ l → Rows.uptoBulk (D i) ≤ Rows.uptoBulkAll (l.map D) := by
    intro l
    induction l with
    | nil => intro h; cases h
    | cons x l ih =>
      intro h
      simp only [List.map_cons, Rows.uptoBulkAll]
      rcases List.mem_cons.1 h with rfl | h
      · omega
      · have := ih h; omega
  exact this _ (List.mem_range.2 hi)
theorem open_bops_arg {H : Type} {enc : TypeId × Value → H} {W : World} {v : Value} {d : DataW H} {p : List MemPlace} {base : Nat} (hv : Value.okWide Tryz.prog W .any base 23 v)
    (h : DataW.Trod enc Tryz.prog W 0 (fun _ => true) true 23 v d p) (hd : Rows.uptoBulk d ≤ 100000000) : ∃ fs : List BOp, RdB W W.heap.size v fs ∧ fs.length ≤ Rows.uptoBulk d ∧ ∀ f ∈ fs, f.fine := by
  obtain ⟨fuel, hf⟩ := h
  obtain ⟨b0, c0, k0, rfl⟩ := okWide_slice Tryz.underlying23 hv
  rcases open_slice Tryz.underlying23 hf with ⟨hcs, hx⟩ | ⟨a, len, cap, m, n, D, Pl, hcs, _, hl, hcm, hm, hx, hi⟩
  · simp [Value.cells] at hcs
    obtain ⟨rfl, rfl, rfl⟩ := hcs
    exact ⟨[], ⟨none, 0, rfl, by simp, by simp [maxLen], fun h => absurd h (by simp)⟩, by simp, by simp⟩
  · simp [Value.cells] at hcs
    obtain ⟨rfl, rfl, rfl⟩ := hcs
    simp only [if_true] at hm
    obtain rfl : m = k0 := hm
    simp only [Prod.mk.injEq] at hx
    have hall : ∀ i, i < m → ∃ f : BOp, (∀ j, j < 8 → W.cell? ((a.add (i * 8)).add j) = f.cells[j]?) ∧ f.x.ok ∧ f.a.size + f.c.size + f.d.size ≤ Rows.uptoBulk (D i) := fun i hi2 => by
      obtain ⟨cs, hc, ht⟩ := hi i hi2
      have h1 : Tryz.prog.cellsOf 36 = 8 := by kernel_rfl
      rw [h1] at hc
      obtain ⟨_, hcl, hat⟩ := World.cells?_some hc
      obtain ⟨k, s1, s2, s3, x, rfl, hx, hb⟩ := trod_bop hcl ht
      exact ⟨⟨k, s1, s2, s3, x⟩, fun j hj => hat j hj, hx, hb⟩
    obtain ⟨L, hL⟩ := choose_lt (α := BOp) (p := fun i f => (∀ j, j < 8 → W.cell? ((a.add (i * 8)).add j) = f.cells[j]?) ∧ f.x.ok ∧ f.a.size + f.c.size + f.d.size ≤ Rows.uptoBulk (D i)) hall
    have hbd : Rows.uptoBulkAll ((List.range c0).map D) + 1 ≤ Rows.uptoBulk d := by
      rw [hx.1]
      simp only [Rows.uptoBulk]
      omega
    have hbl := bulk_len ((List.range c0).map D)
    simp at hbl
    refine ⟨(List.range c0).map L, ⟨some a, m, by simp, by simpa using hl, hcm, fun h0 => ?_⟩, ?_, ?_⟩
    · simp at h0
      obtain ⟨q0, _⟩ := hL 0 (by omega)
      have q00 := q0 0 (by omega)
      obtain ⟨b, o, spot⟩ := a
      have hspot : spot = none := by
        have q1 : W.cell? (((⟨b, o, spot⟩ : Addr).add (0 * 8)).add 0) = some (.int .i64 (L 0).kd) := q00
        simpa [Addr.add] using World.cell?_spot q1
      subst hspot
      refine ⟨b, o, rfl, ?_, fun j hj i hi8 => ?_⟩
      · have q1 : W.cell? (((⟨b, o, none⟩ : Addr).add (0 * 8)).add 0) = some (.int .i64 (L 0).kd) := q00
        have := World.block_lt_of_cell? W _ q1
        simpa [Addr.add] using this
      · simp at hj
        obtain ⟨qx, _⟩ := hL j (by omega)
        have q := qx i hi8
        rw [addP_none, addP_none] at q
        simpa using q
    · simp
      omega
    · intro f hf
      obtain ⟨i, hi2, rfl⟩ := List.mem_map.1 hf
      have hi3 := List.mem_range.1 hi2
      obtain ⟨_, hx, hb⟩ := hL i (by omega)
      have he := bulk_each c0 D i hi3
      exact ⟨hx, by omega, by omega, by omega⟩
end Go.Proofs.YtgiciaeaibonbaaGreat
