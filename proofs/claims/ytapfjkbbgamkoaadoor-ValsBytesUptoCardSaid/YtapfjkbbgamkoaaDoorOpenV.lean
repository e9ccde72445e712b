/- Arguments that are lists of validators or of texts, opened. -/
import Derived.Test.YtapfjkbbgamkoaaDoorOpen
import Derived.Test.YtapfjkbbgamkoaaDoorValA
import Derived.Deep.Strs
namespace Go.Proofs.YtapfjkbbgamkoaaDoor
open Go Go.ChangeShapes Go.WideShapes Go.ChangeAt Go.RowKit Go.Deep

theorem list2 {α : Type} {l : List α} (h : l.length = 2) : ∃ a b, l = [a, b] := by
  match l, h with
  | [a, b], _ => exact ⟨a, b, rfl⟩
theorem Tryd.valFields : ∃ f0 f1 : Field, Tryd.prog.underlying 40 = some (.struct #[f0, f1]) ∧ f0.type = 9 ∧ f1.type = 26 ∧ Hid (oneCellFields Tryd.prog #[f0, f1] = true) :=
  ⟨_, _, Tryd.underlying40, rfl, rfl, (by kernel_rfl : oneCellFields Tryd.prog _ = true)⟩

theorem slice_bulk {H : Type} (l r : List (DataW H)) : l.length ≤ Rows.uptoBulk (.slice l r) := by
  have := bulk_len l
  simp only [Rows.uptoBulk]
  omega

theorem open_strs_arg {H : Type} {enc : TypeId × Value → H} {W : World} {v : Value} {d : DataW H} {p : List MemPlace} {base : Nat} (hv : Value.okWide Tryd.prog W .any base 23 v)
    (h : DataW.Trod enc Tryd.prog W 0 (fun _ => true) true 23 v d p) : ∃ l : List ByteArray, StrsAt W W.heap.size v l ∧ l.length ≤ Rows.uptoBulk d := by
  obtain ⟨fuel, hf⟩ := h
  obtain ⟨b0, c0, k0, rfl⟩ := okWide_slice Tryd.underlying23 hv
  rcases open_strs Tryd.underlying23 Tryd.underlying9 (by kernel_rfl) hf with ⟨hcs, hx⟩ | ⟨a, len, cap, m, Sx, hcs, _, hl, hcm, hm, hx, hi⟩
  · simp [Value.cells] at hcs
    obtain ⟨rfl, rfl, rfl⟩ := hcs
    exact ⟨[], StrsAt.nil _ _, by simp⟩
  · simp [Value.cells] at hcs
    obtain ⟨rfl, rfl, rfl⟩ := hcs
    simp only [if_true] at hm
    obtain rfl : m = k0 := hm
    simp only [Prod.mk.injEq] at hx
    refine ⟨(List.range c0).map Sx, ⟨some a, m, by simp, by simpa using hl, hcm, fun x hx => ?_, fun h0 => ?_⟩, ?_⟩
    · obtain ⟨i, hi2, rfl⟩ := List.mem_map.1 hx
      exact (hi i (by have := List.mem_range.1 hi2; omega)).2
    · simp at h0
      have q0 := (hi 0 (by omega)).1
      obtain ⟨b, o, spot⟩ := a
      have hspot : spot = none := by simpa [Addr.add] using World.cell?_spot q0
      subst hspot
      refine ⟨b, o, rfl, ?_, fun j hj => ?_⟩
      · have := World.block_lt_of_cell? W _ q0
        simpa [Addr.add] using this
      · simp at hj
        have qj := (hi j (by omega)).1
        rw [addr_add_none] at qj
        rw [qj]
        simp
    · rw [hx.1]
      have := slice_bulk ((List.range c0).map fun i => DataW.lit (H := H) (.string (Sx i).data.toList)) ((List.range (m - c0)).map fun j => .lit (.string (Sx (c0 + j)).data.toList))
      simpa using this

theorem open_val_cells {H : Type} {enc : TypeId × Value → H} {W : World} {c0 c1 : Value} {y0 y1 : DataW H × List MemPlace} {n : Nat}
    (t0 : DataW.trod enc Tryd.prog W 0 (fun _ => true) true n 9 [c0] = some y0) (t1 : DataW.trod enc Tryd.prog W 0 (fun _ => true) true n 26 [c1] = some y1) :
    ∃ x : VD, c0 = .string x.name ∧ c1 = .int .u64 (x.power : Int) ∧ x.fits := by
  obtain ⟨s, e0, _, hs⟩ := DataW.trod_string Tryd.underlying9 t0
  obtain ⟨z, e1, _, hw⟩ := DataW.trod_int Tryd.underlying26 t1
  have h2 : 0 ≤ z ∧ z ≤ 18446744073709551615 := by simpa [Lit.wf, IntKind.min, IntKind.max, IntKind.signed, IntKind.bits] using hw
  obtain ⟨k, rfl⟩ := Int.eq_ofNat_of_zero_le h2.1
  simp at e0 e1
  exact ⟨⟨s, k⟩, e0, e1, hs, by show k < 18446744073709551616; omega⟩

instance : Inhabited VD := ⟨⟨⟨#[]⟩, 0⟩⟩

theorem open_vals_arg {H : Type} {enc : TypeId × Value → H} {W : World} {v : Value} {d : DataW H} {p : List MemPlace} {base : Nat} (hv : Value.okWide Tryd.prog W .any base 22 v)
    (h : DataW.Trod enc Tryd.prog W 0 (fun _ => true) true 22 v d p) : ∃ l : List VD, ValsAt W W.heap.size v l ∧ l.length ≤ Rows.uptoBulk d := by
  obtain ⟨fuel, hf⟩ := h
  obtain ⟨b0, c0, k0, rfl⟩ := okWide_slice Tryd.underlying22 hv
  rcases open_slice Tryd.underlying22 hf with ⟨hcs, hx⟩ | ⟨a, len, cap, m, n, D, Pl, hcs, _, hl, hcm, hm, hx, hi⟩
  · simp [Value.cells] at hcs
    obtain ⟨rfl, rfl, rfl⟩ := hcs
    exact ⟨[], ⟨none, 0, rfl, by simp, by simp [maxLen], fun _ h => absurd h (by simp), fun h => absurd h (by simp)⟩, by simp⟩
  · simp [Value.cells] at hcs
    obtain ⟨rfl, rfl, rfl⟩ := hcs
    simp only [if_true] at hm
    obtain rfl : m = k0 := hm
    have hC : Tryd.prog.cellsOf 40 = 2 := by kernel_rfl
    obtain ⟨f0, f1, hu, e0, e1, hone⟩ := Tryd.valFields
    have hsp : 0 < m → a.spot = none := by
      intro h0
      obtain ⟨cs, hc, _⟩ := hi 0 h0
      rw [hC] at hc
      obtain ⟨_, hcl, hat⟩ := World.cells?_some hc
      obtain ⟨x0, x1, rfl⟩ := list2 hcl
      have := World.cell?_spot (hat 0 (by omega))
      simpa [Addr.add] using this
    have each : ∀ i, i < m → ∃ x : VD, ∃ b o, a = ⟨b, o, none⟩ ∧ b < W.heap.size ∧ ValAt W b (o + i * 2) x ∧ x.fits := by
      intro i hik
      obtain ⟨cs, hc, ht⟩ := hi i hik
      rw [hC] at hc
      obtain ⟨_, hcl, hat⟩ := World.cells?_some hc
      obtain ⟨x0, x1, rfl⟩ := list2 hcl
      obtain ⟨xs, n', _, hy, _, hlen, hg⟩ := DataW.trod_struct hu ht
      obtain ⟨y0, y1, rfl⟩ := list2 hlen
      have fld : ∀ (j : Nat) (f : Field), (#[f0, f1] : Array Field)[j]? = some f → f.offset = j ∧ Tryd.prog.cellsOf f.type = 1 := hone_of hone.out
      have g0 := hg 0 f0 rfl
      have g1 := hg 1 f1 rfl
      rw [(fld 0 f0 rfl).1, (fld 0 f0 rfl).2, e0] at g0
      rw [(fld 1 f1 rfl).1, (fld 1 f1 rfl).2, e1] at g1
      obtain ⟨x, rfl, rfl, hxf⟩ := open_val_cells g0 g1
      have q0 := hat 0 (by omega)
      have q1 := hat 1 (by omega)
      obtain ⟨b, o, spot⟩ := a
      have hspot : spot = none := hsp (by omega)
      subst hspot
      simp only [addr_add_none] at q0 q1
      exact ⟨x, b, o, rfl, World.block_lt_of_cell? W _ q0, ⟨by simpa using q0, by simpa using q1⟩, hxf⟩
    have each' : ∀ i, ∃ x : VD, i < m → ∃ b o, a = ⟨b, o, none⟩ ∧ b < W.heap.size ∧ ValAt W b (o + i * 2) x ∧ x.fits := by
      intro i
      by_cases hik : i < m
      · obtain ⟨x, hx⟩ := each i hik
        exact ⟨x, fun _ => hx⟩
      · exact ⟨default, fun h => absurd h hik⟩
    obtain ⟨f, hff⟩ := Classical.axiomOfChoice each'
    simp only [Prod.mk.injEq] at hx
    refine ⟨(List.range c0).map f, ⟨some a, m, by simp, by simpa using hl, hcm, fun x hx => ?_, fun h0 => ?_⟩, ?_⟩
    · obtain ⟨i, hi2, rfl⟩ := List.mem_map.1 hx
      obtain ⟨_, _, _, _, _, h⟩ := hff i (by have := List.mem_range.1 hi2; omega)
      exact h
    · simp at h0
      obtain ⟨b, o, rfl, hb, _⟩ := hff 0 (by omega)
      refine ⟨b, o, rfl, hb, fun j hj => ?_⟩
      simp at hj
      obtain ⟨b', o', he, _, hat, _⟩ := hff j (by omega)
      injection he with h1 h2 _
      subst h1; subst h2
      simpa using hat
    · rw [hx.1]
      have := slice_bulk ((List.range c0).map D) ((List.range (m - c0)).map fun j => D (c0 + j))
      simpa using this
end Go.Proofs.YtapfjkbbgamkoaaDoor
