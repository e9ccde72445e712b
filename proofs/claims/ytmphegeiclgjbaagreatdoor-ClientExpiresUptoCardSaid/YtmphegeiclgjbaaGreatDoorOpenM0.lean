
/- Arguments that are pairs, opened. Arguments that are proofs (leaves with their ways), opened. -/
import Derived.Test.YtmphegeiclgjbaaGreatDoorOpenB0
import Derived.Test.YtmphegeiclgjbaaGreatDoorMerkA1
import Derived.Deep.Grids
import Derived.Test.YtmphegeiclgjbaaGreatDoorMerkE1
namespace Go.Proofs.YtmphegeiclgjbaaGreatDoor
set_option maxRecDepth 100000
open Go Go.ChangeShapes Go.WideShapes Go.ChangeAt Go.RowKit Go.Deep
set_option linter.unusedVariables false

theorem list2p {α : Type} {l : List α} (h : l.length = 2) : ∃ a b, l = [a, b] := by
  match l, h with
  | [a, b], _ => exact ⟨a, b, rfl⟩
theorem Tryz.pairFields : ∃ f0 f1 : Field, Tryz.prog.underlying 74 = some (.struct #[f0, f1]) ∧ f0.type = 9 ∧ f1.type = 32 ∧ Hid (oneCellFields Tryz.prog #[f0, f1] = true) :=
  ⟨_, _, Tryz.underlying74, rfl, rfl, (by kernel_rfl : oneCellFields Tryz.prog _ = true)⟩
instance : Inhabited (ByteArray × List UInt8) := ⟨(⟨#[]⟩, [])⟩
theorem addP_none (b o k : Nat) : ((⟨b, o, none⟩ : Addr).add k) = ⟨b, o + k, none⟩ := by simp [Addr.add]
theorem addP_zero (a : Addr) : a.add 0 = a := by
  obtain ⟨b, o, s⟩ := a
  cases s <;> simp [Addr.add]
theorem addP_none' (b o k : Nat) : ((⟨b, o, none⟩ : Addr).add k) = ⟨b, o + k, none⟩ := by simp [Addr.add]

theorem bulk_sumP {H : Type} (n : Nat) (D : Nat → DataW H) (L : Nat → ByteArray × List UInt8) (h : ∀ i, i < n → (L i).2.length ≤ Rows.uptoBulk (D i)) : (((List.range n).map L).map fun f => f.2.length).sum ≤ Rows.uptoBulkAll ((List.range n).map D) := by
  have : ∀ (l : List Nat), (∀ i ∈ l, (L i).2.length ≤ Rows.uptoBulk (D i)) → ((l.map L).map fun f => f.2.length).sum ≤ Rows.uptoBulkAll (l.map D) := by
    intro l
    induction l with
    | nil => intro _; simp
    | cons x l ih =>
      intro hl
      have h1 := ih fun i hi => hl i (by simp [hi])
      have h2 := hl x (by simp)
      simp only [List.map_cons, List.sum_cons, Rows.uptoBulkAll]
      omega
  exact this _ fun i hi => h i (List.mem_range.1 hi)

theorem open_pairs_arg {H : Type} {enc : TypeId × Value → H} {W : World} {v : Value} {d : DataW H} {p : List MemPlace} {base : Nat} (hv : Value.okWide Tryz.prog W .any base 22 v)
    (h : DataW.Trod enc Tryz.prog W 0 (fun _ => true) true 22 v d p) : ∃ fs : List (ByteArray × List UInt8), RdP W W.heap.size v fs ∧ (fs.map fun f => f.2.length).sum ≤ Rows.uptoBulk d ∧ fs.length ≤ Rows.uptoBulk d ∧ ∀ f ∈ fs, f.1.size ≤ maxLen := by
  obtain ⟨fuel, hf⟩ := h
  obtain ⟨b0, c0, k0, rfl⟩ := okWide_slice Tryz.underlying22 hv
  rcases open_slice Tryz.underlying22 hf with ⟨hcs, hx⟩ | ⟨a, len, cap, m, n, D, Pl, hcs, _, hl, hcm, hm, hx, hi⟩
  · simp [Value.cells] at hcs
    obtain ⟨rfl, rfl, rfl⟩ := hcs
    exact ⟨[], ⟨none, 0, rfl, by simp, by simp [maxLen], fun h => absurd h (by simp)⟩, by simp, by simp, by simp⟩
  · simp [Value.cells] at hcs
    obtain ⟨rfl, rfl, rfl⟩ := hcs
    simp only [if_true] at hm
    obtain rfl : m = k0 := hm
    simp only [Prod.mk.injEq] at hx
    have hall : ∀ i, i < m → ∃ f : ByteArray × List UInt8, ∃ x : Value, W.cell? (a.add (i * 2)) = some (.string f.1) ∧ W.cell? ((a.add (i * 2)).add 1) = some x ∧ Rd W W.heap.size x f.2 ∧ f.2.length ≤ Rows.uptoBulk (D i) ∧ f.1.size ≤ maxLen := fun i hi2 => by
      obtain ⟨cs, hc, ht⟩ := hi i hi2
      have h1 : Tryz.prog.cellsOf 74 = 2 := by kernel_rfl
      rw [h1] at hc
      obtain ⟨_, hcl, hat⟩ := World.cells?_some hc
      obtain ⟨x0, x1, rfl⟩ := list2p hcl
      obtain ⟨f0, f1, hu, e0, e1, ho⟩ := Tryz.pairFields
      obtain ⟨xs, n', _, hy, _, hlen, hg⟩ := DataW.trod_struct hu ht
      obtain ⟨y0, y1, rfl⟩ := list2p hlen
      have fld : ∀ (j : Nat) (f : Field), (#[f0, f1] : Array Field)[j]? = some f → f.offset = j ∧ Tryz.prog.cellsOf f.type = 1 := hone_of ho.out
      have g0 := hg 0 f0 rfl
      have g1 := hg 1 f1 rfl
      rw [(fld 0 f0 rfl).1, (fld 0 f0 rfl).2, e0] at g0
      rw [(fld 1 f1 rfl).1, (fld 1 f1 rfl).2, e1] at g1
      obtain ⟨s, q0, _, hs⟩ := DataW.trod_string Tryz.underlying9 g0
      obtain ⟨l, hr, hb⟩ := open_bytes (x := y1) Tryz.underlying32 Tryz.underlying5 (by kernel_rfl) g1
      simp at q0
      subst q0
      have a0 := hat 0 (by omega)
      have a1 := hat 1 (by omega)
      have ez : ∀ x : Addr, x.add 0 = x := fun x => addP_zero x
      rw [ez] at a0
      simp at a0 a1
      refine ⟨(s, l), x1, a0, a1, hr, ?_, hs⟩
      simp only [Prod.mk.injEq] at hy
      rw [hy.1]
      simp only [List.map_cons, List.map_nil, Rows.uptoBulk, Rows.uptoBulkAll]
      omega
    obtain ⟨L, hL⟩ := choose_lt (α := ByteArray × List UInt8) (p := fun i f => ∃ x : Value, W.cell? (a.add (i * 2)) = some (.string f.1) ∧ W.cell? ((a.add (i * 2)).add 1) = some x ∧ Rd W W.heap.size x f.2 ∧ f.2.length ≤ Rows.uptoBulk (D i) ∧ f.1.size ≤ maxLen) hall
    have hs := bulk_sumP (H := H) c0 D L fun i hi2 => by obtain ⟨_, _, _, _, h, _⟩ := hL i (by omega); exact h
    refine ⟨(List.range c0).map L, ⟨some a, m, by simp, by simpa using hl, hcm, fun h0 => ?_⟩, ?_, ?_, ?_⟩
    · simp at h0
      obtain ⟨x0, q0, _⟩ := hL 0 (by omega)
      obtain ⟨b, o, spot⟩ := a
      have hspot : spot = none := by simpa [Addr.add] using World.cell?_spot q0
      subst hspot
      refine ⟨b, o, rfl, ?_, fun j hj => ?_⟩
      · have := World.block_lt_of_cell? W _ q0
        simpa [Addr.add] using this
      · simp at hj
        obtain ⟨x, qx, qy, hr, _⟩ := hL j (by omega)
        rw [addP_none', addP_none'] at qy
        rw [addP_none'] at qx
        exact ⟨by simpa using qx, x, qy, by simpa using hr⟩
    · rw [hx.1]
      simp only [Rows.uptoBulk]
      omega
    · rw [hx.1]
      have := bulk_len ((List.range c0).map D)
      simp only [Rows.uptoBulk]
      simp at this ⊢
      omega
    · intro f hf
      obtain ⟨i, hi2, rfl⟩ := List.mem_map.1 hf
      obtain ⟨_, _, _, _, _, h⟩ := hL i (by have := List.mem_range.1 hi2; omega)
      exact h
end Go.Proofs.YtmphegeiclgjbaaGreatDoor
namespace Go.Proofs.YtmphegeiclgjbaaGreatDoor
set_option maxRecDepth 100000
open Go Go.ChangeShapes Go.WideShapes Go.ChangeAt Go.RowKit Go.Deep
set_option linter.unusedVariables false

section
variable {H : Type} {enc : TypeId × Value → H} {W : World} {fuel : Nat}
instance : Inhabited Lf := ⟨⟨0, ⟨#[]⟩, [], []⟩⟩
theorem list4p {α : Type} {l : List α} (h : l.length = 4) : ∃ a b c d, l = [a, b, c, d] := by
  match l, h with
  | [a, b, c, d], _ => exact ⟨a, b, c, d, rfl⟩
theorem open_path {v : Value} {x : DataW H × List MemPlace} (h : DataW.trod enc Tryz.prog W 0 (fun _ => true) true fuel 109 [v] = some x) : ∃ ls : List (List UInt8), PathV W W.heap.size v ls := by
  rcases open_slice1 Tryz.underlying109 (by kernel_rfl) h with ⟨hcs, _⟩ | ⟨a, len, cap, m, n, V, D, Pl, hcs, _, hl, hcm, hm, hx, hi⟩
  · simp at hcs
    subst hcs
    exact ⟨[], PathV.none_ none 0 (by simp [maxLen])⟩
  · simp at hcs
    subst hcs
    simp only [if_true] at hm
    subst hm
    have hall : ∀ i, i < m → ∃ l : List UInt8, Rd W W.heap.size (V i) l := fun i hi2 => by
      obtain ⟨l, hr, _⟩ := open_bytes Tryz.underlying32 Tryz.underlying5 (by kernel_rfl) (hi i hi2).2
      exact ⟨l, hr⟩
    obtain ⟨L, hL⟩ := choose_lt (α := List UInt8) (p := fun i l => Rd W W.heap.size (V i) l) hall
    refine ⟨(List.range len).map L, some a, m, by simp, by simpa using hl, hcm, fun h0 => ?_⟩
    simp at h0
    have q0 := (hi 0 (by omega)).1
    obtain ⟨b, o, spot⟩ := a
    have hspot : spot = none := by simpa [Addr.add] using World.cell?_spot q0
    subst hspot
    refine ⟨b, o, rfl, ?_, fun j hj => ?_⟩
    · have := World.block_lt_of_cell? W _ q0
      simpa [Addr.add] using this
    · simp at hj
      have qj := (hi j (by omega)).1
      rw [addP_none] at qj
      exact ⟨V j, qj, by simpa using hL j (by omega)⟩
theorem Tryz.leafFields : ∃ f0 f1 f2 f3 : Field, Tryz.prog.underlying 111 = some (.struct #[f0, f1, f2, f3]) ∧ f0.type = 3 ∧ f1.type = 9 ∧ f2.type = 32 ∧ f3.type = 109 ∧ Hid (oneCellFields Tryz.prog #[f0, f1, f2, f3] = true) :=
  ⟨_, _, _, _, Tryz.underlying111, rfl, rfl, rfl, rfl, (by kernel_rfl : oneCellFields Tryz.prog _ = true)⟩
theorem open_leaf {cs : List Value} {x : DataW H × List MemPlace} (h : DataW.trod enc Tryz.prog W 0 (fun _ => true) true fuel 111 cs = some x) : ∃ (l : Lf) (sv pv : Value), cs = [.int .i64 l.at_, .string l.key, sv, pv] ∧ LeafV W W.heap.size (.agg #[.int .i64 l.at_, .string l.key, sv, pv]) l := by
  obtain ⟨f0, f1, f2, f3, hu, e0, e1, e2, e3, hone⟩ := Tryz.leafFields
  have hC : Tryz.prog.cellsOf 111 = 4 := by kernel_rfl
  obtain ⟨xs, n', _, hy, hcl, hlen, hg⟩ := DataW.trod_struct hu h
  obtain ⟨x0, x1, x2, x3, rfl⟩ := list4p (hcl.trans hC)
  obtain ⟨y0, y1, y2, y3, rfl⟩ := list4p hlen
  have fld : ∀ (j : Nat) (f : Field), (#[f0, f1, f2, f3] : Array Field)[j]? = some f → f.offset = j ∧ Tryz.prog.cellsOf f.type = 1 := hone_of hone.out
  have g0 := hg 0 f0 rfl
  have g1 := hg 1 f1 rfl
  have g2 := hg 2 f2 rfl
  have g3 := hg 3 f3 rfl
  rw [(fld 0 f0 rfl).1, (fld 0 f0 rfl).2, e0] at g0
  rw [(fld 1 f1 rfl).1, (fld 1 f1 rfl).2, e1] at g1
  rw [(fld 2 f2 rfl).1, (fld 2 f2 rfl).2, e2] at g2
  rw [(fld 3 f3 rfl).1, (fld 3 f3 rfl).2, e3] at g3
  obtain ⟨z, ez, _, hw⟩ := DataW.trod_int Tryz.underlying3 g0
  obtain ⟨s, es, _, hs⟩ := DataW.trod_string Tryz.underlying9 g1
  obtain ⟨l, hl, _⟩ := open_bytes (v := x2) Tryz.underlying32 Tryz.underlying5 (by kernel_rfl) g2
  obtain ⟨p, hp⟩ := open_path (v := x3) g3
  simp at ez es
  subst ez; subst es
  have b0 : -9223372036854775808 ≤ z ∧ z ≤ 9223372036854775807 := by simpa [Lit.wf, IntKind.min, IntKind.max, IntKind.signed, IntKind.bits] using hw
  exact ⟨⟨z, s, l, p⟩, x2, x3, rfl, x2, x3, rfl, hl, hp, hs, b0.1, b0.2⟩
theorem open_leaves {v : Value} {x : DataW H × List MemPlace} (h : DataW.trod enc Tryz.prog W 0 (fun _ => true) true fuel 39 [v] = some x) : ∃ ls : List Lf, LeavesV W W.heap.size v ls := by
  rcases open_slice Tryz.underlying39 h with ⟨hcs, _⟩ | ⟨a, len, cap, m, n, D, Pl, hcs, _, hl, hcm, hm, hx, hi⟩
  · simp at hcs
    subst hcs
    exact ⟨[], none, 0, rfl, by simp, by simp [maxLen], fun h => absurd h (by simp)⟩
  · simp at hcs
    subst hcs
    simp only [if_true] at hm
    subst hm
    have hall : ∀ i, i < m → ∃ l : Lf, ∃ sv pv : Value, W.cell? (a.add (i * 4)) = some (.int .i64 l.at_) ∧ W.cell? ((a.add (i * 4)).add 1) = some (.string l.key) ∧ W.cell? ((a.add (i * 4)).add 2) = some sv ∧ W.cell? ((a.add (i * 4)).add 3) = some pv ∧ LeafV W W.heap.size (.agg #[.int .i64 l.at_, .string l.key, sv, pv]) l := fun i hi2 => by
      obtain ⟨cs, hc, ht⟩ := hi i hi2
      have h1 : Tryz.prog.cellsOf 111 = 4 := by kernel_rfl
      rw [h1] at hc
      obtain ⟨_, hcl, hat⟩ := World.cells?_some hc
      obtain ⟨l, sv, pv, rfl, hlv⟩ := open_leaf ht
      have a0 := hat 0 (by omega)
      have a1 := hat 1 (by omega)
      have a2 := hat 2 (by omega)
      have a3 := hat 3 (by omega)
      rw [addP_zero] at a0
      simp at a0 a1 a2 a3
      exact ⟨l, sv, pv, a0, a1, a2, a3, hlv⟩
    obtain ⟨L, hL⟩ := choose_lt (α := Lf) (p := fun i l => ∃ sv pv : Value, W.cell? (a.add (i * 4)) = some (.int .i64 l.at_) ∧ W.cell? ((a.add (i * 4)).add 1) = some (.string l.key) ∧ W.cell? ((a.add (i * 4)).add 2) = some sv ∧ W.cell? ((a.add (i * 4)).add 3) = some pv ∧ LeafV W W.heap.size (.agg #[.int .i64 l.at_, .string l.key, sv, pv]) l) hall
    refine ⟨(List.range len).map L, some a, m, by simp, by simpa using hl, hcm, fun h0 => ?_⟩
    simp at h0
    obtain ⟨_, _, q0, _⟩ := hL 0 (by omega)
    obtain ⟨b, o, spot⟩ := a
    have hspot : spot = none := by simpa [Addr.add] using World.cell?_spot q0
    subst hspot
    refine ⟨b, o, rfl, ?_, fun j hj => ?_⟩
    · have := World.block_lt_of_cell? W _ q0
      simpa [Addr.add] using this
    · simp at hj
      obtain ⟨sv, pv, a0, a1, a2, a3, hlv⟩ := hL j (by omega)
      simp only [addP_none] at a0 a1 a2 a3
      have e : ((List.range len).map L)[j]'(by simpa using hj) = L j := by simp
      rw [e]
      exact ⟨sv, pv, a0, a1, a2, a3, hlv⟩
end
end Go.Proofs.YtmphegeiclgjbaaGreatDoor
