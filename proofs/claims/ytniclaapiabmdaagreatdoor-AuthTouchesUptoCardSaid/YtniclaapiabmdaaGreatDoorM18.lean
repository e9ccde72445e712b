/- Texts joined: OpenM0, OpenG1, OpenSt, ShaTab0. -/
import Derived.Test.YtniclaapiabmdaaGreatDoorM17
import Derived.Test.YtniclaapiabmdaaGreatDoorM03
import Derived.Deep.Grids
import Derived.Test.YtniclaapiabmdaaGreatDoorM05
import Derived.Test.YtniclaapiabmdaaGreatDoorM06
import Derived.Test.YtniclaapiabmdaaGreatDoorRows
import Derived.ProofKit
import Derived.OpenShut
import Derived.Laws.IdiomArrays
import Derived.Test.YtniclaapiabmdaaGreatDoorM12
import Derived.Deep.Strs
import Derived.Test.YtniclaapiabmdaaGreatDoorM02
import Derived.Test.YtniclaapiabmdaaGreatDoorCards
import Derived.Lib.LaidTab
import Derived.Deep.DeepHandedRow
import Derived.LaidSub
namespace Go.Proofs.YtniclaapiabmdaaGreatDoor
set_option maxRecDepth 100000
open Go Go.ChangeShapes Go.WideShapes Go.ChangeAt Go.RowKit Go.Deep
set_option linter.unusedVariables false

theorem list2p {α : Type} {l : List α} (h : l.length = 2) : ∃ a b, l = [a, b] := by
  match l, h with
  | [a, b], _ => exact ⟨a, b, rfl⟩
theorem Tryz.pairFields : ∃ f0 f1 : Field, Tryz.prog.underlying 48 = some (.struct #[f0, f1]) ∧ f0.type = 9 ∧ f1.type = 27 ∧ Hid (oneCellFields Tryz.prog #[f0, f1] = true) :=
  ⟨_, _, Tryz.underlying48, rfl, rfl, (by kernel_rfl : oneCellFields Tryz.prog _ = true)⟩
instance : Inhabited (ByteArray × List UInt8) := ⟨(⟨#[]⟩, [])⟩
theorem addP_none (b o k : Nat) : ((⟨b, o, none⟩ : Addr).add k) = ⟨b, o + k, none⟩ := by simp [Addr.add]
theorem addP_zero (a : Addr) : a.add 0 = a := by
  obtain ⟨b, o, s⟩ := a
  cases s <;> simp [Addr.add]
theorem addP_none' (b o k : Nat) : ((⟨b, o, none⟩ : Addr).add k) = ⟨b, o + k, none⟩ := by simp [Addr.add]

theorem bulk_sumP {H : Type} (n : Nat) (D : Nat → DataW H) (L : Nat → ByteArray × List UInt8) (h : ∀ i, i < n → (L i).2.length ≤ Rows.uptoBulk (D i)) : (((List.range n).map L).map fun f => f.2.length).sum ≤ Rows.uptoBulkAll ((List.range n).map D) := by
  have : ∀ (l : List Nat), (∀ i ∈ l, (L i).2.length ≤ Rows.uptoBulk (D i)) → ((l.map L).map fun f => f.2.length).sum ≤ Rows.uptoBulkAll (l.map D) := by
    intro l
    induction l with
    | nil => intro _; simp
    | cons x l ih =>
      intro hl
      have h1 := ih fun i hi => hl i (by simp [hi])
      have h2 := hl x (by simp)
      simp only [List.map_cons, List.sum_cons, Rows.uptoBulkAll]
      omega
  exact this _ fun i hi => h i (List.mem_range.1 hi)

theorem open_pairs_arg {H : Type} {enc : TypeId × Value → H} {W : World} {v : Value} {d : DataW H} {p : List MemPlace} {base : Nat} (hv : Value.okWide Tryz.prog W .any base 22 v)
    (h : DataW.Trod enc Tryz.prog W 0 (fun _ => true) true 22 v d p) : ∃ fs : List (ByteArray × List UInt8), RdP W W.heap.size v fs ∧ (fs.map fun f => f.2.length).sum ≤ Rows.uptoBulk d ∧ fs.length ≤ Rows.uptoBulk d ∧ ∀ f ∈ fs, f.1.size ≤ maxLen := by
  obtain ⟨fuel, hf⟩ := h
  obtain ⟨b0, c0, k0, rfl⟩ := okWide_slice Tryz.underlying22 hv
  rcases open_slice Tryz.underlying22 hf with ⟨hcs, hx⟩ | ⟨a, len, cap, m, n, D, Pl, hcs, _, hl, hcm, hm, hx, hi⟩
  · simp [Value.cells] at hcs
    obtain ⟨rfl, rfl, rfl⟩ := hcs
    exact ⟨[], ⟨none, 0, rfl, by simp, by simp [maxLen], fun h => absurd h (by simp)⟩, by simp, by simp, by simp⟩
  · simp [Value.cells] at hcs
    obtain ⟨rfl, rfl, rfl⟩ := hcs
    simp only [if_true] at hm
    obtain rfl : m = k0 := hm
    simp only [Prod.mk.injEq] at hx
    have hall : ∀ i, i < m → ∃ f : ByteArray × List UInt8, ∃ x : Value, W.cell? (a.add (i * 2)) = some (.string f.1) ∧ W.cell? ((a.add (i * 2)).add 1) = some x ∧ Rd W W.heap.size x f.2 ∧ f.2.length ≤ Rows.uptoBulk (D i) ∧ f.1.size ≤ maxLen := fun i hi2 => by
      obtain ⟨cs, hc, ht⟩ := hi i hi2
      have h1 : Tryz.prog.cellsOf 48 = 2 := by kernel_rfl
      rw [h1] at hc
      obtain ⟨_, hcl, hat⟩ := World.cells?_some hc
      obtain ⟨x0, x1, rfl⟩ := list2p hcl
      obtain ⟨f0, f1, hu, e0, e1, ho⟩ := Tryz.pairFields
      obtain ⟨xs, n', _, hy, _, hlen, hg⟩ := DataW.trod_struct hu ht
      obtain ⟨y0, y1, rfl⟩ := list2p hlen
      have fld : ∀ (j : Nat) (f : Field), (#[f0, f1] : Array Field)[j]? = some f → f.offset = j ∧ Tryz.prog.cellsOf f.type = 1 := hone_of ho.out
      have g0 := hg 0 f0 rfl
      have g1 := hg 1 f1 rfl
      rw [(fld 0 f0 rfl).1, (fld 0 f0 rfl).2, e0] at g0
      rw [(fld 1 f1 rfl).1, (fld 1 f1 rfl).2, e1] at g1
      obtain ⟨s, q0, _, hs⟩ := DataW.trod_string Tryz.underlying9 g0
      obtain ⟨l, hr, hb⟩ := open_bytes (x := y1) Tryz.underlying27 Tryz.underlying5 (by kernel_rfl) g1
      simp at q0
      subst q0
      have a0 := hat 0 (by omega)
      have a1 := hat 1 (by omega)
      have ez : ∀ x : Addr, x.add 0 = x := fun x => addP_zero x
      rw [ez] at a0
      simp at a0 a1
      refine ⟨(s, l), x1, a0, a1, hr, ?_, hs⟩
      simp only [Prod.mk.injEq] at hy
      rw [hy.1]
      simp only [List.map_cons, List.map_nil, Rows.uptoBulk, Rows.uptoBulkAll]
      omega
    obtain ⟨L, hL⟩ := choose_lt (α := ByteArray × List UInt8) (p := fun i f => ∃ x : Value, W.cell? (a.add (i * 2)) = some (.string f.1) ∧ W.cell? ((a.add (i * 2)).add 1) = some x ∧ Rd W W.heap.size x f.2 ∧ f.2.length ≤ Rows.uptoBulk (D i) ∧ f.1.size ≤ maxLen) hall
    have hs := bulk_sumP (H := H) c0 D L fun i hi2 => by obtain ⟨_, _, _, _, h, _⟩ := hL i (by omega); exact h
    refine ⟨(List.range c0).map L, ⟨some a, m, by simp, by simpa using hl, hcm, fun h0 => ?_⟩, ?_, ?_, ?_⟩
    · simp at h0
      obtain ⟨x0, q0, _⟩ := hL 0 (by omega)
      obtain ⟨b, o, spot⟩ := a
      have hspot : spot = none := by simpa [Addr.add] using World.cell?_spot q0
      subst hspot
      refine ⟨b, o, rfl, ?_, fun j hj => ?_⟩
      · have := World.block_lt_of_cell? W _ q0
        simpa [Addr.add] using this
      · simp at hj
        obtain ⟨x, qx, qy, hr, _⟩ := hL j (by omega)
        rw [addP_none', addP_none'] at qy
        rw [addP_none'] at qx
        exact ⟨by simpa using qx, x, qy, by simpa using hr⟩
    · rw [hx.1]
      simp only [Rows.uptoBulk]
      omega
    · rw [hx.1]
      have := bulk_len ((List.range c0).map D)
      simp only [Rows.uptoBulk]
      simp at this ⊢
      omega
    · intro f hf
      obtain ⟨i, hi2, rfl⟩ := List.mem_map.1 hf
      obtain ⟨_, _, _, _, _, h⟩ := hL i (by have := List.mem_range.1 hi2; omega)
      exact h
end Go.Proofs.YtniclaapiabmdaaGreatDoor
namespace Go.Proofs.YtniclaapiabmdaaGreatDoor
set_option maxRecDepth 100000
open Go Go.ChangeShapes Go.WideShapes Go.ChangeAt Go.RowKit Go.Deep
set_option linter.unusedVariables false

section
variable {H : Type} {enc : TypeId × Value → H} {W : World} {fuel : Nat}
instance : Inhabited Lf := ⟨⟨0, ⟨#[]⟩, [], []⟩⟩
theorem list4p {α : Type} {l : List α} (h : l.length = 4) : ∃ a b c d, l = [a, b, c, d] := by
  match l, h with
  | [a, b, c, d], _ => exact ⟨a, b, c, d, rfl⟩
theorem open_path {v : Value} {x : DataW H × List MemPlace} (h : DataW.trod enc Tryz.prog W 0 (fun _ => true) true fuel 107 [v] = some x) : ∃ ls : List (List UInt8), PathV W W.heap.size v ls := by
  rcases open_slice1 Tryz.underlying107 (by kernel_rfl) h with ⟨hcs, _⟩ | ⟨a, len, cap, m, n, V, D, Pl, hcs, _, hl, hcm, hm, hx, hi⟩
  · simp at hcs
    subst hcs
    exact ⟨[], PathV.none_ none 0 (by simp [maxLen])⟩
  · simp at hcs
    subst hcs
    simp only [if_true] at hm
    subst hm
    have hall : ∀ i, i < m → ∃ l : List UInt8, Rd W W.heap.size (V i) l := fun i hi2 => by
      obtain ⟨l, hr, _⟩ := open_bytes Tryz.underlying27 Tryz.underlying5 (by kernel_rfl) (hi i hi2).2
      exact ⟨l, hr⟩
    obtain ⟨L, hL⟩ := choose_lt (α := List UInt8) (p := fun i l => Rd W W.heap.size (V i) l) hall
    refine ⟨(List.range len).map L, some a, m, by simp, by simpa using hl, hcm, fun h0 => ?_⟩
    simp at h0
    have q0 := (hi 0 (by omega)).1
    obtain ⟨b, o, spot⟩ := a
    have hspot : spot = none := by simpa [Addr.add] using World.cell?_spot q0
    subst hspot
    refine ⟨b, o, rfl, ?_, fun j hj => ?_⟩
    · have := World.block_lt_of_cell? W _ q0
      simpa [Addr.add] using this
    · simp at hj
      have qj := (hi j (by omega)).1
      rw [addP_none] at qj
      exact ⟨V j, qj, by simpa using hL j (by omega)⟩
theorem Tryz.leafFields : ∃ f0 f1 f2 f3 : Field, Tryz.prog.underlying 232 = some (.struct #[f0, f1, f2, f3]) ∧ f0.type = 3 ∧ f1.type = 9 ∧ f2.type = 27 ∧ f3.type = 107 ∧ Hid (oneCellFields Tryz.prog #[f0, f1, f2, f3] = true) :=
  ⟨_, _, _, _, Tryz.underlying232, rfl, rfl, rfl, rfl, (by kernel_rfl : oneCellFields Tryz.prog _ = true)⟩
theorem open_leaf {cs : List Value} {x : DataW H × List MemPlace} (h : DataW.trod enc Tryz.prog W 0 (fun _ => true) true fuel 232 cs = some x) : ∃ (l : Lf) (sv pv : Value), cs = [.int .i64 l.at_, .string l.key, sv, pv] ∧ LeafV W W.heap.size (.agg #[.int .i64 l.at_, .string l.key, sv, pv]) l := by
  obtain ⟨f0, f1, f2, f3, hu, e0, e1, e2, e3, hone⟩ := Tryz.leafFields
  have hC : Tryz.prog.cellsOf 232 = 4 := by kernel_rfl
  obtain ⟨xs, n', _, hy, hcl, hlen, hg⟩ := DataW.trod_struct hu h
  obtain ⟨x0, x1, x2, x3, rfl⟩ := list4p (hcl.trans hC)
  obtain ⟨y0, y1, y2, y3, rfl⟩ := list4p hlen
  have fld : ∀ (j : Nat) (f : Field), (#[f0, f1, f2, f3] : Array Field)[j]? = some f → f.offset = j ∧ Tryz.prog.cellsOf f.type = 1 := hone_of hone.out
  have g0 := hg 0 f0 rfl
  have g1 := hg 1 f1 rfl
  have g2 := hg 2 f2 rfl
  have g3 := hg 3 f3 rfl
  rw [(fld 0 f0 rfl).1, (fld 0 f0 rfl).2, e0] at g0
  rw [(fld 1 f1 rfl).1, (fld 1 f1 rfl).2, e1] at g1
  rw [(fld 2 f2 rfl).1, (fld 2 f2 rfl).2, e2] at g2
  rw [(fld 3 f3 rfl).1, (fld 3 f3 rfl).2, e3] at g3
  obtain ⟨z, ez, _, hw⟩ := DataW.trod_int Tryz.underlying3 g0
  obtain ⟨s, es, _, hs⟩ := DataW.trod_string Tryz.underlying9 g1
  obtain ⟨l, hl, _⟩ := open_bytes (v := x2) Tryz.underlying27 Tryz.underlying5 (by kernel_rfl) g2
  obtain ⟨p, hp⟩ := open_path (v := x3) g3
  simp at ez es
  subst ez; subst es
  have b0 : -9223372036854775808 ≤ z ∧ z ≤ 9223372036854775807 := by simpa [Lit.wf, IntKind.min, IntKind.max, IntKind.signed, IntKind.bits] using hw
  exact ⟨⟨z, s, l, p⟩, x2, x3, rfl, x2, x3, rfl, hl, hp, hs, b0.1, b0.2⟩
theorem open_leaves {v : Value} {x : DataW H × List MemPlace} (h : DataW.trod enc Tryz.prog W 0 (fun _ => true) true fuel 168 [v] = some x) : ∃ ls : List Lf, LeavesV W W.heap.size v ls := by
  rcases open_slice Tryz.underlying168 h with ⟨hcs, _⟩ | ⟨a, len, cap, m, n, D, Pl, hcs, _, hl, hcm, hm, hx, hi⟩
  · simp at hcs
    subst hcs
    exact ⟨[], none, 0, rfl, by simp, by simp [maxLen], fun h => absurd h (by simp)⟩
  · simp at hcs
    subst hcs
    simp only [if_true] at hm
    subst hm
    have hall : ∀ i, i < m → ∃ l : Lf, ∃ sv pv : Value, W.cell? (a.add (i * 4)) = some (.int .i64 l.at_) ∧ W.cell? ((a.add (i * 4)).add 1) = some (.string l.key) ∧ W.cell? ((a.add (i * 4)).add 2) = some sv ∧ W.cell? ((a.add (i * 4)).add 3) = some pv ∧ LeafV W W.heap.size (.agg #[.int .i64 l.at_, .string l.key, sv, pv]) l := fun i hi2 => by
      obtain ⟨cs, hc, ht⟩ := hi i hi2
      have h1 : Tryz.prog.cellsOf 232 = 4 := by kernel_rfl
      rw [h1] at hc
      obtain ⟨_, hcl, hat⟩ := World.cells?_some hc
      obtain ⟨l, sv, pv, rfl, hlv⟩ := open_leaf ht
      have a0 := hat 0 (by omega)
      have a1 := hat 1 (by omega)
      have a2 := hat 2 (by omega)
      have a3 := hat 3 (by omega)
      rw [addP_zero] at a0
      simp at a0 a1 a2 a3
      exact ⟨l, sv, pv, a0, a1, a2, a3, hlv⟩
    obtain ⟨L, hL⟩ := choose_lt (α := Lf) (p := fun i l => ∃ sv pv : Value, W.cell? (a.add (i * 4)) = some (.int .i64 l.at_) ∧ W.cell? ((a.add (i * 4)).add 1) = some (.string l.key) ∧ W.cell? ((a.add (i * 4)).add 2) = some sv ∧ W.cell? ((a.add (i * 4)).add 3) = some pv ∧ LeafV W W.heap.size (.agg #[.int .i64 l.at_, .string l.key, sv, pv]) l) hall
    refine ⟨(List.range len).map L, some a, m, by simp, by simpa using hl, hcm, fun h0 => ?_⟩
    simp at h0
    obtain ⟨_, _, q0, _⟩ := hL 0 (by omega)
    obtain ⟨b, o, spot⟩ := a
    have hspot : spot = none := by simpa [Addr.add] using World.cell?_spot q0
    subst hspot
    refine ⟨b, o, rfl, ?_, fun j hj => ?_⟩
    · have := World.block_lt_of_cell? W _ q0
      simpa [Addr.add] using this
    · simp at hj
      obtain ⟨sv, pv, a0, a1, a2, a3, hlv⟩ := hL j (by omega)
      simp only [addP_none] at a0 a1 a2 a3
      have e : ((List.range len).map L)[j]'(by simpa using hj) = L j := by simp
      rw [e]
      exact ⟨sv, pv, a0, a1, a2, a3, hlv⟩
end
end Go.Proofs.YtniclaapiabmdaaGreatDoor
namespace Go.Proofs.YtniclaapiabmdaaGreatDoor
set_option maxRecDepth 100000
open Go Go.ChangeShapes Go.WideShapes Go.ChangeAt Go.RowKit Go.Deep
set_option linter.unusedVariables false

theorem u64_natG {c : Value} {H : Type} {enc : TypeId × Value → H} {W : World} {n : Nat} {y : DataW H × List MemPlace}
    (h : DataW.trod enc Tryz.prog W 0 (fun _ => true) true n 23 [c] = some y) : ∃ k : Nat, c = .int .u64 (k : Int) ∧ k < 18446744073709551616 := by
  obtain ⟨z, hc, _, hw⟩ := DataW.trod_int Tryz.underlying23 h
  have h2 : 0 ≤ z ∧ z ≤ 18446744073709551615 := by simpa [Lit.wf, IntKind.min, IntKind.max, IntKind.signed, IntKind.bits] using hw
  obtain ⟨k, rfl⟩ := Int.eq_ofNat_of_zero_le h2.1
  refine ⟨k, by simpa using hc, by omega⟩
theorem trod_u4G {H : Type} {enc : TypeId × Value → H} {W : World} {n : Nat} {c0 c1 c2 c3 : Value} {y : DataW H × List MemPlace}
    (h : DataW.trod enc Tryz.prog W 0 (fun _ => true) true n 25 [c0, c1, c2, c3] = some y) : ∃ x : U4, c0 = .int .u64 (x.a : Int) ∧ c1 = .int .u64 (x.b : Int) ∧ c2 = .int .u64 (x.c : Int) ∧ c3 = .int .u64 (x.d : Int) ∧ x.ok := by
  obtain ⟨y0, y1, y2, y3, n, _, h0, h1, h2, h3⟩ := trod_array4 Tryz.underlying25 (by kernel_rfl) h
  obtain ⟨k0, rfl, b0⟩ := u64_natG h0
  obtain ⟨k1, rfl, b1⟩ := u64_natG h1
  obtain ⟨k2, rfl, b2⟩ := u64_natG h2
  obtain ⟨k3, rfl, b3⟩ := u64_natG h3
  exact ⟨⟨k0, k1, k2, k3⟩, rfl, rfl, rfl, rfl, b0, b1, b2, b3⟩
theorem one_intG : Tryz.prog.cellsOf 3 = 1 := by kernel_rfl
theorem one_stringG : Tryz.prog.cellsOf 9 = 1 := by kernel_rfl
theorem one_u64G : Tryz.prog.cellsOf 23 = 1 := by kernel_rfl
theorem one_boolG : Tryz.prog.cellsOf 4 = 1 := by kernel_rfl
theorem one_bytesG : Tryz.prog.cellsOf 27 = 1 := by kernel_rfl
theorem four_uG : Tryz.prog.cellsOf 25 = 4 := by kernel_rfl
end Go.Proofs.YtniclaapiabmdaaGreatDoor
namespace Go.Proofs.YtniclaapiabmdaaGreatDoor
set_option maxRecDepth 100000
open Go Go.ChangeShapes Go.WideShapes Go.ChangeAt Go.RowKit Go.Deep
set_option linter.unusedVariables false

end Go.Proofs.YtniclaapiabmdaaGreatDoor
namespace Go.Proofs.YtniclaapiabmdaaGreatDoor
set_option maxRecDepth 100000
open Go Go.ChangeShapes Go.WideShapes Go.ChangeAt Go.RowKit Go.Deep
set_option linter.unusedVariables false

end Go.Proofs.YtniclaapiabmdaaGreatDoor
namespace Go.Proofs.YtniclaapiabmdaaGreatDoor
set_option maxRecDepth 100000
open Go Go.ChangeShapes Go.WideShapes Go.ChangeAt Go.RowKit Go.Deep
set_option linter.unusedVariables false

end Go.Proofs.YtniclaapiabmdaaGreatDoor
namespace Go.Proofs.YtniclaapiabmdaaGreatDoor
set_option maxRecDepth 100000
open Go Go.RowKit Go.ChangeShapes Go.WideShapes
set_option linter.unusedVariables false

end Go.Proofs.YtniclaapiabmdaaGreatDoor
namespace Go.Proofs.YtniclaapiabmdaaGreatDoor
set_option maxRecDepth 100000
open Go Go.ChangeShapes Go.WideShapes Go.ChangeAt Go.RowKit Go.Deep
set_option linter.unusedVariables false

theorem one_vs : Tryz.prog.cellsOf 164 = 1 := by kernel_rfl
theorem one_ws : Tryz.prog.cellsOf 165 = 1 := by kernel_rfl
theorem one_os : Tryz.prog.cellsOf 173 = 1 := by kernel_rfl
theorem six_hd : Tryz.prog.cellsOf 163 = 6 := by kernel_rfl
theorem six_pk : Tryz.prog.cellsOf 167 = 6 := by kernel_rfl
theorem two_pf : Tryz.prog.cellsOf 170 = 2 := by kernel_rfl
theorem thir_py : Tryz.prog.cellsOf 172 = 13 := by kernel_rfl
section
variable {H : Type} {enc : TypeId × Value → H} {W : World} {n : Nat} {y : DataW H × List MemPlace}
theorem i64G {c : Value} (h : DataW.trod enc Tryz.prog W 0 (fun _ => true) true n 3 [c] = some y) : ∃ z : Int, c = .int .i64 z ∧ -9223372036854775808 ≤ z ∧ z ≤ 9223372036854775807 := by
  obtain ⟨z, ez, _, hw⟩ := DataW.trod_int Tryz.underlying3 h
  have b0 : -9223372036854775808 ≤ z ∧ z ≤ 9223372036854775807 := by simpa [Lit.wf, IntKind.min, IntKind.max, IntKind.signed, IntKind.bits] using hw
  exact ⟨z, by simpa using ez, b0⟩
theorem strG {c : Value} (h : DataW.trod enc Tryz.prog W 0 (fun _ => true) true n 9 [c] = some y) : ∃ s : ByteArray, c = .string s ∧ s.size ≤ Rows.uptoBulk y.1 ∧ s.size ≤ maxLen := by
  obtain ⟨s, es, hy, hs⟩ := DataW.trod_string Tryz.underlying9 h
  have e1 : y.1 = .lit (.string s.data.toList) := congrArg Prod.fst hy
  exact ⟨s, by simpa using es, str_bulk e1, hs⟩
theorem boolG {c : Value} (h : DataW.trod enc Tryz.prog W 0 (fun _ => true) true n 4 [c] = some y) : ∃ b : Bool, c = .bool b := by
  obtain ⟨b, eb, _⟩ := DataW.trod_bool Tryz.underlying4 h
  exact ⟨b, by simpa using eb⟩
theorem bytesG {c : Value} (h : DataW.trod enc Tryz.prog W 0 (fun _ => true) true n 27 [c] = some y) : ∃ l : List UInt8, Rd W W.heap.size c l ∧ l.length ≤ Rows.uptoBulk y.1 :=
  open_bytes (v := c) Tryz.underlying27 Tryz.underlying5 (by kernel_rfl) h
theorem slice_bulkM (l r : List (DataW H)) : l.length ≤ Rows.uptoBulk (.slice l r) := by
  have := bulk_len l
  simp only [Rows.uptoBulk]
  omega
theorem strsG {v : Value} (h : DataW.trod enc Tryz.prog W 0 (fun _ => true) true n 165 [v] = some y) : ∃ l : List ByteArray, StrsAt W W.heap.size v l ∧ l.length ≤ Rows.uptoBulk y.1 := by
  rcases open_strs Tryz.underlying165 Tryz.underlying9 (by kernel_rfl) h with ⟨hcs, hx⟩ | ⟨a, len, cap, m, Sx, hcs, _, hl, hcm, hm, hx, hi⟩
  · simp at hcs
    subst hcs
    exact ⟨[], StrsAt.nil _ _, by simp⟩
  · simp at hcs
    subst hcs
    simp only [if_true] at hm
    subst hm
    refine ⟨(List.range len).map Sx, ⟨some a, m, by simp, by simpa using hl, hcm, fun x hx => ?_, fun h0 => ?_⟩, ?_⟩
    · obtain ⟨i, hi2, rfl⟩ := List.mem_map.1 hx
      exact (hi i (by have := List.mem_range.1 hi2; omega)).2
    · simp at h0
      have q0 := (hi 0 (by omega)).1
      obtain ⟨b, o, spot⟩ := a
      have hspot : spot = none := by simpa [Addr.add] using World.cell?_spot q0
      subst hspot
      refine ⟨b, o, rfl, ?_, fun j hj => ?_⟩
      · have := World.block_lt_of_cell? W _ q0
        simpa [Addr.add] using this
      · simp at hj
        have qj := (hi j (by omega)).1
        rw [addr_add_none] at qj
        rw [qj]
        simp
    · rw [hx]
      have := slice_bulkM ((List.range len).map fun i => DataW.lit (H := H) (.string (Sx i).data.toList)) ((List.range (m - len)).map fun j => .lit (.string (Sx (len + j)).data.toList))
      simpa using this
instance : Inhabited VD := ⟨⟨⟨#[]⟩, 0⟩⟩
theorem Tryz.valFieldsM : ∃ f0 f1 : Field, Tryz.prog.underlying 235 = some (.struct #[f0, f1]) ∧ f0.type = 9 ∧ f1.type = 23 ∧ Hid (oneCellFields Tryz.prog #[f0, f1] = true) :=
  ⟨_, _, Tryz.underlying235, rfl, rfl, (by kernel_rfl : oneCellFields Tryz.prog _ = true)⟩
theorem valsG {v : Value} (h : DataW.trod enc Tryz.prog W 0 (fun _ => true) true n 164 [v] = some y) : ∃ l : List VD, ValsAt W W.heap.size v l ∧ l.length ≤ Rows.uptoBulk y.1 := by
  rcases open_slice Tryz.underlying164 h with ⟨hcs, hx⟩ | ⟨a, len, cap, m, n, D, Pl, hcs, _, hl, hcm, hm, hx, hi⟩
  · simp at hcs
    subst hcs
    exact ⟨[], ⟨none, 0, rfl, by simp, by simp [maxLen], fun _ h => absurd h (by simp), fun h => absurd h (by simp)⟩, by simp⟩
  · simp at hcs
    subst hcs
    simp only [if_true] at hm
    subst hm
    have hall : ∀ i, i < m → ∃ x : VD, W.cell? (a.add (i * 2)) = some (.string x.name) ∧ W.cell? ((a.add (i * 2)).add 1) = some (.int .u64 (x.power : Int)) ∧ x.fits := fun i hi2 => by
      obtain ⟨cs, hc, ht⟩ := hi i hi2
      have h1 : Tryz.prog.cellsOf 235 = 2 := by kernel_rfl
      rw [h1] at hc
      obtain ⟨_, hcl, hat⟩ := World.cells?_some hc
      obtain ⟨x0, x1, rfl⟩ := list2p hcl
      obtain ⟨f0, f1, hu, e0, e1, ho⟩ := Tryz.valFieldsM
      obtain ⟨xs, n', _, hy, _, hlen, hg⟩ := DataW.trod_struct hu ht
      obtain ⟨y0, y1, rfl⟩ := list2p hlen
      have fld : ∀ (j : Nat) (f : Field), (#[f0, f1] : Array Field)[j]? = some f → f.offset = j ∧ Tryz.prog.cellsOf f.type = 1 := hone_of ho.out
      have g0 := hg 0 f0 rfl
      have g1 := hg 1 f1 rfl
      rw [(fld 0 f0 rfl).1, (fld 0 f0 rfl).2, e0] at g0
      rw [(fld 1 f1 rfl).1, (fld 1 f1 rfl).2, e1] at g1
      obtain ⟨s, q0, _, hs⟩ := strG (c := x0) g0
      obtain ⟨k, q1, hk⟩ := u64_natG (c := x1) g1
      subst q0; subst q1
      have a0 := hat 0 (by omega)
      have a1 := hat 1 (by omega)
      rw [addP_zero] at a0
      simp at a0 a1
      exact ⟨⟨s, k⟩, a0, a1, hs, hk⟩
    obtain ⟨L, hL⟩ := choose_lt (α := VD) (p := fun i x => W.cell? (a.add (i * 2)) = some (.string x.name) ∧ W.cell? ((a.add (i * 2)).add 1) = some (.int .u64 (x.power : Int)) ∧ x.fits) hall
    refine ⟨(List.range len).map L, ⟨some a, m, by simp, by simpa using hl, hcm, fun x hx => ?_, fun h0 => ?_⟩, ?_⟩
    · obtain ⟨i, hi2, rfl⟩ := List.mem_map.1 hx
      exact (hL i (by have := List.mem_range.1 hi2; omega)).2.2
    · simp at h0
      have q0 := (hL 0 (by omega)).1
      obtain ⟨b, o, spot⟩ := a
      have hspot : spot = none := by simpa [Addr.add] using World.cell?_spot q0
      subst hspot
      refine ⟨b, o, rfl, ?_, fun j hj => ?_⟩
      · have := World.block_lt_of_cell? W _ q0
        simpa [Addr.add] using this
      · simp at hj
        obtain ⟨a0, a1, hx⟩ := hL j (by omega)
        simp only [addP_none] at a0 a1
        have e : ((List.range len).map L)[j]'(by simpa using hj) = L j := by simp
        rw [e]
        exact ⟨a0, a1⟩
    · rw [hx]
      have := slice_bulkM ((List.range len).map D) ((List.range (m - len)).map fun j => D (len + j))
      simpa using this
theorem leavesG {v : Value} (h : DataW.trod enc Tryz.prog W 0 (fun _ => true) true n 168 [v] = some y) : ∃ ls : List Lf, LeavesV W W.heap.size v ls ∧ ls.length ≤ Rows.uptoBulk y.1 := by
  obtain ⟨ls, hls⟩ := open_leaves h
  refine ⟨ls, hls, ?_⟩
  rcases open_slice Tryz.underlying168 h with ⟨hcs, hx⟩ | ⟨a, len, cap, m, n, D, Pl, hcs, _, hl, hcm, hm, hx, hi⟩
  · simp at hcs
    subst hcs
    obtain ⟨A, c, hv, -⟩ := hls
    injection hv with e1 e2 e3
    omega
  · simp at hcs
    subst hcs
    obtain ⟨A, c, hv, -⟩ := hls
    injection hv with e1 e2 e3
    rw [hx, ← e2]
    have := slice_bulkM ((List.range len).map D) ((List.range (m - len)).map fun j => D (len + j))
    simpa using this
end
theorem ex_cons {α : Type} {n : Nat} {l : List α} (h : l.length = n + 1) : ∃ x r, l = x :: r ∧ r.length = n := by
  cases l with
  | nil => simp at h
  | cons x r => exact ⟨x, r, rfl, by simpa using h⟩

theorem Tryz.hdmFields : ∃ f0 f1 f2 f3 f4 f5 : Field, Tryz.prog.underlying 163 = some (.struct #[f0, f1, f2, f3, f4, f5]) ∧ Hid (f0.type = 9 ∧ f1.type = 23 ∧ f2.type = 23 ∧ f3.type = 27 ∧ f4.type = 27 ∧ f5.type = 27) ∧
    Hid (f0.offset = 0 ∧ f1.offset = 1 ∧ f2.offset = 2 ∧ f3.offset = 3 ∧ f4.offset = 4 ∧ f5.offset = 5) :=
  ⟨_, _, _, _, _, _, Tryz.underlying163, (⟨rfl, rfl, rfl, rfl, rfl, rfl⟩ : _ ∧ _ ∧ _ ∧ _ ∧ _ ∧ _), (⟨rfl, rfl, rfl, rfl, rfl, rfl⟩ : _ ∧ _ ∧ _ ∧ _ ∧ _ ∧ _)⟩
theorem ls6 {α : Type} {l : List α} (h : l.length = 6) : ∃ x0 x1 x2 x3 x4 x5, l = [x0, x1, x2, x3, x4, x5] := by
  match l, h with
  | [x0, x1, x2, x3, x4, x5], _ => exact ⟨x0, x1, x2, x3, x4, x5, rfl⟩
theorem trod_hdm {H : Type} {enc : TypeId × Value → H} {W : World} {n : Nat} {cs : List Value} {y : DataW H × List MemPlace} (hl : cs.length = 6)
    (hf : DataW.trod enc Tryz.prog W 0 (fun _ => true) true n 163 cs = some y) :
    ∃ h : HdW, cs = [.string h.ch, .int .u64 (h.ht : Int), .int .u64 (h.tm : Int), h.vr, h.vv, h.vn] ∧ h.rd W ∧ h.ch.size + h.rt.length + h.va.length + h.nx.length ≤ Rows.uptoBulk y.1 := by
  obtain ⟨f0, f1, f2, f3, f4, f5, hu, he, ho⟩ := Tryz.hdmFields
  obtain ⟨x0, x1, x2, x3, x4, x5, rfl⟩ := ls6 hl
  obtain ⟨xs, n', _, hy, _, hlen, hg⟩ := DataW.trod_struct hu hf
  obtain ⟨y0, y1, y2, y3, y4, y5, rfl⟩ := ls6 hlen
  obtain ⟨o0, o1, o2, o3, o4, o5⟩ := ho.out
  obtain ⟨e0, e1, e2, e3, e4, e5⟩ := he.out
  have g0 := hg 0 f0 rfl
  rw [o0, e0, one_stringG] at g0
  obtain ⟨a0, rfl, b0, c0⟩ := strG (c := x0) g0
  have g1 := hg 1 f1 rfl
  rw [o1, e1, one_u64G] at g1
  obtain ⟨a1, rfl, b1⟩ := u64_natG (c := x1) g1
  have g2 := hg 2 f2 rfl
  rw [o2, e2, one_u64G] at g2
  obtain ⟨a2, rfl, b2⟩ := u64_natG (c := x2) g2
  have g3 := hg 3 f3 rfl
  rw [o3, e3, one_bytesG] at g3
  obtain ⟨a3, r3, b3⟩ := bytesG (c := x3) g3
  have g4 := hg 4 f4 rfl
  rw [o4, e4, one_bytesG] at g4
  obtain ⟨a4, r4, b4⟩ := bytesG (c := x4) g4
  have g5 := hg 5 f5 rfl
  rw [o5, e5, one_bytesG] at g5
  obtain ⟨a5, r5, b5⟩ := bytesG (c := x5) g5
  refine ⟨⟨a0, a1, a2, _, _, _, a3, a4, a5⟩, rfl, ⟨r3, r4, r5, b1, b2⟩, ?_⟩
  dsimp only
  have hy1 := congrArg Prod.fst hy
  rw [hy1]
  simp only [Rows.uptoBulk, List.map_cons, List.map_nil, Rows.uptoBulkAll]
  omega
theorem Tryz.pkmFields : ∃ f0 f1 f2 f3 f4 f5 : Field, Tryz.prog.underlying 167 = some (.struct #[f0, f1, f2, f3, f4, f5]) ∧ Hid (f0.type = 9 ∧ f1.type = 9 ∧ f2.type = 23 ∧ f3.type = 27 ∧ f4.type = 23 ∧ f5.type = 23) ∧
    Hid (f0.offset = 0 ∧ f1.offset = 1 ∧ f2.offset = 2 ∧ f3.offset = 3 ∧ f4.offset = 4 ∧ f5.offset = 5) :=
  ⟨_, _, _, _, _, _, Tryz.underlying167, (⟨rfl, rfl, rfl, rfl, rfl, rfl⟩ : _ ∧ _ ∧ _ ∧ _ ∧ _ ∧ _), (⟨rfl, rfl, rfl, rfl, rfl, rfl⟩ : _ ∧ _ ∧ _ ∧ _ ∧ _ ∧ _)⟩
theorem trod_pkm {H : Type} {enc : TypeId × Value → H} {W : World} {n : Nat} {cs : List Value} {y : DataW H × List MemPlace} (hl : cs.length = 6)
    (hf : DataW.trod enc Tryz.prog W 0 (fun _ => true) true n 167 cs = some y) :
    ∃ p : PkW, cs = [.string p.src, .string p.dst, .int .u64 (p.seq : Int), p.vd, .int .u64 (p.ht : Int), .int .u64 (p.tm : Int)] ∧ p.rd W ∧ p.src.size + p.dst.size + p.da.length ≤ Rows.uptoBulk y.1 := by
  obtain ⟨f0, f1, f2, f3, f4, f5, hu, he, ho⟩ := Tryz.pkmFields
  obtain ⟨x0, x1, x2, x3, x4, x5, rfl⟩ := ls6 hl
  obtain ⟨xs, n', _, hy, _, hlen, hg⟩ := DataW.trod_struct hu hf
  obtain ⟨y0, y1, y2, y3, y4, y5, rfl⟩ := ls6 hlen
  obtain ⟨o0, o1, o2, o3, o4, o5⟩ := ho.out
  obtain ⟨e0, e1, e2, e3, e4, e5⟩ := he.out
  have g0 := hg 0 f0 rfl
  rw [o0, e0, one_stringG] at g0
  obtain ⟨a0, rfl, b0, c0⟩ := strG (c := x0) g0
  have g1 := hg 1 f1 rfl
  rw [o1, e1, one_stringG] at g1
  obtain ⟨a1, rfl, b1, c1⟩ := strG (c := x1) g1
  have g2 := hg 2 f2 rfl
  rw [o2, e2, one_u64G] at g2
  obtain ⟨a2, rfl, b2⟩ := u64_natG (c := x2) g2
  have g3 := hg 3 f3 rfl
  rw [o3, e3, one_bytesG] at g3
  obtain ⟨a3, r3, b3⟩ := bytesG (c := x3) g3
  have g4 := hg 4 f4 rfl
  rw [o4, e4, one_u64G] at g4
  obtain ⟨a4, rfl, b4⟩ := u64_natG (c := x4) g4
  have g5 := hg 5 f5 rfl
  rw [o5, e5, one_u64G] at g5
  obtain ⟨a5, rfl, b5⟩ := u64_natG (c := x5) g5
  refine ⟨⟨a0, a1, a2, _, a3, a4, a5⟩, rfl, ⟨r3, b2, b4, b5⟩, ?_⟩
  dsimp only
  have hy1 := congrArg Prod.fst hy
  rw [hy1]
  simp only [Rows.uptoBulk, List.map_cons, List.map_nil, Rows.uptoBulkAll]
  omega
theorem Tryz.pfmFields : ∃ f0 f1 : Field, Tryz.prog.underlying 170 = some (.struct #[f0, f1]) ∧ f0.type = 3 ∧ f1.type = 168 ∧ Hid (oneCellFields Tryz.prog #[f0, f1] = true) :=
  ⟨_, _, Tryz.underlying170, rfl, rfl, (by kernel_rfl : oneCellFields Tryz.prog _ = true)⟩
theorem trod_pfm {H : Type} {enc : TypeId × Value → H} {W : World} {n : Nat} {cs : List Value} {y : DataW H × List MemPlace} (hl : cs.length = 2)
    (hf : DataW.trod enc Tryz.prog W 0 (fun _ => true) true n 170 cs = some y) :
    ∃ (p : Pf) (lv : Value), cs = [.int .i64 p.n, lv] ∧ LeavesV W W.heap.size lv p.ls ∧ p.ls.length ≤ Rows.uptoBulk y.1 ∧ -9223372036854775808 ≤ p.n ∧ p.n ≤ 9223372036854775807 := by
  obtain ⟨f0, f1, hu, e0, e1, ho⟩ := Tryz.pfmFields
  obtain ⟨x0, x1, rfl⟩ := list2p hl
  obtain ⟨xs, n', _, hy, _, hlen, hg⟩ := DataW.trod_struct hu hf
  obtain ⟨y0, y1, rfl⟩ := list2p hlen
  have fld : ∀ (j : Nat) (f : Field), (#[f0, f1] : Array Field)[j]? = some f → f.offset = j ∧ Tryz.prog.cellsOf f.type = 1 := hone_of ho.out
  have g0 := hg 0 f0 rfl
  have g1 := hg 1 f1 rfl
  rw [(fld 0 f0 rfl).1, (fld 0 f0 rfl).2, e0] at g0
  rw [(fld 1 f1 rfl).1, (fld 1 f1 rfl).2, e1] at g1
  obtain ⟨a0, rfl, b0⟩ := i64G (c := x0) g0
  obtain ⟨ls, r1, b1⟩ := leavesG (v := x1) g1
  refine ⟨⟨a0, ls⟩, x1, rfl, r1, ?_, b0⟩
  dsimp only
  have hy1 := congrArg Prod.fst hy
  rw [hy1]
  simp only [Rows.uptoBulk, List.map_cons, List.map_nil, Rows.uptoBulkAll]
  omega
theorem Tryz.pymFields : ∃ f0 f1 f2 f3 : Field, Tryz.prog.underlying 172 = some (.struct #[f0, f1, f2, f3]) ∧ Hid (f0.type = 9 ∧ f1.type = 25 ∧ f2.type = 25 ∧ f3.type = 25) ∧
    Hid (f0.offset = 0 ∧ f1.offset = 1 ∧ f2.offset = 5 ∧ f3.offset = 9) :=
  ⟨_, _, _, _, Tryz.underlying172, (⟨rfl, rfl, rfl, rfl⟩ : _ ∧ _ ∧ _ ∧ _), (⟨rfl, rfl, rfl, rfl⟩ : _ ∧ _ ∧ _ ∧ _)⟩
theorem ls13 {α : Type} {l : List α} (h : l.length = 13) : ∃ x0 x1 x2 x3 x4 x5 x6 x7 x8 x9 x10 x11 x12, l = [x0, x1, x2, x3, x4, x5, x6, x7, x8, x9, x10, x11, x12] := by
  match l, h with
  | [x0, x1, x2, x3, x4, x5, x6, x7, x8, x9, x10, x11, x12], _ => exact ⟨x0, x1, x2, x3, x4, x5, x6, x7, x8, x9, x10, x11, x12, rfl⟩
theorem ls4 {α : Type} {l : List α} (h : l.length = 4) : ∃ x0 x1 x2 x3, l = [x0, x1, x2, x3] := by
  match l, h with
  | [x0, x1, x2, x3], _ => exact ⟨x0, x1, x2, x3, rfl⟩
theorem trod_pym {H : Type} {enc : TypeId × Value → H} {W : World} {n : Nat} {cs : List Value} {y : DataW H × List MemPlace} (hl : cs.length = 13)
    (hf : DataW.trod enc Tryz.prog W 0 (fun _ => true) true n 172 cs = some y) :
    ∃ p : PyW, cs = [.string p.d, .int .u64 (p.x.a : Int), .int .u64 (p.x.b : Int), .int .u64 (p.x.c : Int), .int .u64 (p.x.d : Int), .int .u64 (p.y.a : Int), .int .u64 (p.y.b : Int), .int .u64 (p.y.c : Int), .int .u64 (p.y.d : Int), .int .u64 (p.z.a : Int), .int .u64 (p.z.b : Int), .int .u64 (p.z.c : Int), .int .u64 (p.z.d : Int)] ∧ (p.x.ok ∧ p.y.ok ∧ p.z.ok) ∧ p.d.size ≤ Rows.uptoBulk y.1 := by
  obtain ⟨f0, f1, f2, f3, hu, he, ho⟩ := Tryz.pymFields
  obtain ⟨x0, x1, x2, x3, x4, x5, x6, x7, x8, x9, x10, x11, x12, rfl⟩ := ls13 hl
  obtain ⟨xs, n', _, hy, _, hlen, hg⟩ := DataW.trod_struct hu hf
  obtain ⟨y0, y1, y2, y3, rfl⟩ := ls4 hlen
  obtain ⟨o0, o1, o2, o3⟩ := ho.out
  obtain ⟨e0, e1, e2, e3⟩ := he.out
  have g0 := hg 0 f0 rfl
  rw [o0, e0, one_stringG] at g0
  obtain ⟨a0, rfl, b0, c0⟩ := strG (c := x0) g0
  have g1 := hg 1 f1 rfl
  rw [o1, e1, four_uG] at g1
  obtain ⟨a1, rfl, rfl, rfl, rfl, k1⟩ := trod_u4G (c0 := x1) (c1 := x2) (c2 := x3) (c3 := x4) g1
  have g2 := hg 2 f2 rfl
  rw [o2, e2, four_uG] at g2
  obtain ⟨a2, rfl, rfl, rfl, rfl, k2⟩ := trod_u4G (c0 := x5) (c1 := x6) (c2 := x7) (c3 := x8) g2
  have g3 := hg 3 f3 rfl
  rw [o3, e3, four_uG] at g3
  obtain ⟨a3, rfl, rfl, rfl, rfl, k3⟩ := trod_u4G (c0 := x9) (c1 := x10) (c2 := x11) (c3 := x12) g3
  refine ⟨⟨a0, a1, a2, a3⟩, rfl, ⟨k1, k2, k3⟩, ?_⟩
  dsimp only
  have hy1 := congrArg Prod.fst hy
  rw [hy1]
  simp only [Rows.uptoBulk, List.map_cons, List.map_nil, Rows.uptoBulkAll]
  omega
theorem Tryz.odmFields : ∃ f0 f1 f2 : Field, Tryz.prog.underlying 215 = some (.struct #[f0, f1, f2]) ∧ Hid (f0.type = 9 ∧ f1.type = 9 ∧ f2.type = 25) ∧
    Hid (f0.offset = 0 ∧ f1.offset = 1 ∧ f2.offset = 2) :=
  ⟨_, _, _, Tryz.underlying215, (⟨rfl, rfl, rfl⟩ : _ ∧ _ ∧ _), (⟨rfl, rfl, rfl⟩ : _ ∧ _ ∧ _)⟩
theorem ls3 {α : Type} {l : List α} (h : l.length = 3) : ∃ x0 x1 x2, l = [x0, x1, x2] := by
  match l, h with
  | [x0, x1, x2], _ => exact ⟨x0, x1, x2, rfl⟩
theorem trod_odm {H : Type} {enc : TypeId × Value → H} {W : World} {n : Nat} {cs : List Value} {y : DataW H × List MemPlace} (hl : cs.length = 6)
    (hf : DataW.trod enc Tryz.prog W 0 (fun _ => true) true n 215 cs = some y) :
    ∃ q : OrdV, cs = q.cells.toList ∧ q.x.ok ∧ q.t.size ≤ maxLen ∧ q.d.size ≤ maxLen := by
  obtain ⟨f0, f1, f2, hu, he, ho⟩ := Tryz.odmFields
  obtain ⟨x0, x1, x2, x3, x4, x5, rfl⟩ := ls6 hl
  obtain ⟨xs, n', _, hy, _, hlen, hg⟩ := DataW.trod_struct hu hf
  obtain ⟨y0, y1, y2, rfl⟩ := ls3 hlen
  obtain ⟨o0, o1, o2⟩ := ho.out
  obtain ⟨e0, e1, e2⟩ := he.out
  have g0 := hg 0 f0 rfl
  rw [o0, e0, one_stringG] at g0
  obtain ⟨a0, rfl, b0, c0⟩ := strG (c := x0) g0
  have g1 := hg 1 f1 rfl
  rw [o1, e1, one_stringG] at g1
  obtain ⟨a1, rfl, b1, c1⟩ := strG (c := x1) g1
  have g2 := hg 2 f2 rfl
  rw [o2, e2, four_uG] at g2
  obtain ⟨a2, rfl, rfl, rfl, rfl, k2⟩ := trod_u4G (c0 := x2) (c1 := x3) (c2 := x4) (c3 := x5) g2
  exact ⟨⟨a0, a1, a2⟩, rfl, k2, c0, c1⟩
instance : Inhabited OrdV := ⟨⟨⟨#[]⟩, ⟨#[]⟩, U4.zero⟩⟩
theorem ordsG {H : Type} {enc : TypeId × Value → H} {W : World} {n : Nat} {y : DataW H × List MemPlace} {v : Value} (h : DataW.trod enc Tryz.prog W 0 (fun _ => true) true n 173 [v] = some y) :
    ∃ l : List OrdV, OrdsAt W v l ∧ l.length ≤ Rows.uptoBulk y.1 ∧ ∀ q ∈ l, q.x.ok ∧ q.t.size ≤ maxLen ∧ q.d.size ≤ maxLen := by
  rcases open_slice Tryz.underlying173 h with ⟨hcs, hx⟩ | ⟨a, len, cap, m, n, D, Pl, hcs, _, hl, hcm, hm, hx, hi⟩
  · simp at hcs
    subst hcs
    exact ⟨[], ⟨none, 0, rfl, fun h => absurd h (by simp)⟩, by simp, by simp⟩
  · simp at hcs
    subst hcs
    simp only [if_true] at hm
    subst hm
    have hall : ∀ i, i < m → ∃ f : OrdV, (∀ (j : Nat) (u : Value), f.cells[j]? = some u → W.cell? ((a.add (i * 6)).add j) = some u) ∧ f.x.ok ∧ f.t.size ≤ maxLen ∧ f.d.size ≤ maxLen := fun i hi2 => by
      obtain ⟨cs, hc, ht⟩ := hi i hi2
      have h1 : Tryz.prog.cellsOf 215 = 6 := by kernel_rfl
      rw [h1] at hc
      obtain ⟨_, hcl, hat⟩ := World.cells?_some hc
      obtain ⟨q, rfl, hok⟩ := trod_odm hcl ht
      refine ⟨q, fun j u hu => ?_, hok⟩
      have hj : j < 6 := by
        have := (Array.getElem?_eq_some_iff.1 hu).1
        simpa [OrdV.cells] using this
      have hq := hat j (by omega)
      rw [hq]
      simpa using hu
    obtain ⟨L, hL⟩ := choose_lt (α := OrdV) (p := fun i f => (∀ (j : Nat) (u : Value), f.cells[j]? = some u → W.cell? ((a.add (i * 6)).add j) = some u) ∧ f.x.ok ∧ f.t.size ≤ maxLen ∧ f.d.size ≤ maxLen) hall
    refine ⟨(List.range len).map L, ⟨some a, m, by simp, fun h0 => ?_⟩, ?_, ?_⟩
    · simp at h0
      have q0 := (hL 0 (by omega)).1 0 _ rfl
      obtain ⟨b, o, spot⟩ := a
      have hspot : spot = none := by simpa [Addr.add] using World.cell?_spot q0
      subst hspot
      refine ⟨b, o, rfl, ?_, fun j hj i u hi6 hu => ?_⟩
      · have := World.block_lt_of_cell? W _ q0
        simpa [Addr.add] using this
      · simp at hj
        have qx := (hL j (by omega)).1 i u (by simpa using hu)
        rw [addP_none', addP_none'] at qx
        exact qx
    · rw [hx]
      have := slice_bulkM ((List.range len).map D) ((List.range (m - len)).map fun j => D (len + j))
      simpa using this
    · intro f hf
      obtain ⟨i, hi2, rfl⟩ := List.mem_map.1 hf
      obtain ⟨_, h2, h3⟩ := hL i (by have := List.mem_range.1 hi2; omega)
      exact ⟨h2, h3⟩
theorem Tryz.msgFields : ∃ f0 f1 f2 f3 f4 f5 f6 f7 f8 f9 f10 f11 f12 f13 f14 f15 f16 f17 f18 f19 f20 f21 f22 f23 f24 f25 f26 f27 f28 f29 f30 : Field, Tryz.prog.underlying 175 = some (.struct #[f0, f1, f2, f3, f4, f5, f6, f7, f8, f9, f10, f11, f12, f13, f14, f15, f16, f17, f18, f19, f20, f21, f22, f23, f24, f25, f26, f27, f28, f29, f30]) ∧ Hid (f0.type = 3 ∧ f1.type = 9 ∧ f2.type = 9 ∧ f3.type = 25 ∧ f4.type = 9 ∧ f5.type = 9 ∧ f6.type = 9 ∧ f7.type = 9 ∧ f8.type = 9 ∧ f9.type = 9 ∧ f10.type = 9 ∧ f11.type = 9 ∧ f12.type = 9 ∧ f13.type = 4 ∧ f14.type = 163 ∧ f15.type = 163 ∧ f16.type = 164 ∧ f17.type = 164 ∧ f18.type = 164 ∧ f19.type = 165 ∧ f20.type = 165 ∧ f21.type = 23 ∧ f22.type = 23 ∧ f23.type = 23 ∧ f24.type = 23 ∧ f25.type = 167 ∧ f26.type = 27 ∧ f27.type = 170 ∧ f28.type = 23 ∧ f29.type = 172 ∧ f30.type = 173) ∧
    Hid (f0.offset = 0 ∧ f1.offset = 1 ∧ f2.offset = 2 ∧ f3.offset = 3 ∧ f4.offset = 7 ∧ f5.offset = 8 ∧ f6.offset = 9 ∧ f7.offset = 10 ∧ f8.offset = 11 ∧ f9.offset = 12 ∧ f10.offset = 13 ∧ f11.offset = 14 ∧ f12.offset = 15 ∧ f13.offset = 16 ∧ f14.offset = 17 ∧ f15.offset = 23 ∧ f16.offset = 29 ∧ f17.offset = 30 ∧ f18.offset = 31 ∧ f19.offset = 32 ∧ f20.offset = 33 ∧ f21.offset = 34 ∧ f22.offset = 35 ∧ f23.offset = 36 ∧ f24.offset = 37 ∧ f25.offset = 38 ∧ f26.offset = 44 ∧ f27.offset = 45 ∧ f28.offset = 47 ∧ f29.offset = 48 ∧ f30.offset = 61) :=
  ⟨_, _, _, _, _, _, _, _, _, _, _, _, _, _, _, _, _, _, _, _, _, _, _, _, _, _, _, _, _, _, _, Tryz.underlying175, (⟨rfl, rfl, rfl, rfl, rfl, rfl, rfl, rfl, rfl, rfl, rfl, rfl, rfl, rfl, rfl, rfl, rfl, rfl, rfl, rfl, rfl, rfl, rfl, rfl, rfl, rfl, rfl, rfl, rfl, rfl, rfl⟩ : _ ∧ _ ∧ _ ∧ _ ∧ _ ∧ _ ∧ _ ∧ _ ∧ _ ∧ _ ∧ _ ∧ _ ∧ _ ∧ _ ∧ _ ∧ _ ∧ _ ∧ _ ∧ _ ∧ _ ∧ _ ∧ _ ∧ _ ∧ _ ∧ _ ∧ _ ∧ _ ∧ _ ∧ _ ∧ _ ∧ _), (⟨rfl, rfl, rfl, rfl, rfl, rfl, rfl, rfl, rfl, rfl, rfl, rfl, rfl, rfl, rfl, rfl, rfl, rfl, rfl, rfl, rfl, rfl, rfl, rfl, rfl, rfl, rfl, rfl, rfl, rfl, rfl⟩ : _ ∧ _ ∧ _ ∧ _ ∧ _ ∧ _ ∧ _ ∧ _ ∧ _ ∧ _ ∧ _ ∧ _ ∧ _ ∧ _ ∧ _ ∧ _ ∧ _ ∧ _ ∧ _ ∧ _ ∧ _ ∧ _ ∧ _ ∧ _ ∧ _ ∧ _ ∧ _ ∧ _ ∧ _ ∧ _ ∧ _)⟩
theorem ls62 {α : Type} {l : List α} (h : l.length = 62) : ∃ x0 x1 x2 x3 x4 x5 x6 x7 x8 x9 x10 x11 x12 x13 x14 x15 x16 x17 x18 x19 x20 x21 x22 x23 x24 x25 x26 x27 x28 x29 x30 x31 x32 x33 x34 x35 x36 x37 x38 x39 x40 x41 x42 x43 x44 x45 x46 x47 x48 x49 x50 x51 x52 x53 x54 x55 x56 x57 x58 x59 x60 x61, l = [x0, x1, x2, x3, x4, x5, x6, x7, x8, x9, x10, x11, x12, x13, x14, x15, x16, x17, x18, x19, x20, x21, x22, x23, x24, x25, x26, x27, x28, x29, x30, x31, x32, x33, x34, x35, x36, x37, x38, x39, x40, x41, x42, x43, x44, x45, x46, x47, x48, x49, x50, x51, x52, x53, x54, x55, x56, x57, x58, x59, x60, x61] := by
  obtain ⟨x0, r0, e0, h0⟩ := ex_cons (n := 61) h
  obtain ⟨x1, r1, e1, h1⟩ := ex_cons (n := 60) h0
  obtain ⟨x2, r2, e2, h2⟩ := ex_cons (n := 59) h1
  obtain ⟨x3, r3, e3, h3⟩ := ex_cons (n := 58) h2
  obtain ⟨x4, r4, e4, h4⟩ := ex_cons (n := 57) h3
  obtain ⟨x5, r5, e5, h5⟩ := ex_cons (n := 56) h4
  obtain ⟨x6, r6, e6, h6⟩ := ex_cons (n := 55) h5
  obtain ⟨x7, r7, e7, h7⟩ := ex_cons (n := 54) h6
  obtain ⟨x8, r8, e8, h8⟩ := ex_cons (n := 53) h7
  obtain ⟨x9, r9, e9, h9⟩ := ex_cons (n := 52) h8
  obtain ⟨x10, r10, e10, h10⟩ := ex_cons (n := 51) h9
  obtain ⟨x11, r11, e11, h11⟩ := ex_cons (n := 50) h10
  obtain ⟨x12, r12, e12, h12⟩ := ex_cons (n := 49) h11
  obtain ⟨x13, r13, e13, h13⟩ := ex_cons (n := 48) h12
  obtain ⟨x14, r14, e14, h14⟩ := ex_cons (n := 47) h13
  obtain ⟨x15, r15, e15, h15⟩ := ex_cons (n := 46) h14
  obtain ⟨x16, r16, e16, h16⟩ := ex_cons (n := 45) h15
  obtain ⟨x17, r17, e17, h17⟩ := ex_cons (n := 44) h16
  obtain ⟨x18, r18, e18, h18⟩ := ex_cons (n := 43) h17
  obtain ⟨x19, r19, e19, h19⟩ := ex_cons (n := 42) h18
  obtain ⟨x20, r20, e20, h20⟩ := ex_cons (n := 41) h19
  obtain ⟨x21, r21, e21, h21⟩ := ex_cons (n := 40) h20
  obtain ⟨x22, r22, e22, h22⟩ := ex_cons (n := 39) h21
  obtain ⟨x23, r23, e23, h23⟩ := ex_cons (n := 38) h22
  obtain ⟨x24, r24, e24, h24⟩ := ex_cons (n := 37) h23
  obtain ⟨x25, r25, e25, h25⟩ := ex_cons (n := 36) h24
  obtain ⟨x26, r26, e26, h26⟩ := ex_cons (n := 35) h25
  obtain ⟨x27, r27, e27, h27⟩ := ex_cons (n := 34) h26
  obtain ⟨x28, r28, e28, h28⟩ := ex_cons (n := 33) h27
  obtain ⟨x29, r29, e29, h29⟩ := ex_cons (n := 32) h28
  obtain ⟨x30, r30, e30, h30⟩ := ex_cons (n := 31) h29
  obtain ⟨x31, r31, e31, h31⟩ := ex_cons (n := 30) h30
  obtain ⟨x32, r32, e32, h32⟩ := ex_cons (n := 29) h31
  obtain ⟨x33, r33, e33, h33⟩ := ex_cons (n := 28) h32
  obtain ⟨x34, r34, e34, h34⟩ := ex_cons (n := 27) h33
  obtain ⟨x35, r35, e35, h35⟩ := ex_cons (n := 26) h34
  obtain ⟨x36, r36, e36, h36⟩ := ex_cons (n := 25) h35
  obtain ⟨x37, r37, e37, h37⟩ := ex_cons (n := 24) h36
  obtain ⟨x38, r38, e38, h38⟩ := ex_cons (n := 23) h37
  obtain ⟨x39, r39, e39, h39⟩ := ex_cons (n := 22) h38
  obtain ⟨x40, r40, e40, h40⟩ := ex_cons (n := 21) h39
  obtain ⟨x41, r41, e41, h41⟩ := ex_cons (n := 20) h40
  obtain ⟨x42, r42, e42, h42⟩ := ex_cons (n := 19) h41
  obtain ⟨x43, r43, e43, h43⟩ := ex_cons (n := 18) h42
  obtain ⟨x44, r44, e44, h44⟩ := ex_cons (n := 17) h43
  obtain ⟨x45, r45, e45, h45⟩ := ex_cons (n := 16) h44
  obtain ⟨x46, r46, e46, h46⟩ := ex_cons (n := 15) h45
  obtain ⟨x47, r47, e47, h47⟩ := ex_cons (n := 14) h46
  obtain ⟨x48, r48, e48, h48⟩ := ex_cons (n := 13) h47
  obtain ⟨x49, r49, e49, h49⟩ := ex_cons (n := 12) h48
  obtain ⟨x50, r50, e50, h50⟩ := ex_cons (n := 11) h49
  obtain ⟨x51, r51, e51, h51⟩ := ex_cons (n := 10) h50
  obtain ⟨x52, r52, e52, h52⟩ := ex_cons (n := 9) h51
  obtain ⟨x53, r53, e53, h53⟩ := ex_cons (n := 8) h52
  obtain ⟨x54, r54, e54, h54⟩ := ex_cons (n := 7) h53
  obtain ⟨x55, r55, e55, h55⟩ := ex_cons (n := 6) h54
  obtain ⟨x56, r56, e56, h56⟩ := ex_cons (n := 5) h55
  obtain ⟨x57, r57, e57, h57⟩ := ex_cons (n := 4) h56
  obtain ⟨x58, r58, e58, h58⟩ := ex_cons (n := 3) h57
  obtain ⟨x59, r59, e59, h59⟩ := ex_cons (n := 2) h58
  obtain ⟨x60, r60, e60, h60⟩ := ex_cons (n := 1) h59
  obtain ⟨x61, r61, e61, h61⟩ := ex_cons (n := 0) h60
  exact ⟨x0, x1, x2, x3, x4, x5, x6, x7, x8, x9, x10, x11, x12, x13, x14, x15, x16, x17, x18, x19, x20, x21, x22, x23, x24, x25, x26, x27, x28, x29, x30, x31, x32, x33, x34, x35, x36, x37, x38, x39, x40, x41, x42, x43, x44, x45, x46, x47, x48, x49, x50, x51, x52, x53, x54, x55, x56, x57, x58, x59, x60, x61, by rw [e0, e1, e2, e3, e4, e5, e6, e7, e8, e9, e10, e11, e12, e13, e14, e15, e16, e17, e18, e19, e20, e21, e22, e23, e24, e25, e26, e27, e28, e29, e30, e31, e32, e33, e34, e35, e36, e37, e38, e39, e40, e41, e42, e43, e44, e45, e46, e47, e48, e49, e50, e51, e52, e53, e54, e55, e56, e57, e58, e59, e60, e61, List.length_eq_zero_iff.1 h61]⟩
theorem ls31 {α : Type} {l : List α} (h : l.length = 31) : ∃ x0 x1 x2 x3 x4 x5 x6 x7 x8 x9 x10 x11 x12 x13 x14 x15 x16 x17 x18 x19 x20 x21 x22 x23 x24 x25 x26 x27 x28 x29 x30, l = [x0, x1, x2, x3, x4, x5, x6, x7, x8, x9, x10, x11, x12, x13, x14, x15, x16, x17, x18, x19, x20, x21, x22, x23, x24, x25, x26, x27, x28, x29, x30] := by
  obtain ⟨x0, r0, e0, h0⟩ := ex_cons (n := 30) h
  obtain ⟨x1, r1, e1, h1⟩ := ex_cons (n := 29) h0
  obtain ⟨x2, r2, e2, h2⟩ := ex_cons (n := 28) h1
  obtain ⟨x3, r3, e3, h3⟩ := ex_cons (n := 27) h2
  obtain ⟨x4, r4, e4, h4⟩ := ex_cons (n := 26) h3
  obtain ⟨x5, r5, e5, h5⟩ := ex_cons (n := 25) h4
  obtain ⟨x6, r6, e6, h6⟩ := ex_cons (n := 24) h5
  obtain ⟨x7, r7, e7, h7⟩ := ex_cons (n := 23) h6
  obtain ⟨x8, r8, e8, h8⟩ := ex_cons (n := 22) h7
  obtain ⟨x9, r9, e9, h9⟩ := ex_cons (n := 21) h8
  obtain ⟨x10, r10, e10, h10⟩ := ex_cons (n := 20) h9
  obtain ⟨x11, r11, e11, h11⟩ := ex_cons (n := 19) h10
  obtain ⟨x12, r12, e12, h12⟩ := ex_cons (n := 18) h11
  obtain ⟨x13, r13, e13, h13⟩ := ex_cons (n := 17) h12
  obtain ⟨x14, r14, e14, h14⟩ := ex_cons (n := 16) h13
  obtain ⟨x15, r15, e15, h15⟩ := ex_cons (n := 15) h14
  obtain ⟨x16, r16, e16, h16⟩ := ex_cons (n := 14) h15
  obtain ⟨x17, r17, e17, h17⟩ := ex_cons (n := 13) h16
  obtain ⟨x18, r18, e18, h18⟩ := ex_cons (n := 12) h17
  obtain ⟨x19, r19, e19, h19⟩ := ex_cons (n := 11) h18
  obtain ⟨x20, r20, e20, h20⟩ := ex_cons (n := 10) h19
  obtain ⟨x21, r21, e21, h21⟩ := ex_cons (n := 9) h20
  obtain ⟨x22, r22, e22, h22⟩ := ex_cons (n := 8) h21
  obtain ⟨x23, r23, e23, h23⟩ := ex_cons (n := 7) h22
  obtain ⟨x24, r24, e24, h24⟩ := ex_cons (n := 6) h23
  obtain ⟨x25, r25, e25, h25⟩ := ex_cons (n := 5) h24
  obtain ⟨x26, r26, e26, h26⟩ := ex_cons (n := 4) h25
  obtain ⟨x27, r27, e27, h27⟩ := ex_cons (n := 3) h26
  obtain ⟨x28, r28, e28, h28⟩ := ex_cons (n := 2) h27
  obtain ⟨x29, r29, e29, h29⟩ := ex_cons (n := 1) h28
  obtain ⟨x30, r30, e30, h30⟩ := ex_cons (n := 0) h29
  exact ⟨x0, x1, x2, x3, x4, x5, x6, x7, x8, x9, x10, x11, x12, x13, x14, x15, x16, x17, x18, x19, x20, x21, x22, x23, x24, x25, x26, x27, x28, x29, x30, by rw [e0, e1, e2, e3, e4, e5, e6, e7, e8, e9, e10, e11, e12, e13, e14, e15, e16, e17, e18, e19, e20, e21, e22, e23, e24, e25, e26, e27, e28, e29, e30, List.length_eq_zero_iff.1 h30]⟩
set_option maxHeartbeats 4000000 in
theorem trod_msg {H : Type} {enc : TypeId × Value → H} {W : World} {n : Nat} {cs : List Value} {y : DataW H × List MemPlace} (hl : cs.length = 62)
    (hf : DataW.trod enc Tryz.prog W 0 (fun _ => true) true n 175 cs = some y) :
    ∃ m : MsgV, cs = m.cells ∧ m.rd W ∧ m.small (Rows.uptoBulk y.1) := by
  obtain ⟨f0, f1, f2, f3, f4, f5, f6, f7, f8, f9, f10, f11, f12, f13, f14, f15, f16, f17, f18, f19, f20, f21, f22, f23, f24, f25, f26, f27, f28, f29, f30, hu, he, ho⟩ := Tryz.msgFields
  obtain ⟨x0, x1, x2, x3, x4, x5, x6, x7, x8, x9, x10, x11, x12, x13, x14, x15, x16, x17, x18, x19, x20, x21, x22, x23, x24, x25, x26, x27, x28, x29, x30, x31, x32, x33, x34, x35, x36, x37, x38, x39, x40, x41, x42, x43, x44, x45, x46, x47, x48, x49, x50, x51, x52, x53, x54, x55, x56, x57, x58, x59, x60, x61, rfl⟩ := ls62 hl
  obtain ⟨xs, n', _, hy, _, hlen, hg⟩ := DataW.trod_struct hu hf
  obtain ⟨y0, y1, y2, y3, y4, y5, y6, y7, y8, y9, y10, y11, y12, y13, y14, y15, y16, y17, y18, y19, y20, y21, y22, y23, y24, y25, y26, y27, y28, y29, y30, rfl⟩ := ls31 hlen
  obtain ⟨o0, o1, o2, o3, o4, o5, o6, o7, o8, o9, o10, o11, o12, o13, o14, o15, o16, o17, o18, o19, o20, o21, o22, o23, o24, o25, o26, o27, o28, o29, o30⟩ := ho.out
  obtain ⟨e0, e1, e2, e3, e4, e5, e6, e7, e8, e9, e10, e11, e12, e13, e14, e15, e16, e17, e18, e19, e20, e21, e22, e23, e24, e25, e26, e27, e28, e29, e30⟩ := he.out
  have g0 := hg 0 f0 rfl
  rw [o0, e0, one_intG] at g0
  obtain ⟨a0, rfl, b0⟩ := i64G (c := x0) g0
  have g1 := hg 1 f1 rfl
  rw [o1, e1, one_stringG] at g1
  obtain ⟨a1, rfl, b1, c1⟩ := strG (c := x1) g1
  have g2 := hg 2 f2 rfl
  rw [o2, e2, one_stringG] at g2
  obtain ⟨a2, rfl, b2, c2⟩ := strG (c := x2) g2
  have g3 := hg 3 f3 rfl
  rw [o3, e3, four_uG] at g3
  obtain ⟨a3, rfl, rfl, rfl, rfl, k3⟩ := trod_u4G (c0 := x3) (c1 := x4) (c2 := x5) (c3 := x6) g3
  have g4 := hg 4 f4 rfl
  rw [o4, e4, one_stringG] at g4
  obtain ⟨a4, rfl, b4, c4⟩ := strG (c := x7) g4
  have g5 := hg 5 f5 rfl
  rw [o5, e5, one_stringG] at g5
  obtain ⟨a5, rfl, b5, c5⟩ := strG (c := x8) g5
  have g6 := hg 6 f6 rfl
  rw [o6, e6, one_stringG] at g6
  obtain ⟨a6, rfl, b6, c6⟩ := strG (c := x9) g6
  have g7 := hg 7 f7 rfl
  rw [o7, e7, one_stringG] at g7
  obtain ⟨a7, rfl, b7, c7⟩ := strG (c := x10) g7
  have g8 := hg 8 f8 rfl
  rw [o8, e8, one_stringG] at g8
  obtain ⟨a8, rfl, b8, c8⟩ := strG (c := x11) g8
  have g9 := hg 9 f9 rfl
  rw [o9, e9, one_stringG] at g9
  obtain ⟨a9, rfl, b9, c9⟩ := strG (c := x12) g9
  have g10 := hg 10 f10 rfl
  rw [o10, e10, one_stringG] at g10
  obtain ⟨a10, rfl, b10, c10⟩ := strG (c := x13) g10
  have g11 := hg 11 f11 rfl
  rw [o11, e11, one_stringG] at g11
  obtain ⟨a11, rfl, b11, c11⟩ := strG (c := x14) g11
  have g12 := hg 12 f12 rfl
  rw [o12, e12, one_stringG] at g12
  obtain ⟨a12, rfl, b12, c12⟩ := strG (c := x15) g12
  have g13 := hg 13 f13 rfl
  rw [o13, e13, one_boolG] at g13
  obtain ⟨a13, rfl⟩ := boolG (c := x16) g13
  have g14 := hg 14 f14 rfl
  rw [o14, e14, six_hd] at g14
  obtain ⟨a14, hc14, r14, b14⟩ := trod_hdm (cs := [x17, x18, x19, x20, x21, x22]) rfl g14
  simp only [List.cons.injEq, and_true] at hc14
  obtain ⟨rfl, rfl, rfl, rfl, rfl, rfl⟩ := hc14
  have g15 := hg 15 f15 rfl
  rw [o15, e15, six_hd] at g15
  obtain ⟨a15, hc15, r15, b15⟩ := trod_hdm (cs := [x23, x24, x25, x26, x27, x28]) rfl g15
  simp only [List.cons.injEq, and_true] at hc15
  obtain ⟨rfl, rfl, rfl, rfl, rfl, rfl⟩ := hc15
  have g16 := hg 16 f16 rfl
  rw [o16, e16, one_vs] at g16
  obtain ⟨a16, r16, b16⟩ := valsG (v := x29) g16
  have g17 := hg 17 f17 rfl
  rw [o17, e17, one_vs] at g17
  obtain ⟨a17, r17, b17⟩ := valsG (v := x30) g17
  have g18 := hg 18 f18 rfl
  rw [o18, e18, one_vs] at g18
  obtain ⟨a18, r18, b18⟩ := valsG (v := x31) g18
  have g19 := hg 19 f19 rfl
  rw [o19, e19, one_ws] at g19
  obtain ⟨a19, r19, b19⟩ := strsG (v := x32) g19
  have g20 := hg 20 f20 rfl
  rw [o20, e20, one_ws] at g20
  obtain ⟨a20, r20, b20⟩ := strsG (v := x33) g20
  have g21 := hg 21 f21 rfl
  rw [o21, e21, one_u64G] at g21
  obtain ⟨a21, rfl, b21⟩ := u64_natG (c := x34) g21
  have g22 := hg 22 f22 rfl
  rw [o22, e22, one_u64G] at g22
  obtain ⟨a22, rfl, b22⟩ := u64_natG (c := x35) g22
  have g23 := hg 23 f23 rfl
  rw [o23, e23, one_u64G] at g23
  obtain ⟨a23, rfl, b23⟩ := u64_natG (c := x36) g23
  have g24 := hg 24 f24 rfl
  rw [o24, e24, one_u64G] at g24
  obtain ⟨a24, rfl, b24⟩ := u64_natG (c := x37) g24
  have g25 := hg 25 f25 rfl
  rw [o25, e25, six_pk] at g25
  obtain ⟨a25, hc25, r25, b25⟩ := trod_pkm (cs := [x38, x39, x40, x41, x42, x43]) rfl g25
  simp only [List.cons.injEq, and_true] at hc25
  obtain ⟨rfl, rfl, rfl, rfl, rfl, rfl⟩ := hc25
  have g26 := hg 26 f26 rfl
  rw [o26, e26, one_bytesG] at g26
  obtain ⟨a26, r26, b26⟩ := bytesG (c := x44) g26
  have g27 := hg 27 f27 rfl
  rw [o27, e27, two_pf] at g27
  obtain ⟨a27, w27, hc27, r27, b27, k27⟩ := trod_pfm (cs := [x45, x46]) rfl g27
  simp only [List.cons.injEq, and_true] at hc27
  obtain ⟨rfl, rfl⟩ := hc27
  have g28 := hg 28 f28 rfl
  rw [o28, e28, one_u64G] at g28
  obtain ⟨a28, rfl, b28⟩ := u64_natG (c := x47) g28
  have g29 := hg 29 f29 rfl
  rw [o29, e29, thir_py] at g29
  obtain ⟨a29, hc29, k29, b29⟩ := trod_pym (cs := [x48, x49, x50, x51, x52, x53, x54, x55, x56, x57, x58, x59, x60]) rfl g29
  simp only [List.cons.injEq, and_true] at hc29
  obtain ⟨rfl, rfl, rfl, rfl, rfl, rfl, rfl, rfl, rfl, rfl, rfl, rfl, rfl⟩ := hc29
  have g30 := hg 30 f30 rfl
  rw [o30, e30, one_os] at g30
  obtain ⟨a30, r30, b30, k30⟩ := ordsG (v := x61) g30
  have hy1 := congrArg Prod.fst hy
  rw [hy1]
  simp only [Rows.uptoBulk, List.map_cons, List.map_nil, Rows.uptoBulkAll]
  refine ⟨⟨a0, a1, a2, a3, a4, a5, a6, a7, a8, a9, a10, a11, a12, a13, a14, a15, _, a16, _, a17, _, a18, _, a19, _, a20, a21, a22, a23, a24, a25, _, a26, _, a27, a28, a29, _, a30⟩, rfl, ⟨b0, k3, r14, r15, r16, r17, r18, r19, r20, b21, b22, b23, b24, r25, r26, r27, k27, b28, k29, r30, k30⟩, ⟨?_, ?_⟩⟩
  · intro s hs
    simp only [MsgV.texts, List.mem_cons, List.not_mem_nil, or_false] at hs
    rcases hs with rfl | rfl | rfl | rfl | rfl | rfl | rfl | rfl | rfl | rfl | rfl | rfl | rfl | rfl | rfl | rfl <;> omega
  · intro k hk
    simp only [MsgV.lens, List.mem_cons, List.not_mem_nil, or_false] at hk
    rcases hk with rfl | rfl | rfl | rfl | rfl | rfl | rfl | rfl | rfl | rfl | rfl | rfl | rfl | rfl | rfl <;> omega
theorem cells62 : Tryz.prog.cellsOf 175 = 62 := by kernel_rfl
instance : Inhabited StepV := ⟨⟨0, 0, 0, ⟨#[]⟩, ⟨0, ⟨#[]⟩, ⟨#[]⟩, U4.zero, ⟨#[]⟩, ⟨#[]⟩, ⟨#[]⟩, ⟨#[]⟩, ⟨#[]⟩, ⟨#[]⟩, ⟨#[]⟩, ⟨#[]⟩, ⟨#[]⟩, false, ⟨⟨#[]⟩, 0, 0, .slice none 0 0, .slice none 0 0, .slice none 0 0, [], [], []⟩, ⟨⟨#[]⟩, 0, 0, .slice none 0 0, .slice none 0 0, .slice none 0 0, [], [], []⟩, .slice none 0 0, [], .slice none 0 0, [], .slice none 0 0, [], .slice none 0 0, [], .slice none 0 0, [], 0, 0, 0, 0, ⟨⟨#[]⟩, ⟨#[]⟩, 0, .slice none 0 0, [], 0, 0⟩, .slice none 0 0, [], .slice none 0 0, ⟨0, []⟩, 0, ⟨⟨#[]⟩, U4.zero, U4.zero, U4.zero⟩, .slice none 0 0, []⟩⟩⟩
end Go.Proofs.YtniclaapiabmdaaGreatDoor
namespace Go.Proofs.YtniclaapiabmdaaGreatDoor
set_option maxRecDepth 100000
open Go.RowKit
def kInts : List Int := kTab.map fun x => (x.toNat : Int)
theorem kTabName : Tryz.prog.globalNamed "isthmus/sha.roundTable" = some 0 := by kernel_rfl
theorem kTabType : (Tryz.prog.globals[0]?).map (·.type) = some 181 := by kernel_rfl
theorem kTabUnd : Tryz.prog.underlying 181 = some (.array 64 123) := by kernel_rfl
theorem kTabElem : Tryz.prog.underlying 123 = some (.int .u32) := by kernel_rfl
theorem kTabCells : Tryz.prog.cellsOf 181 = 64 := by kernel_rfl
theorem kElemCells : Tryz.prog.cellsOf 123 = 1 := by kernel_rfl
theorem table_of {W : World} (h : Lib.TabIs Tryz.prog W "isthmus/sha.roundTable" .u32 kInts) : ∃ fr : TypeId × Nat × Nat, W.heap[0]? = some (.cells kVals fr.1 fr.2) := by
  unfold Lib.TabIs World.var? at h
  rw [kTabName] at h
  simp only [Option.bind_some] at h
  split at h
  · next cs t fz hc =>
    injection h with h
    refine ⟨(t, fz), ?_⟩
    rw [hc, h]
    simp [kInts, kVals, w32, Function.comp_def]
  · cases h
theorem table {W : World} (h : laidMetH Tryz.prog [("isthmus/sha.roundTable", Rows.laid_isthmus_sha_roundTable)] W) : ∃ fr : TypeId × Nat × Nat, W.heap[0]? = some (.cells kVals fr.1 fr.2) :=
  table_of (Lib.tabIs_of_head (rest := []) kTabName kTabType kTabUnd kTabElem kElemCells kTabCells h)
end Go.Proofs.YtniclaapiabmdaaGreatDoor
namespace Go.Proofs.YtniclaapiabmdaaGreatDoor
set_option maxRecDepth 100000
open Go.RowKit
end Go.Proofs.YtniclaapiabmdaaGreatDoor
