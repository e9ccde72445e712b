
/- What every opener of a struct needs: how many cells a field has; numbers and amounts. An argument that is a packet, opened. An argument that is a transfer's data, opened. An argument that is a transfer's limit, opened. Opens a connection that is handed in. -/
import Derived.Test.YtmphegeiclgjbaaGreatDoorLimbA0
import Derived.Test.YtmphegeiclgjbaaGreatDoorRows
import Derived.ProofKit
import Derived.OpenShut
import Derived.Laws.IdiomArrays
import Derived.Test.YtmphegeiclgjbaaGreatDoorOpenB0
namespace Go.Proofs.YtmphegeiclgjbaaGreatDoor
set_option maxRecDepth 100000
open Go Go.ChangeShapes Go.WideShapes Go.ChangeAt Go.RowKit Go.Deep
set_option linter.unusedVariables false

theorem u64_natG {c : Value} {H : Type} {enc : TypeId × Value → H} {W : World} {n : Nat} {y : DataW H × List MemPlace}
    (h : DataW.trod enc Tryz.prog W 0 (fun _ => true) true n 29 [c] = some y) : ∃ k : Nat, c = .int .u64 (k : Int) ∧ k < 18446744073709551616 := by
  obtain ⟨z, hc, _, hw⟩ := DataW.trod_int Tryz.underlying29 h
  have h2 : 0 ≤ z ∧ z ≤ 18446744073709551615 := by simpa [Lit.wf, IntKind.min, IntKind.max, IntKind.signed, IntKind.bits] using hw
  obtain ⟨k, rfl⟩ := Int.eq_ofNat_of_zero_le h2.1
  refine ⟨k, by simpa using hc, by omega⟩
theorem trod_u4G {H : Type} {enc : TypeId × Value → H} {W : World} {n : Nat} {c0 c1 c2 c3 : Value} {y : DataW H × List MemPlace}
    (h : DataW.trod enc Tryz.prog W 0 (fun _ => true) true n 31 [c0, c1, c2, c3] = some y) : ∃ x : U4, c0 = .int .u64 (x.a : Int) ∧ c1 = .int .u64 (x.b : Int) ∧ c2 = .int .u64 (x.c : Int) ∧ c3 = .int .u64 (x.d : Int) ∧ x.ok := by
  obtain ⟨y0, y1, y2, y3, n, _, h0, h1, h2, h3⟩ := trod_array4 Tryz.underlying31 (by kernel_rfl) h
  obtain ⟨k0, rfl, b0⟩ := u64_natG h0
  obtain ⟨k1, rfl, b1⟩ := u64_natG h1
  obtain ⟨k2, rfl, b2⟩ := u64_natG h2
  obtain ⟨k3, rfl, b3⟩ := u64_natG h3
  exact ⟨⟨k0, k1, k2, k3⟩, rfl, rfl, rfl, rfl, b0, b1, b2, b3⟩
theorem one_intG : Tryz.prog.cellsOf 3 = 1 := by kernel_rfl
theorem one_stringG : Tryz.prog.cellsOf 9 = 1 := by kernel_rfl
theorem one_u64G : Tryz.prog.cellsOf 29 = 1 := by kernel_rfl
theorem one_boolG : Tryz.prog.cellsOf 4 = 1 := by kernel_rfl
theorem one_bytesG : Tryz.prog.cellsOf 32 = 1 := by kernel_rfl
theorem four_uG : Tryz.prog.cellsOf 31 = 4 := by kernel_rfl
end Go.Proofs.YtmphegeiclgjbaaGreatDoor
namespace Go.Proofs.YtmphegeiclgjbaaGreatDoor
set_option maxRecDepth 100000
open Go Go.ChangeShapes Go.WideShapes Go.ChangeAt Go.RowKit Go.Deep
set_option linter.unusedVariables false

theorem packL {α : Type} {l : List α} (h : l.length = 6) : ∃ x0 x1 x2 x3 x4 x5, l = [x0, x1, x2, x3, x4, x5] := by
  match l, h with
  | [x0, x1, x2, x3, x4, x5], _ => exact ⟨x0, x1, x2, x3, x4, x5, rfl⟩
theorem Tryz.packFields : ∃ f0 f1 f2 f3 f4 f5 : Field, Tryz.prog.underlying 38 = some (.struct #[f0, f1, f2, f3, f4, f5]) ∧ f0.type = 9 ∧ f1.type = 9 ∧ f2.type = 29 ∧ f3.type = 32 ∧ f4.type = 29 ∧ f5.type = 29 ∧
    Hid (f0.offset = 0 ∧ f1.offset = 1 ∧ f2.offset = 2 ∧ f3.offset = 3 ∧ f4.offset = 4 ∧ f5.offset = 5) :=
  ⟨_, _, _, _, _, _, Tryz.underlying38, rfl, rfl, rfl, rfl, rfl, rfl, (⟨rfl, rfl, rfl, rfl, rfl, rfl⟩ : _ ∧ _ ∧ _ ∧ _ ∧ _ ∧ _)⟩
theorem trod_pack {H : Type} {enc : TypeId × Value → H} {W : World} {n : Nat} {cs : List Value} {y : DataW H × List MemPlace} (hl : cs.length = 6)
    (hf : DataW.trod enc Tryz.prog W 0 (fun _ => true) true n 38 cs = some y) :
    ∃ (a0 : ByteArray) (a1 : ByteArray) (a2 : Nat) (a3 : Value) (l3 : List UInt8) (a4 : Nat) (a5 : Nat), cs = [.string a0, .string a1, .int .u64 (a2 : Int), a3, .int .u64 (a4 : Int), .int .u64 (a5 : Int)] ∧ a2 < 18446744073709551616 ∧ Rd W W.heap.size a3 l3 ∧ a4 < 18446744073709551616 ∧ a5 < 18446744073709551616 ∧ a0.size + a1.size + l3.length ≤ Rows.uptoBulk y.1 := by
  obtain ⟨f0, f1, f2, f3, f4, f5, hu, e0, e1, e2, e3, e4, e5, ho⟩ := Tryz.packFields
  obtain ⟨x0, x1, x2, x3, x4, x5, rfl⟩ := packL hl
  obtain ⟨xs, n', _, hy, _, hlen, hg⟩ := DataW.trod_struct hu hf
  obtain ⟨y0, y1, y2, y3, y4, y5, rfl⟩ := packL hlen
  obtain ⟨o0, o1, o2, o3, o4, o5⟩ := ho.out
  have g0 := hg 0 f0 rfl
  rw [o0, e0, one_stringG] at g0
  have g1 := hg 1 f1 rfl
  rw [o1, e1, one_stringG] at g1
  have g2 := hg 2 f2 rfl
  rw [o2, e2, one_u64G] at g2
  have g3 := hg 3 f3 rfl
  rw [o3, e3, one_bytesG] at g3
  have g4 := hg 4 f4 rfl
  rw [o4, e4, one_u64G] at g4
  have g5 := hg 5 f5 rfl
  rw [o5, e5, one_u64G] at g5
  obtain ⟨a0, ea0, ha0, _⟩ := DataW.trod_string Tryz.underlying9 g0
  have ha0' : y0.1 = .lit (.string a0.data.toList) := congrArg Prod.fst ha0
  have es0 : a0.data.toList.length = a0.size := by rw [Array.length_toList]; rfl
  simp at ea0
  subst ea0
  obtain ⟨a1, ea1, ha1, _⟩ := DataW.trod_string Tryz.underlying9 g1
  have ha1' : y1.1 = .lit (.string a1.data.toList) := congrArg Prod.fst ha1
  have es1 : a1.data.toList.length = a1.size := by rw [Array.length_toList]; rfl
  simp at ea1
  subst ea1
  obtain ⟨a2, q2, b2⟩ := u64_natG (c := x2) g2
  subst q2
  obtain ⟨l3, hr3, hl3⟩ := open_bytes (v := x3) Tryz.underlying32 Tryz.underlying5 (by kernel_rfl) g3
  obtain ⟨a4, q4, b4⟩ := u64_natG (c := x4) g4
  subst q4
  obtain ⟨a5, q5, b5⟩ := u64_natG (c := x5) g5
  subst q5
  refine ⟨a0, a1, a2, _, l3, a4, a5, rfl, b2, hr3, b4, b5, ?_⟩
  have hy1 := congrArg Prod.fst hy
  rw [hy1]
  simp only [Rows.uptoBulk, List.map_cons, List.map_nil, Rows.uptoBulkAll, ha0', es0, ha1', es1]
  omega
theorem open_pack {H : Type} {enc : TypeId × Value → H} {W : World} {v : Value} {d : DataW H} {p : List MemPlace} {base : Nat} (hv : Value.okWide Tryz.prog W .any base 38 v)
    (h : DataW.Trod enc Tryz.prog W 0 (fun _ => true) true 38 v d p) :
    ∃ (a0 : ByteArray) (a1 : ByteArray) (a2 : Nat) (a3 : Value) (l3 : List UInt8) (a4 : Nat) (a5 : Nat), v = .agg #[.string a0, .string a1, .int .u64 (a2 : Int), a3, .int .u64 (a4 : Int), .int .u64 (a5 : Int)] ∧ a2 < 18446744073709551616 ∧ Rd W W.heap.size a3 l3 ∧ a4 < 18446744073709551616 ∧ a5 < 18446744073709551616 ∧ a0.size + a1.size + l3.length ≤ Rows.uptoBulk d := by
  obtain ⟨f0, f1, f2, f3, f4, f5, hu, -⟩ := Tryz.packFields
  have hC : Tryz.prog.cellsOf 38 = 6 := by kernel_rfl
  obtain ⟨cs, rfl, hsz⟩ := okWide_struct hu hv
  obtain ⟨fuel, hf⟩ := h
  have hl : cs.toList.length = 6 := by rw [Array.length_toList]; exact hsz.trans hC
  obtain ⟨a0, a1, a2, a3, l3, a4, a5, hcs, hrest⟩ := trod_pack (cs := cs.toList) hl hf
  refine ⟨a0, a1, a2, a3, l3, a4, a5, ?_, hrest⟩
  congr 1
  obtain ⟨l⟩ := cs
  simp at hcs
  rw [hcs]
end Go.Proofs.YtmphegeiclgjbaaGreatDoor
namespace Go.Proofs.YtmphegeiclgjbaaGreatDoor
set_option maxRecDepth 100000
open Go Go.ChangeShapes Go.WideShapes Go.ChangeAt Go.RowKit Go.Deep
set_option linter.unusedVariables false

theorem tdatL {α : Type} {l : List α} (h : l.length = 7) : ∃ x0 x1 x2 x3 x4 x5 x6, l = [x0, x1, x2, x3, x4, x5, x6] := by
  match l, h with
  | [x0, x1, x2, x3, x4, x5, x6], _ => exact ⟨x0, x1, x2, x3, x4, x5, x6, rfl⟩
theorem tdatK {α : Type} {l : List α} (h : l.length = 4) : ∃ x0 x1 x2 x3, l = [x0, x1, x2, x3] := by
  match l, h with
  | [x0, x1, x2, x3], _ => exact ⟨x0, x1, x2, x3, rfl⟩
end Go.Proofs.YtmphegeiclgjbaaGreatDoor
namespace Go.Proofs.YtmphegeiclgjbaaGreatDoor
set_option maxRecDepth 100000
open Go Go.ChangeShapes Go.WideShapes Go.ChangeAt Go.RowKit Go.Deep
set_option linter.unusedVariables false

theorem tlimL {α : Type} {l : List α} (h : l.length = 10) : ∃ x0 x1 x2 x3 x4 x5 x6 x7 x8 x9, l = [x0, x1, x2, x3, x4, x5, x6, x7, x8, x9] := by
  match l, h with
  | [x0, x1, x2, x3, x4, x5, x6, x7, x8, x9], _ => exact ⟨x0, x1, x2, x3, x4, x5, x6, x7, x8, x9, rfl⟩
theorem tlimK {α : Type} {l : List α} (h : l.length = 4) : ∃ x0 x1 x2 x3, l = [x0, x1, x2, x3] := by
  match l, h with
  | [x0, x1, x2, x3], _ => exact ⟨x0, x1, x2, x3, rfl⟩
end Go.Proofs.YtmphegeiclgjbaaGreatDoor
namespace Go.Proofs.YtmphegeiclgjbaaGreatDoor
set_option maxRecDepth 100000
open Go Go.RowKit Go.ChangeShapes Go.WideShapes
set_option linter.unusedVariables false

theorem cnnL {α : Type} {l : List α} (h : l.length = 4) : ∃ x0 x1 x2 x3, l = [x0, x1, x2, x3] := by
  match l, h with
  | [x0, x1, x2, x3], _ => exact ⟨x0, x1, x2, x3, rfl⟩
theorem Tryz.cnnFields : ∃ f0 f1 f2 f3 : Field, Tryz.prog.underlying 78 = some (.struct #[f0, f1, f2, f3]) ∧ f0.type = 29 ∧ f1.type = 9 ∧ f2.type = 9 ∧ f3.type = 9 ∧
    Hid (f0.offset = 0 ∧ f1.offset = 1 ∧ f2.offset = 2 ∧ f3.offset = 3) :=
  ⟨_, _, _, _, Tryz.underlying78, rfl, rfl, rfl, rfl, (⟨rfl, rfl, rfl, rfl⟩ : _ ∧ _ ∧ _ ∧ _)⟩
theorem trod_cnn {H : Type} {enc : TypeId × Value → H} {W : World} {n : Nat} {cs : List Value} {y : DataW H × List MemPlace} (hl : cs.length = 4)
    (hf : DataW.trod enc Tryz.prog W 0 (fun _ => true) true n 78 cs = some y) :
    ∃ (a0 : Nat) (a1 : ByteArray) (a2 : ByteArray) (a3 : ByteArray), cs = [.int .u64 (a0 : Int), .string a1, .string a2, .string a3] ∧ a0 < 18446744073709551616 ∧ a1.size + a2.size + a3.size ≤ Rows.uptoBulk y.1 := by
  obtain ⟨f0, f1, f2, f3, hu, e0, e1, e2, e3, ho⟩ := Tryz.cnnFields
  obtain ⟨x0, x1, x2, x3, rfl⟩ := cnnL hl
  obtain ⟨xs, n', _, hy, _, hlen, hg⟩ := DataW.trod_struct hu hf
  obtain ⟨y0, y1, y2, y3, rfl⟩ := cnnL hlen
  obtain ⟨o0, o1, o2, o3⟩ := ho.out
  have g0 := hg 0 f0 rfl
  rw [o0, e0, one_u64G] at g0
  have g1 := hg 1 f1 rfl
  rw [o1, e1, one_stringG] at g1
  have g2 := hg 2 f2 rfl
  rw [o2, e2, one_stringG] at g2
  have g3 := hg 3 f3 rfl
  rw [o3, e3, one_stringG] at g3
  obtain ⟨a0, q0, b0⟩ := u64_natG (c := x0) g0
  subst q0
  obtain ⟨a1, ea1, ha1, _⟩ := DataW.trod_string Tryz.underlying9 g1
  have ha1' : y1.1 = .lit (.string a1.data.toList) := congrArg Prod.fst ha1
  have es1 : a1.data.toList.length = a1.size := by rw [Array.length_toList]; rfl
  simp at ea1
  subst ea1
  obtain ⟨a2, ea2, ha2, _⟩ := DataW.trod_string Tryz.underlying9 g2
  have ha2' : y2.1 = .lit (.string a2.data.toList) := congrArg Prod.fst ha2
  have es2 : a2.data.toList.length = a2.size := by rw [Array.length_toList]; rfl
  simp at ea2
  subst ea2
  obtain ⟨a3, ea3, ha3, _⟩ := DataW.trod_string Tryz.underlying9 g3
  have ha3' : y3.1 = .lit (.string a3.data.toList) := congrArg Prod.fst ha3
  have es3 : a3.data.toList.length = a3.size := by rw [Array.length_toList]; rfl
  simp at ea3
  subst ea3
  refine ⟨a0, a1, a2, a3, rfl, b0, ?_⟩
  have hy1 := congrArg Prod.fst hy
  rw [hy1]
  simp only [Rows.uptoBulk, List.map_cons, List.map_nil, Rows.uptoBulkAll, ha1', es1, ha2', es2, ha3', es3]
  omega
theorem open_cnn {H : Type} {enc : TypeId × Value → H} {W : World} {v : Value} {d : DataW H} {p : List MemPlace} {base : Nat} (hv : Value.okWide Tryz.prog W .any base 78 v)
    (h : DataW.Trod enc Tryz.prog W 0 (fun _ => true) true 78 v d p) :
    ∃ (a0 : Nat) (a1 : ByteArray) (a2 : ByteArray) (a3 : ByteArray), v = .agg #[.int .u64 (a0 : Int), .string a1, .string a2, .string a3] ∧ a0 < 18446744073709551616 ∧ a1.size + a2.size + a3.size ≤ Rows.uptoBulk d := by
  obtain ⟨f0, f1, f2, f3, hu, -⟩ := Tryz.cnnFields
  have hC : Tryz.prog.cellsOf 78 = 4 := by kernel_rfl
  obtain ⟨cs, rfl, hsz⟩ := okWide_struct hu hv
  obtain ⟨fuel, hf⟩ := h
  have hl : cs.toList.length = 4 := by rw [Array.length_toList]; exact hsz.trans hC
  obtain ⟨a0, a1, a2, a3, hcs, hrest⟩ := trod_cnn (cs := cs.toList) hl hf
  refine ⟨a0, a1, a2, a3, ?_, hrest⟩
  congr 1
  obtain ⟨l⟩ := cs
  simp at hcs
  rw [hcs]
end Go.Proofs.YtmphegeiclgjbaaGreatDoor
