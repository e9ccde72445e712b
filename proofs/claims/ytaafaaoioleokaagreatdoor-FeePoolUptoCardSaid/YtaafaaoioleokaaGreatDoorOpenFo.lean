
/- Arguments that are rows of calls on fees, opened. -/
import Derived.Test.YtaafaaoioleokaaGreatDoorOpenM0
import Derived.Test.YtaafaaoioleokaaGreatDoorOpenG1
import Derived.Test.YtaafaaoioleokaaGreatDoorFeeH2
namespace Go.Proofs.YtaafaaoioleokaaGreatDoor
set_option maxRecDepth 100000
open Go Go.ChangeShapes Go.WideShapes Go.ChangeAt Go.RowKit Go.Deep
set_option linter.unusedVariables false

theorem payoL {α : Type} {l : List α} (h : l.length = 13) : ∃ x0 x1 x2 x3 x4 x5 x6 x7 x8 x9 x10 x11 x12, l = [x0, x1, x2, x3, x4, x5, x6, x7, x8, x9, x10, x11, x12] := by
  match l, h with
  | [x0, x1, x2, x3, x4, x5, x6, x7, x8, x9, x10, x11, x12], _ => exact ⟨x0, x1, x2, x3, x4, x5, x6, x7, x8, x9, x10, x11, x12, rfl⟩
theorem payoK {α : Type} {l : List α} (h : l.length = 4) : ∃ x0 x1 x2 x3, l = [x0, x1, x2, x3] := by
  match l, h with
  | [x0, x1, x2, x3], _ => exact ⟨x0, x1, x2, x3, rfl⟩
theorem Tryz.payoFields : ∃ f0 f1 f2 f3 : Field, Tryz.prog.underlying 34 = some (.struct #[f0, f1, f2, f3]) ∧ f0.type = 9 ∧ f1.type = 32 ∧ f2.type = 32 ∧ f3.type = 32 ∧
    Hid (f0.offset = 0 ∧ f1.offset = 1 ∧ f2.offset = 5 ∧ f3.offset = 9) :=
  ⟨_, _, _, _, Tryz.underlying34, rfl, rfl, rfl, rfl, (⟨rfl, rfl, rfl, rfl⟩ : _ ∧ _ ∧ _ ∧ _)⟩
theorem trod_payo {H : Type} {enc : TypeId × Value → H} {W : World} {n : Nat} {cs : List Value} {y : DataW H × List MemPlace} (hl : cs.length = 13)
    (hf : DataW.trod enc Tryz.prog W 0 (fun _ => true) true n 34 cs = some y) :
    ∃ (a0 : ByteArray) (a1 : U4) (a2 : U4) (a3 : U4), cs = [.string a0, .int .u64 (a1.a : Int), .int .u64 (a1.b : Int), .int .u64 (a1.c : Int), .int .u64 (a1.d : Int), .int .u64 (a2.a : Int), .int .u64 (a2.b : Int), .int .u64 (a2.c : Int), .int .u64 (a2.d : Int), .int .u64 (a3.a : Int), .int .u64 (a3.b : Int), .int .u64 (a3.c : Int), .int .u64 (a3.d : Int)] ∧ a1.ok ∧ a2.ok ∧ a3.ok ∧ a0.size ≤ Rows.uptoBulk y.1 := by
  obtain ⟨f0, f1, f2, f3, hu, e0, e1, e2, e3, ho⟩ := Tryz.payoFields
  obtain ⟨x0, x1, x2, x3, x4, x5, x6, x7, x8, x9, x10, x11, x12, rfl⟩ := payoL hl
  obtain ⟨xs, n', _, hy, _, hlen, hg⟩ := DataW.trod_struct hu hf
  obtain ⟨y0, y1, y2, y3, rfl⟩ := payoK hlen
  obtain ⟨o0, o1, o2, o3⟩ := ho.out
  have g0 := hg 0 f0 rfl
  rw [o0, e0, one_stringG] at g0
  have g1 := hg 1 f1 rfl
  rw [o1, e1, four_uG] at g1
  have g2 := hg 2 f2 rfl
  rw [o2, e2, four_uG] at g2
  have g3 := hg 3 f3 rfl
  rw [o3, e3, four_uG] at g3
  obtain ⟨a0, ea0, ha0, _⟩ := DataW.trod_string Tryz.underlying9 g0
  have ha0' : y0.1 = .lit (.string a0.data.toList) := congrArg Prod.fst ha0
  have es0 : a0.data.toList.length = a0.size := by rw [Array.length_toList]; rfl
  simp at ea0
  subst ea0
  obtain ⟨a1, q1a, q1b, q1c, q1d, hx1⟩ := trod_u4G (c0 := x1) (c1 := x2) (c2 := x3) (c3 := x4) g1
  subst q1a; subst q1b; subst q1c; subst q1d
  obtain ⟨a2, q2a, q2b, q2c, q2d, hx2⟩ := trod_u4G (c0 := x5) (c1 := x6) (c2 := x7) (c3 := x8) g2
  subst q2a; subst q2b; subst q2c; subst q2d
  obtain ⟨a3, q3a, q3b, q3c, q3d, hx3⟩ := trod_u4G (c0 := x9) (c1 := x10) (c2 := x11) (c3 := x12) g3
  subst q3a; subst q3b; subst q3c; subst q3d
  refine ⟨a0, a1, a2, a3, rfl, hx1, hx2, hx3, ?_⟩
  have hy1 := congrArg Prod.fst hy
  rw [hy1]
  simp only [Rows.uptoBulk, List.map_cons, List.map_nil, Rows.uptoBulkAll, ha0', es0]
  omega
theorem open_payo {H : Type} {enc : TypeId × Value → H} {W : World} {v : Value} {d : DataW H} {p : List MemPlace} {base : Nat} (hv : Value.okWide Tryz.prog W .any base 34 v)
    (h : DataW.Trod enc Tryz.prog W 0 (fun _ => true) true 34 v d p) :
    ∃ (a0 : ByteArray) (a1 : U4) (a2 : U4) (a3 : U4), v = .agg #[.string a0, .int .u64 (a1.a : Int), .int .u64 (a1.b : Int), .int .u64 (a1.c : Int), .int .u64 (a1.d : Int), .int .u64 (a2.a : Int), .int .u64 (a2.b : Int), .int .u64 (a2.c : Int), .int .u64 (a2.d : Int), .int .u64 (a3.a : Int), .int .u64 (a3.b : Int), .int .u64 (a3.c : Int), .int .u64 (a3.d : Int)] ∧ a1.ok ∧ a2.ok ∧ a3.ok ∧ a0.size ≤ Rows.uptoBulk d := by
  obtain ⟨f0, f1, f2, f3, hu, -⟩ := Tryz.payoFields
  have hC : Tryz.prog.cellsOf 34 = 13 := by kernel_rfl
  obtain ⟨cs, rfl, hsz⟩ := okWide_struct hu hv
  obtain ⟨fuel, hf⟩ := h
  have hl : cs.toList.length = 13 := by rw [Array.length_toList]; exact hsz.trans hC
  obtain ⟨a0, a1, a2, a3, hcs, hrest⟩ := trod_payo (cs := cs.toList) hl hf
  refine ⟨a0, a1, a2, a3, ?_, hrest⟩
  congr 1
  obtain ⟨l⟩ := cs
  simp at hcs
  rw [hcs]
theorem pay13 : Tryz.prog.cellsOf 34 = 13 := by kernel_rfl
theorem feopL {α : Type} {l : List α} (h : l.length = 19) : ∃ x0 x1 x2 x3 x4 x5 x6 x7 x8 x9 x10 x11 x12 x13 x14 x15 x16 x17 x18, l = [x0, x1, x2, x3, x4, x5, x6, x7, x8, x9, x10, x11, x12, x13, x14, x15, x16, x17, x18] := by
  match l, h with
  | [x0, x1, x2, x3, x4, x5, x6, x7, x8, x9, x10, x11, x12, x13, x14, x15, x16, x17, x18], _ => exact ⟨x0, x1, x2, x3, x4, x5, x6, x7, x8, x9, x10, x11, x12, x13, x14, x15, x16, x17, x18, rfl⟩
theorem feopK {α : Type} {l : List α} (h : l.length = 7) : ∃ x0 x1 x2 x3 x4 x5 x6, l = [x0, x1, x2, x3, x4, x5, x6] := by
  match l, h with
  | [x0, x1, x2, x3, x4, x5, x6], _ => exact ⟨x0, x1, x2, x3, x4, x5, x6, rfl⟩
theorem Tryz.feopFields : ∃ f0 f1 f2 f3 f4 f5 f6 : Field, Tryz.prog.underlying 36 = some (.struct #[f0, f1, f2, f3, f4, f5, f6]) ∧ f0.type = 3 ∧ f1.type = 9 ∧ f2.type = 9 ∧ f3.type = 9 ∧ f4.type = 30 ∧ f5.type = 34 ∧ f6.type = 4 ∧
    Hid (f0.offset = 0 ∧ f1.offset = 1 ∧ f2.offset = 2 ∧ f3.offset = 3 ∧ f4.offset = 4 ∧ f5.offset = 5 ∧ f6.offset = 18) :=
  ⟨_, _, _, _, _, _, _, Tryz.underlying36, rfl, rfl, rfl, rfl, rfl, rfl, rfl, (⟨rfl, rfl, rfl, rfl, rfl, rfl, rfl⟩ : _ ∧ _ ∧ _ ∧ _ ∧ _ ∧ _ ∧ _)⟩
theorem trod_feop {H : Type} {enc : TypeId × Value → H} {W : World} {n : Nat} {cs : List Value} {y : DataW H × List MemPlace} (hl : cs.length = 19)
    (hf : DataW.trod enc Tryz.prog W 0 (fun _ => true) true n 36 cs = some y) :
    ∃ (a0 : Int) (a1 : ByteArray) (a2 : ByteArray) (a3 : ByteArray) (a4 : Nat) (a5d : ByteArray) (a5x : U4) (a5y : U4) (a5z : U4) (a6 : Bool), cs = [.int .i64 a0, .string a1, .string a2, .string a3, .int .u64 (a4 : Int), .string a5d, .int .u64 (a5x.a : Int), .int .u64 (a5x.b : Int), .int .u64 (a5x.c : Int), .int .u64 (a5x.d : Int), .int .u64 (a5y.a : Int), .int .u64 (a5y.b : Int), .int .u64 (a5y.c : Int), .int .u64 (a5y.d : Int), .int .u64 (a5z.a : Int), .int .u64 (a5z.b : Int), .int .u64 (a5z.c : Int), .int .u64 (a5z.d : Int), .bool a6] ∧ a4 < 18446744073709551616 ∧ a5x.ok ∧ a5y.ok ∧ a5z.ok ∧ a1.size + a2.size + a3.size + a5d.size ≤ Rows.uptoBulk y.1 := by
  obtain ⟨f0, f1, f2, f3, f4, f5, f6, hu, e0, e1, e2, e3, e4, e5, e6, ho⟩ := Tryz.feopFields
  obtain ⟨x0, x1, x2, x3, x4, x5, x6, x7, x8, x9, x10, x11, x12, x13, x14, x15, x16, x17, x18, rfl⟩ := feopL hl
  obtain ⟨xs, n', _, hy, _, hlen, hg⟩ := DataW.trod_struct hu hf
  obtain ⟨y0, y1, y2, y3, y4, y5, y6, rfl⟩ := feopK hlen
  obtain ⟨o0, o1, o2, o3, o4, o5, o6⟩ := ho.out
  have g0 := hg 0 f0 rfl
  rw [o0, e0, one_intG] at g0
  have g1 := hg 1 f1 rfl
  rw [o1, e1, one_stringG] at g1
  have g2 := hg 2 f2 rfl
  rw [o2, e2, one_stringG] at g2
  have g3 := hg 3 f3 rfl
  rw [o3, e3, one_stringG] at g3
  have g4 := hg 4 f4 rfl
  rw [o4, e4, one_u64G] at g4
  have g5 := hg 5 f5 rfl
  rw [o5, e5, pay13] at g5
  have g6 := hg 6 f6 rfl
  rw [o6, e6, one_boolG] at g6
  obtain ⟨a0, ea0, _⟩ := DataW.trod_int Tryz.underlying3 g0
  simp at ea0
  subst ea0
  obtain ⟨a1, ea1, ha1, _⟩ := DataW.trod_string Tryz.underlying9 g1
  have ha1' : y1.1 = .lit (.string a1.data.toList) := congrArg Prod.fst ha1
  have es1 : a1.data.toList.length = a1.size := by rw [Array.length_toList]; rfl
  simp at ea1
  subst ea1
  obtain ⟨a2, ea2, ha2, _⟩ := DataW.trod_string Tryz.underlying9 g2
  have ha2' : y2.1 = .lit (.string a2.data.toList) := congrArg Prod.fst ha2
  have es2 : a2.data.toList.length = a2.size := by rw [Array.length_toList]; rfl
  simp at ea2
  subst ea2
  obtain ⟨a3, ea3, ha3, _⟩ := DataW.trod_string Tryz.underlying9 g3
  have ha3' : y3.1 = .lit (.string a3.data.toList) := congrArg Prod.fst ha3
  have es3 : a3.data.toList.length = a3.size := by rw [Array.length_toList]; rfl
  simp at ea3
  subst ea3
  obtain ⟨a4, q4, b4⟩ := u64_natG (c := x4) g4
  subst q4
  obtain ⟨a6, ea6, _⟩ := DataW.trod_bool Tryz.underlying4 g6
  simp at ea6
  subst ea6
  obtain ⟨a5d, a5x, a5y, a5z, hc5, k5x, k5y, k5z, hb5⟩ := trod_payo (cs := [x5, x6, x7, x8, x9, x10, x11, x12, x13, x14, x15, x16, x17]) rfl g5
  simp only [List.cons.injEq, and_true] at hc5
  obtain ⟨rfl, rfl, rfl, rfl, rfl, rfl, rfl, rfl, rfl, rfl, rfl, rfl, rfl⟩ := hc5
  refine ⟨a0, a1, a2, a3, a4, a5d, a5x, a5y, a5z, a6, rfl, b4, k5x, k5y, k5z, ?_⟩
  have hy1 := congrArg Prod.fst hy
  rw [hy1]
  simp only [Rows.uptoBulk, List.map_cons, List.map_nil, Rows.uptoBulkAll, ha1', es1, ha2', es2, ha3', es3]
  omega
instance : Inhabited FOp := ⟨⟨0, ⟨#[]⟩, ⟨#[]⟩, ⟨#[]⟩, 0, ⟨#[]⟩, U4.zero, U4.zero, U4.zero, false⟩⟩
theorem open_fops_arg {H : Type} {enc : TypeId × Value → H} {W : World} {v : Value} {d : DataW H} {p : List MemPlace} {base : Nat} (hv : Value.okWide Tryz.prog W .any base 23 v)
    (h : DataW.Trod enc Tryz.prog W 0 (fun _ => true) true 23 v d p) : ∃ fs : List FOp, RdFO W v fs ∧ fs.length ≤ Rows.uptoBulk d ∧ ∀ f ∈ fs, f.x.ok ∧ f.y.ok ∧ f.z.ok ∧ f.seq < 18446744073709551616 ∧ f.fr.size + f.by_.size + f.id.size + f.dn.size ≤ Rows.uptoBulk d := by
  obtain ⟨fuel, hf⟩ := h
  obtain ⟨b0, c0, k0, rfl⟩ := okWide_slice Tryz.underlying23 hv
  rcases open_slice Tryz.underlying23 hf with ⟨hcs, hx⟩ | ⟨a, len, cap, m, n, D, Pl, hcs, _, hl, hcm, hm, hx, hi⟩
  · simp [Value.cells] at hcs
    obtain ⟨rfl, rfl, rfl⟩ := hcs
    exact ⟨[], ⟨none, 0, rfl, fun h => absurd h (by simp)⟩, by simp, by simp⟩
  · simp [Value.cells] at hcs
    obtain ⟨rfl, rfl, rfl⟩ := hcs
    simp only [if_true] at hm
    obtain rfl : m = k0 := hm
    simp only [Prod.mk.injEq] at hx
    have hall : ∀ i, i < m → ∃ f : FOp, (∀ (j : Nat) (u : Value), f.cells[j]? = some u → W.cell? ((a.add (i * 19)).add j) = some u) ∧ f.x.ok ∧ f.y.ok ∧ f.z.ok ∧ f.seq < 18446744073709551616 ∧ f.fr.size + f.by_.size + f.id.size + f.dn.size ≤ Rows.uptoBulk (D i) := fun i hi2 => by
      obtain ⟨cs, hc, ht⟩ := hi i hi2
      have h1 : Tryz.prog.cellsOf 36 = 19 := by kernel_rfl
      rw [h1] at hc
      obtain ⟨_, hcl, hat⟩ := World.cells?_some hc
      obtain ⟨a0, a1, a2, a3, a4, a5d, a5x, a5y, a5z, a6, hcs, h4, hx5, hy5, hz5, hsum⟩ := trod_feop hcl ht
      refine ⟨⟨a0, a1, a2, a3, a4, a5d, a5x, a5y, a5z, a6⟩, fun j u hu => ?_, hx5, hy5, hz5, h4, hsum⟩
      have hj : j < 19 := by
        have := (Array.getElem?_eq_some_iff.1 hu).1
        simpa [FOp.cells] using this
      have hq := hat j (by omega)
      rw [hq]
      subst hcs
      simpa [FOp.cells] using hu
    obtain ⟨L, hL⟩ := choose_lt (α := FOp) (p := fun i f => (∀ (j : Nat) (u : Value), f.cells[j]? = some u → W.cell? ((a.add (i * 19)).add j) = some u) ∧ f.x.ok ∧ f.y.ok ∧ f.z.ok ∧ f.seq < 18446744073709551616 ∧ f.fr.size + f.by_.size + f.id.size + f.dn.size ≤ Rows.uptoBulk (D i)) hall
    refine ⟨(List.range c0).map L, ⟨some a, m, by simp, fun h0 => ?_⟩, ?_, ?_⟩
    · simp at h0
      have q0 := (hL 0 (by omega)).1 0 _ rfl
      obtain ⟨b, o, spot⟩ := a
      have hspot : spot = none := by simpa [Addr.add] using World.cell?_spot q0
      subst hspot
      refine ⟨b, o, rfl, ?_, fun j hj i u hi6 hu => ?_⟩
      · have := World.block_lt_of_cell? W _ q0
        simpa [Addr.add] using this
      · simp at hj
        have qx := (hL j (by omega)).1 i u (by simpa using hu)
        rw [addP_none', addP_none'] at qx
        exact qx
    · rw [hx.1]
      have := bulk_len ((List.range c0).map D)
      simp only [Rows.uptoBulk]
      simp at this ⊢
      omega
    · intro f hf
      obtain ⟨i, hi2, rfl⟩ := List.mem_map.1 hf
      obtain ⟨_, h2, h3, h4, h5, h6⟩ := hL i (by have := List.mem_range.1 hi2; omega)
      have hb := bulk_mem (List.mem_map.2 ⟨i, hi2, rfl⟩ : D i ∈ (List.range c0).map D)
      rw [hx.1]
      simp only [Rows.uptoBulk]
      exact ⟨h2, h3, h4, h5, by omega⟩
end Go.Proofs.YtaafaaoioleokaaGreatDoor
