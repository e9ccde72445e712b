
/- Arguments that are rows of orders, opened. -/
import Derived.Test.YtcgkonpepmoliaaGreatDoorOpenM0
import Derived.Test.YtcgkonpepmoliaaGreatDoorOpenG1
import Derived.Test.YtcgkonpepmoliaaGreatDoorIcP0
namespace Go.Proofs.YtcgkonpepmoliaaGreatDoor
set_option maxRecDepth 100000
open Go Go.ChangeShapes Go.WideShapes Go.ChangeAt Go.RowKit Go.Deep
set_option linter.unusedVariables false

theorem ordrL {α : Type} {l : List α} (h : l.length = 6) : ∃ x0 x1 x2 x3 x4 x5, l = [x0, x1, x2, x3, x4, x5] := by
  match l, h with
  | [x0, x1, x2, x3, x4, x5], _ => exact ⟨x0, x1, x2, x3, x4, x5, rfl⟩
theorem ordrK {α : Type} {l : List α} (h : l.length = 3) : ∃ x0 x1 x2, l = [x0, x1, x2] := by
  match l, h with
  | [x0, x1, x2], _ => exact ⟨x0, x1, x2, rfl⟩
theorem Tryz.ordrFields : ∃ f0 f1 f2 : Field, Tryz.prog.underlying 37 = some (.struct #[f0, f1, f2]) ∧ f0.type = 9 ∧ f1.type = 9 ∧ f2.type = 35 ∧
    Hid (f0.offset = 0 ∧ f1.offset = 1 ∧ f2.offset = 2) :=
  ⟨_, _, _, Tryz.underlying37, rfl, rfl, rfl, (⟨rfl, rfl, rfl⟩ : _ ∧ _ ∧ _)⟩
theorem trod_ordr {H : Type} {enc : TypeId × Value → H} {W : World} {n : Nat} {cs : List Value} {y : DataW H × List MemPlace} (hl : cs.length = 6)
    (hf : DataW.trod enc Tryz.prog W 0 (fun _ => true) true n 37 cs = some y) :
    ∃ (a0 : ByteArray) (a1 : ByteArray) (a2 : U4), cs = [.string a0, .string a1, .int .u64 (a2.a : Int), .int .u64 (a2.b : Int), .int .u64 (a2.c : Int), .int .u64 (a2.d : Int)] ∧ a2.ok ∧ a0.size + a1.size ≤ Rows.uptoBulk y.1 := by
  obtain ⟨f0, f1, f2, hu, e0, e1, e2, ho⟩ := Tryz.ordrFields
  obtain ⟨x0, x1, x2, x3, x4, x5, rfl⟩ := ordrL hl
  obtain ⟨xs, n', _, hy, _, hlen, hg⟩ := DataW.trod_struct hu hf
  obtain ⟨y0, y1, y2, rfl⟩ := ordrK hlen
  obtain ⟨o0, o1, o2⟩ := ho.out
  have g0 := hg 0 f0 rfl
  rw [o0, e0, one_stringG] at g0
  have g1 := hg 1 f1 rfl
  rw [o1, e1, one_stringG] at g1
  have g2 := hg 2 f2 rfl
  rw [o2, e2, four_uG] at g2
  obtain ⟨a0, ea0, ha0, _⟩ := DataW.trod_string Tryz.underlying9 g0
  have ha0' : y0.1 = .lit (.string a0.data.toList) := congrArg Prod.fst ha0
  have es0 : a0.data.toList.length = a0.size := by rw [Array.length_toList]; rfl
  simp at ea0
  subst ea0
  obtain ⟨a1, ea1, ha1, _⟩ := DataW.trod_string Tryz.underlying9 g1
  have ha1' : y1.1 = .lit (.string a1.data.toList) := congrArg Prod.fst ha1
  have es1 : a1.data.toList.length = a1.size := by rw [Array.length_toList]; rfl
  simp at ea1
  subst ea1
  obtain ⟨a2, q2a, q2b, q2c, q2d, hx2⟩ := trod_u4G (c0 := x2) (c1 := x3) (c2 := x4) (c3 := x5) g2
  subst q2a; subst q2b; subst q2c; subst q2d
  refine ⟨a0, a1, a2, rfl, hx2, ?_⟩
  have hy1 := congrArg Prod.fst hy
  rw [hy1]
  simp only [Rows.uptoBulk, List.map_cons, List.map_nil, Rows.uptoBulkAll, ha0', es0, ha1', es1]
  omega
theorem open_ordr {H : Type} {enc : TypeId × Value → H} {W : World} {v : Value} {d : DataW H} {p : List MemPlace} {base : Nat} (hv : Value.okWide Tryz.prog W .any base 37 v)
    (h : DataW.Trod enc Tryz.prog W 0 (fun _ => true) true 37 v d p) :
    ∃ (a0 : ByteArray) (a1 : ByteArray) (a2 : U4), v = .agg #[.string a0, .string a1, .int .u64 (a2.a : Int), .int .u64 (a2.b : Int), .int .u64 (a2.c : Int), .int .u64 (a2.d : Int)] ∧ a2.ok ∧ a0.size + a1.size ≤ Rows.uptoBulk d := by
  obtain ⟨f0, f1, f2, hu, -⟩ := Tryz.ordrFields
  have hC : Tryz.prog.cellsOf 37 = 6 := by kernel_rfl
  obtain ⟨cs, rfl, hsz⟩ := okWide_struct hu hv
  obtain ⟨fuel, hf⟩ := h
  have hl : cs.toList.length = 6 := by rw [Array.length_toList]; exact hsz.trans hC
  obtain ⟨a0, a1, a2, hcs, hrest⟩ := trod_ordr (cs := cs.toList) hl hf
  refine ⟨a0, a1, a2, ?_, hrest⟩
  congr 1
  obtain ⟨l⟩ := cs
  simp at hcs
  rw [hcs]
instance : Inhabited OrdV := ⟨⟨⟨#[]⟩, ⟨#[]⟩, U4.zero⟩⟩
theorem open_orders_arg {H : Type} {enc : TypeId × Value → H} {W : World} {v : Value} {d : DataW H} {p : List MemPlace} {base : Nat} (hv : Value.okWide Tryz.prog W .any base 23 v)
    (h : DataW.Trod enc Tryz.prog W 0 (fun _ => true) true 23 v d p) : ∃ fs : List OrdV, OrdsAt W v fs ∧ fs.length ≤ Rows.uptoBulk d ∧ ∀ f ∈ fs, f.x.ok ∧ f.t.size ≤ Rows.uptoBulk d ∧ f.d.size ≤ Rows.uptoBulk d := by
  obtain ⟨fuel, hf⟩ := h
  obtain ⟨b0, c0, k0, rfl⟩ := okWide_slice Tryz.underlying23 hv
  rcases open_slice Tryz.underlying23 hf with ⟨hcs, hx⟩ | ⟨a, len, cap, m, n, D, Pl, hcs, _, hl, hcm, hm, hx, hi⟩
  · simp [Value.cells] at hcs
    obtain ⟨rfl, rfl, rfl⟩ := hcs
    exact ⟨[], ⟨none, 0, rfl, fun h => absurd h (by simp)⟩, by simp, by simp⟩
  · simp [Value.cells] at hcs
    obtain ⟨rfl, rfl, rfl⟩ := hcs
    simp only [if_true] at hm
    obtain rfl : m = k0 := hm
    simp only [Prod.mk.injEq] at hx
    have hall : ∀ i, i < m → ∃ f : OrdV, (∀ (j : Nat) (u : Value), f.cells[j]? = some u → W.cell? ((a.add (i * 6)).add j) = some u) ∧ f.x.ok ∧ f.t.size + f.d.size ≤ Rows.uptoBulk (D i) := fun i hi2 => by
      obtain ⟨cs, hc, ht⟩ := hi i hi2
      have h1 : Tryz.prog.cellsOf 37 = 6 := by kernel_rfl
      rw [h1] at hc
      obtain ⟨_, hcl, hat⟩ := World.cells?_some hc
      obtain ⟨a0, a1, a2, hcs, hok, hsum⟩ := trod_ordr hcl ht
      refine ⟨⟨a0, a1, a2⟩, fun j u hu => ?_, hok, hsum⟩
      have hj : j < 6 := by
        have := (Array.getElem?_eq_some_iff.1 hu).1
        simpa [OrdV.cells] using this
      have hq := hat j (by omega)
      rw [hq]
      subst hcs
      simpa [OrdV.cells] using hu
    obtain ⟨L, hL⟩ := choose_lt (α := OrdV) (p := fun i f => (∀ (j : Nat) (u : Value), f.cells[j]? = some u → W.cell? ((a.add (i * 6)).add j) = some u) ∧ f.x.ok ∧ f.t.size + f.d.size ≤ Rows.uptoBulk (D i)) hall
    refine ⟨(List.range c0).map L, ⟨some a, m, by simp, fun h0 => ?_⟩, ?_, ?_⟩
    · simp at h0
      have q0 := (hL 0 (by omega)).1 0 _ rfl
      obtain ⟨b, o, spot⟩ := a
      have hspot : spot = none := by simpa [Addr.add] using World.cell?_spot q0
      subst hspot
      refine ⟨b, o, rfl, ?_, fun j hj i u hi6 hu => ?_⟩
      · have := World.block_lt_of_cell? W _ q0
        simpa [Addr.add] using this
      · simp at hj
        have qx := (hL j (by omega)).1 i u (by simpa using hu)
        rw [addP_none', addP_none'] at qx
        exact qx
    · rw [hx.1]
      have := bulk_len ((List.range c0).map D)
      simp only [Rows.uptoBulk]
      simp at this ⊢
      omega
    · intro f hf
      obtain ⟨i, hi2, rfl⟩ := List.mem_map.1 hf
      obtain ⟨_, h2, h3⟩ := hL i (by have := List.mem_range.1 hi2; omega)
      have hb := bulk_mem (List.mem_map.2 ⟨i, hi2, rfl⟩ : D i ∈ (List.range c0).map D)
      rw [hx.1]
      simp only [Rows.uptoBulk]
      exact ⟨h2, by omega, by omega⟩
end Go.Proofs.YtcgkonpepmoliaaGreatDoor
