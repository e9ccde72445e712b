/- A transaction that is handed in, opened. -/
import Derived.Test.YtniclaapiabmdaaGreatDoorM18
import Derived.Test.YtniclaapiabmdaaGreatDoorM15
namespace Go.Proofs.YtniclaapiabmdaaGreatDoor
set_option maxRecDepth 100000
open Go Go.ChangeShapes Go.WideShapes Go.ChangeAt Go.RowKit Go.Deep
set_option linter.unusedVariables false

theorem one_msT : Tryz.prog.cellsOf 26 = 1 := by kernel_rfl
theorem one_byT : Tryz.prog.cellsOf 27 = 1 := by kernel_rfl
theorem four_uT : Tryz.prog.cellsOf 25 = 4 := by kernel_rfl
instance : Inhabited MsgV := ⟨⟨0, ⟨#[]⟩, ⟨#[]⟩, U4.zero, ⟨#[]⟩, ⟨#[]⟩, ⟨#[]⟩, ⟨#[]⟩, ⟨#[]⟩, ⟨#[]⟩, ⟨#[]⟩, ⟨#[]⟩, ⟨#[]⟩, false, ⟨⟨#[]⟩, 0, 0, .slice none 0 0, .slice none 0 0, .slice none 0 0, [], [], []⟩, ⟨⟨#[]⟩, 0, 0, .slice none 0 0, .slice none 0 0, .slice none 0 0, [], [], []⟩, .slice none 0 0, [], .slice none 0 0, [], .slice none 0 0, [], .slice none 0 0, [], .slice none 0 0, [], 0, 0, 0, 0, ⟨⟨#[]⟩, ⟨#[]⟩, 0, .slice none 0 0, [], 0, 0⟩, .slice none 0 0, [], .slice none 0 0, ⟨0, []⟩, 0, ⟨⟨#[]⟩, U4.zero, U4.zero, U4.zero⟩, .slice none 0 0, []⟩⟩
theorem msgsG {H : Type} {enc : TypeId × Value → H} {W : World} {n : Nat} {y : DataW H × List MemPlace} {v : Value} (h : DataW.trod enc Tryz.prog W 0 (fun _ => true) true n 26 [v] = some y) :
    ∃ l : List MsgV, MsgsAt W W.heap.size v l ∧ l.length ≤ maxLen ∧ ∀ x ∈ l, x.rd W := by
  rcases open_slice Tryz.underlying26 h with ⟨hcs, hx⟩ | ⟨a, len, cap, m, n, D, Pl, hcs, _, hl, hcm, hm, hx, hi⟩
  · simp at hcs
    subst hcs
    exact ⟨[], ⟨none, 0, rfl, fun h => absurd h (by simp)⟩, by simp, by simp⟩
  · simp at hcs
    subst hcs
    simp only [if_true] at hm
    subst hm
    have hall : ∀ i, i < m → ∃ f : MsgV, (∀ (j : Nat) (u : Value), f.cells[j]? = some u → W.cell? ((a.add (i * 62)).add j) = some u) ∧ f.rd W := fun i hi2 => by
      obtain ⟨cs, hc, ht⟩ := hi i hi2
      rw [cells62] at hc
      obtain ⟨_, hcl, hat⟩ := World.cells?_some hc
      obtain ⟨f, rfl, hr, q⟩ := trod_msg hcl ht
      refine ⟨f, fun j u hu => ?_, hr⟩
      have hj : j < 62 := by
        have := (List.getElem?_eq_some_iff.1 hu).1
        rwa [MsgV.cells_len] at this
      have hq := hat j (by omega)
      rw [hq]
      exact hu
    obtain ⟨L, hL⟩ := choose_lt (α := MsgV) (p := fun i f => (∀ (j : Nat) (u : Value), f.cells[j]? = some u → W.cell? ((a.add (i * 62)).add j) = some u) ∧ f.rd W) hall
    refine ⟨(List.range len).map L, ⟨some a, m, by simp, fun h0 => ?_⟩, ?_, fun f hf => ?_⟩
    · simp at h0
      have q0 := (hL 0 (by omega)).1 0 _ rfl
      obtain ⟨b, o, spot⟩ := a
      have hspot : spot = none := by simpa [Addr.add] using World.cell?_spot q0
      subst hspot
      refine ⟨b, o, rfl, ?_, fun j hj i u hu => ?_⟩
      · have := World.block_lt_of_cell? W _ q0
        simpa [Addr.add] using this
      · simp at hj
        have qx := (hL j (by omega)).1 i u (by simpa using hu)
        rw [addP_none', addP_none'] at qx
        exact qx
    · simp
      omega
    · obtain ⟨i, hi2, rfl⟩ := List.mem_map.1 hf
      exact (hL i (by have := List.mem_range.1 hi2; omega)).2
theorem Tryz.txFields : ∃ f0 f1 f2 f3 f4 f5 : Field, Tryz.prog.underlying 29 = some (.struct #[f0, f1, f2, f3, f4, f5]) ∧ Hid (f0.type = 9 ∧ f1.type = 23 ∧ f2.type = 23 ∧ f3.type = 25 ∧ f4.type = 26 ∧ f5.type = 27) ∧
    Hid (f0.offset = 0 ∧ f1.offset = 1 ∧ f2.offset = 2 ∧ f3.offset = 3 ∧ f4.offset = 7 ∧ f5.offset = 8) :=
  ⟨_, _, _, _, _, _, Tryz.underlying29, ⟨rfl, rfl, rfl, rfl, rfl, rfl⟩, (⟨rfl, rfl, rfl, rfl, rfl, rfl⟩ : _ ∧ _ ∧ _ ∧ _ ∧ _ ∧ _)⟩
theorem ls9T {α : Type} {l : List α} (h : l.length = 9) : ∃ x0 x1 x2 x3 x4 x5 x6 x7 x8, l = [x0, x1, x2, x3, x4, x5, x6, x7, x8] := by
  match l, h with
  | [x0, x1, x2, x3, x4, x5, x6, x7, x8], _ => exact ⟨x0, x1, x2, x3, x4, x5, x6, x7, x8, rfl⟩
theorem ls6T {α : Type} {l : List α} (h : l.length = 6) : ∃ x0 x1 x2 x3 x4 x5, l = [x0, x1, x2, x3, x4, x5] := by
  match l, h with
  | [x0, x1, x2, x3, x4, x5], _ => exact ⟨x0, x1, x2, x3, x4, x5, rfl⟩
theorem trod_tx {H : Type} {enc : TypeId × Value → H} {W : World} {n : Nat} {cs : List Value} {y : DataW H × List MemPlace} (hl : cs.length = 9)
    (hf : DataW.trod enc Tryz.prog W 0 (fun _ => true) true n 29 cs = some y) :
    ∃ t : TxV, cs = t.cells.toList ∧ t.rd W ∧ t.sg.size ≤ Rows.uptoBulk y.1 := by
  obtain ⟨f0, f1, f2, f3, f4, f5, hu, he, ho⟩ := Tryz.txFields
  obtain ⟨x0, x1, x2, x3, x4, x5, x6, x7, x8, rfl⟩ := ls9T hl
  obtain ⟨xs, n', _, hy, _, hlen, hg⟩ := DataW.trod_struct hu hf
  obtain ⟨y0, y1, y2, y3, y4, y5, rfl⟩ := ls6T hlen
  obtain ⟨o0, o1, o2, o3, o4, o5⟩ := ho.out
  obtain ⟨e0, e1, e2, e3, e4, e5⟩ := he.out
  have g0 := hg 0 f0 rfl
  rw [o0, e0, one_stringG] at g0
  obtain ⟨a0, rfl, b0, c0⟩ := strG (c := x0) g0
  have g1 := hg 1 f1 rfl
  rw [o1, e1, one_u64G] at g1
  obtain ⟨a1, rfl, b1⟩ := u64_natG (c := x1) g1
  have g2 := hg 2 f2 rfl
  rw [o2, e2, one_u64G] at g2
  obtain ⟨a2, rfl, b2⟩ := u64_natG (c := x2) g2
  have g3 := hg 3 f3 rfl
  rw [o3, e3, four_uT] at g3
  obtain ⟨a3, qa, qb, qc, qd, hx⟩ := trod_u4G (c0 := x3) (c1 := x4) (c2 := x5) (c3 := x6) g3
  subst qa; subst qb; subst qc; subst qd
  have g4 := hg 4 f4 rfl
  rw [o4, e4, one_msT] at g4
  obtain ⟨ms, hms, hml, hmr⟩ := msgsG (v := x7) g4
  have g5 := hg 5 f5 rfl
  rw [o5, e5, one_byT] at g5
  obtain ⟨l5, hr5, hl5⟩ := bytesG (c := x8) g5
  refine ⟨⟨a0, a1, a2, a3, x7, ms, x8, l5⟩, rfl, ⟨c0, b1, b2, hx, hms, hmr, hr5, hml⟩, ?_⟩
  dsimp only
  have hy1 := congrArg Prod.fst hy
  rw [hy1]
  simp only [Rows.uptoBulk, List.map_cons, List.map_nil, Rows.uptoBulkAll]
  omega
theorem open_tx_arg2 {H : Type} {enc : TypeId × Value → H} {W : World} {v : Value} {d : DataW H} {p : List MemPlace} {base : Nat} (hv : Value.okWide Tryz.prog W .any base 29 v)
    (h : DataW.Trod enc Tryz.prog W 0 (fun _ => true) true 29 v d p) :
    ∃ t : TxV, v = .agg t.cells ∧ t.rd W ∧ t.sg.size ≤ Rows.uptoBulk d := by
  obtain ⟨f0, f1, f2, f3, f4, f5, hu, -⟩ := Tryz.txFields
  have hC : Tryz.prog.cellsOf 29 = 9 := by kernel_rfl
  obtain ⟨cs, rfl, hsz⟩ := okWide_struct hu hv
  obtain ⟨fuel, hf⟩ := h
  have hl : cs.toList.length = 9 := by rw [Array.length_toList]; exact hsz.trans hC
  obtain ⟨t, hcs, hr, hb⟩ := trod_tx (cs := cs.toList) hl hf
  refine ⟨t, ?_, hr, hb⟩
  congr 1
  exact Array.toList_inj.1 hcs
end Go.Proofs.YtniclaapiabmdaaGreatDoor
