
/- A transaction of nothing, encoded. -/
import Derived.Test.YtlkkjnacolmmpaaTxF
namespace Go.Proofs.Ytlkkjnacolmmpaa
set_option maxRecDepth 100000
open Go Go.RowKit
set_option linter.unusedVariables false

def E0 : List UInt8 := ((((([] ++ encW ⟨#[]⟩) ++ be 0 8) ++ be 0 8) ++ encB (be U4.zero.nat 32)) ++ be 0 8) ++ encB []
theorem E0_len : E0.length = 68 := by decide +kernel
set_option maxHeartbeats 4000000 in
theorem txenc0 (w : World) :
    Calls Try.prog 7 #[zTx] w fun e w' => ∃ v, e = .returned (.tuple #[v, .int .i64 0]) ∧ Own w' w.heap.size v E0 ∧ Below w.heap.size w w' := by
  have ha0 : Below w.heap.size w (w.alloc (.cells zCells 34)) := (Below.refl _ _).alloc (Nat.le_refl _) _
  have hbox := heap_alloc_new w (.cells zCells 34)
  unfold zCells at ha0 hbox
  have HF := Lib.hid (fun Z : World => txfits0 Z)
  unfold zTx zCells at HF
  have c0 := blk_cell hbox 0
  have c1 := blk_cell hbox 1
  have c2 := blk_cell hbox 2
  have c3 := blk_cell hbox 3
  have c4 := blk_cell hbox 4
  have c5 := blk_cell hbox 5
  have c6 := blk_cell hbox 6
  have c7 := blk_cell hbox 7
  have c8 := blk_cell hbox 8
  unfold zTx zCells
  go_enter Try.func7, Try.ntmps7
  go_wp2_with fail
  generalize hW0 : w.alloc (.cells #[.string ⟨#[]⟩, .int .u64 0, .int .u64 0, .int .u64 0, .int .u64 0, .int .u64 0, .int .u64 0, .slice none 0 0, .slice none 0 0] 34) = W0 at *
  have hlt := blk_lt hbox
  clear hW0
  refine (HF.out _).mono ?_
  rintro e w1 ⟨rfl, hb1⟩
  have hq1 := below_chain ha0 ha0.size hb1
  replace hbox := (hb1.block _ hlt).trans hbox
  clear HF c0 c1 c2 c3 c4 c5 c6 c7 c8 ha0 hb1
  have c0 := blk_cell hbox 0
  have c1 := blk_cell hbox 1
  have c2 := blk_cell hbox 2
  have c3 := blk_cell hbox 3
  have c4 := blk_cell hbox 4
  have c5 := blk_cell hbox 5
  have c6 := blk_cell hbox 6
  have c7 := blk_cell hbox 7
  have c8 := blk_cell hbox 8
  obtain ⟨g, hg⟩ : ∃ g, g = w1.heap.size := ⟨_, rfl⟩
  have hwr := heap_alloc_new w1 (.cells #[.slice none 0 0] 39)
  have hx : w.heap.size < g := by have := blk_lt hbox; omega
  have hq2 : Below w.heap.size w (w1.alloc (.cells #[.slice none 0 0] 39)) := hq1.alloc hq1.size _
  have hWA : WrA (w1.alloc (.cells #[.slice none 0 0] 39)) (g + 1) g [] := ⟨_, by rw [hg]; exact hwr, Own.nil _ _, by omega, by rw [hg]; exact blk_lt hwr⟩
  replace hbox : (w1.alloc (.cells #[.slice none 0 0] 39)).heap[w.heap.size]? = _ := (((Below.refl w1.heap.size w1).alloc (Nat.le_refl _) _).block _ (by omega)).trans hbox
  clear c0 c1 c2 c3 c4 c5 c6 c7 c8 hq1 hwr
  have HBX := Lib.hid hbox
  have c0 := blk_cell hbox 0
  have c1 := blk_cell hbox 1
  have c2 := blk_cell hbox 2
  have c3 := blk_cell hbox 3
  have c4 := blk_cell hbox 4
  have c5 := blk_cell hbox 5
  have c6 := blk_cell hbox 6
  have c7 := blk_cell hbox 7
  have c8 := blk_cell hbox 8
  go_wp2_with fail
  rw [← hg]
  generalize hW2 : w1.alloc (.cells #[.slice none 0 0] 39) = w2 at *
  clear hW2 hg hbox
  have HC2 : Calls Try.prog 10 #[.pointer (some ⟨g, 0, none⟩), .string ⟨#[]⟩] w2 _ := wrt_any hWA ⟨#[]⟩ (by decide) (by decide +kernel)
  refine HC2.mono ?_
  rintro e w3 ⟨rfl, hWA3, hb3⟩
  have hq3 := hq2.trans (hb3.mono (Nat.le_of_lt hx))
  have HBX3 := Lib.hid ((hb3.block _ hx).trans HBX.out)
  clear c0 c1 c2 c3 c4 c5 c6 c7 c8 HC2
  have c0 := blk_cell HBX3.out 0
  have c1 := blk_cell HBX3.out 1
  have c2 := blk_cell HBX3.out 2
  have c3 := blk_cell HBX3.out 3
  have c4 := blk_cell HBX3.out 4
  have c5 := blk_cell HBX3.out 5
  have c6 := blk_cell HBX3.out 6
  have c7 := blk_cell HBX3.out 7
  have c8 := blk_cell HBX3.out 8
  go_wp2_with fail
  have HC3 : Calls Try.prog 11 #[.pointer (some ⟨g, 0, none⟩), .int .u64 0] w3 _ := wrn_any hWA3 0 (by decide) (by decide +kernel)
  refine HC3.mono ?_
  rintro e w4 ⟨rfl, hWA4, hb4⟩
  have hq4 := hq3.trans (hb4.mono (Nat.le_of_lt hx))
  have HBX4 := Lib.hid ((hb4.block _ hx).trans HBX3.out)
  clear c0 c1 c2 c3 c4 c5 c6 c7 c8 HC3
  have c0 := blk_cell HBX4.out 0
  have c1 := blk_cell HBX4.out 1
  have c2 := blk_cell HBX4.out 2
  have c3 := blk_cell HBX4.out 3
  have c4 := blk_cell HBX4.out 4
  have c5 := blk_cell HBX4.out 5
  have c6 := blk_cell HBX4.out 6
  have c7 := blk_cell HBX4.out 7
  have c8 := blk_cell HBX4.out 8
  go_wp2_with fail
  have HC4 : Calls Try.prog 11 #[.pointer (some ⟨g, 0, none⟩), .int .u64 0] w4 _ := wrn_any hWA4 0 (by decide) (by decide +kernel)
  refine HC4.mono ?_
  rintro e w5 ⟨rfl, hWA5, hb5⟩
  have hq5 := hq4.trans (hb5.mono (Nat.le_of_lt hx))
  have HBX5 := Lib.hid ((hb5.block _ hx).trans HBX4.out)
  clear c0 c1 c2 c3 c4 c5 c6 c7 c8 HC4
  have c0 := blk_cell HBX5.out 0
  have c1 := blk_cell HBX5.out 1
  have c2 := blk_cell HBX5.out 2
  have c3 := blk_cell HBX5.out 3
  have c4 := blk_cell HBX5.out 4
  have c5 := blk_cell HBX5.out 5
  have c6 := blk_cell HBX5.out 6
  have c7 := blk_cell HBX5.out 7
  have c8 := blk_cell HBX5.out 8
  go_wp2_with fail
  have HC5 : Calls Try.prog 12 #[.pointer (some ⟨g, 0, none⟩), .agg #[.int .u64 0, .int .u64 0, .int .u64 0, .int .u64 0]] w5 _ := wru_any hWA5 U4.zero zero_ok (by decide +kernel) (by obtain ⟨_, h1, -⟩ := hWA5; exact Nat.le_of_lt (blk_lt h1))
  refine HC5.mono ?_
  rintro e w6 ⟨rfl, hWA6, hb6⟩
  have hq6 := hq5.trans (hb6.mono (Nat.le_of_lt hx))
  have HBX6 := Lib.hid ((hb6.block _ hx).trans HBX5.out)
  clear c0 c1 c2 c3 c4 c5 c6 c7 c8 HC5
  have c0 := blk_cell HBX6.out 0
  have c1 := blk_cell HBX6.out 1
  have c2 := blk_cell HBX6.out 2
  have c3 := blk_cell HBX6.out 3
  have c4 := blk_cell HBX6.out 4
  have c5 := blk_cell HBX6.out 5
  have c6 := blk_cell HBX6.out 6
  have c7 := blk_cell HBX6.out 7
  have c8 := blk_cell HBX6.out 8
  go_wp2_with fail
  have HC6 : Calls Try.prog 11 #[.pointer (some ⟨g, 0, none⟩), .int .u64 0] w6 _ := wrn_any hWA6 0 (by decide) (by decide +kernel)
  refine HC6.mono ?_
  rintro e w7 ⟨rfl, hWA7, hb7⟩
  have hq7 := hq6.trans (hb7.mono (Nat.le_of_lt hx))
  have HBX7 := Lib.hid ((hb7.block _ hx).trans HBX6.out)
  clear c0 c1 c2 c3 c4 c5 c6 c7 c8 HC6
  have c0 := blk_cell HBX7.out 0
  have c1 := blk_cell HBX7.out 1
  have c2 := blk_cell HBX7.out 2
  have c3 := blk_cell HBX7.out 3
  have c4 := blk_cell HBX7.out 4
  have c5 := blk_cell HBX7.out 5
  have c6 := blk_cell HBX7.out 6
  have c7 := blk_cell HBX7.out 7
  have c8 := blk_cell HBX7.out 8
  go_wp2_with fail
  have HS := Lib.hid (And.intro hWA7 (And.intro hq7 HBX7))
  go_loopw [34] (fun i W => i = .int .i64 0 ∧ w7 = W) (fun _ _ => 0)
  case atStart => exact ⟨rfl, rfl⟩
  case round =>
  obtain ⟨rfl, rfl⟩ := hrel
  go_wp2_with fail
  have HC7 : Calls Try.prog 14 #[.pointer (some ⟨g, 0, none⟩), .slice none 0 0] w7 _ := wrb_any hWA7 none 0 0 [] (Rd.nil _ _) (by decide +kernel)
  refine HC7.mono ?_
  rintro e w8 ⟨rfl, hWA8, hb8⟩
  have hq8 := hq7.trans (hb8.mono (Nat.le_of_lt hx))
  have HBX8 := Lib.hid ((hb8.block _ hx).trans HBX7.out)
  clear c0 c1 c2 c3 c4 c5 c6 c7 c8 HC7
  have c0 := blk_cell HBX8.out 0
  have c1 := blk_cell HBX8.out 1
  have c2 := blk_cell HBX8.out 2
  have c3 := blk_cell HBX8.out 3
  have c4 := blk_cell HBX8.out 4
  have c5 := blk_cell HBX8.out 5
  have c6 := blk_cell HBX8.out 6
  have c7 := blk_cell HBX8.out 7
  have c8 := blk_cell HBX8.out 8
  obtain ⟨v, hv, ho, -, -⟩ := hWA8
  have d0 := blk_cell hv 0
  have HO := Lib.hid (ho.more (show w.heap.size ≤ g + 1 by omega))
  obtain ⟨A, c, rfl⟩ := ho.form
  generalize List.length _ = n0 at *
  clear ho
  go_wp2_with fail
  go_ret2
  exact ⟨_, rfl, HO.out, hq8⟩
end Go.Proofs.Ytlkkjnacolmmpaa
