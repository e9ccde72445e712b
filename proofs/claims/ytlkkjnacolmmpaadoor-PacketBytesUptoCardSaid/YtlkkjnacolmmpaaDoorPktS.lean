
/- What isn't sent, where there is no such channel; a packet's hash; the law's fixed answers; the keys of packets. -/
import Derived.Test.YtlkkjnacolmmpaaDoorPktB
import Derived.Test.YtlkkjnacolmmpaaDoorSto1
import Derived.Test.YtlkkjnacolmmpaaDoorRowR0
namespace Go.Proofs.YtlkkjnacolmmpaaDoor
set_option maxRecDepth 100000
open Go Go.RowKit
set_option linter.unusedVariables false

set_option maxHeartbeats 4000000 in
theorem psender_none (y : Lyr) (w : World) (h : PileS w [y]) (a : ByteArray) (ha : a.size ≤ 100000000) (hn : visV [y] (chanP ++ a) = none) :
    Calls Tryd.prog 105 #[.pointer (some ⟨y.b, 0, none⟩), .string a] w fun e w' => e = .returned (.tuple #[.agg #[.int .u64 0, .bool false, .string ⟨#[]⟩, .string ⟨#[]⟩, .string ⟨#[]⟩, .string ⟨#[]⟩, .string ⟨#[]⟩], .agg #[.int .u64 0, .string ⟨#[]⟩, .string ⟨#[]⟩, .string ⟨#[]⟩], .int .i64 120]) ∧ Below w.heap.size w w' := by
  have hk4 := heap_alloc_new w (.cells #[.int .u64 0, .bool false, .string ⟨#[]⟩, .string ⟨#[]⟩, .string ⟨#[]⟩, .string ⟨#[]⟩, .string ⟨#[]⟩] 46)
  have ha4 : Below w.heap.size w (w.alloc (.cells #[.int .u64 0, .bool false, .string ⟨#[]⟩, .string ⟨#[]⟩, .string ⟨#[]⟩, .string ⟨#[]⟩, .string ⟨#[]⟩] 46)) := (Below.refl _ _).alloc (Nat.le_refl _) _
  have hk5 := heap_alloc_new (w.alloc (.cells #[.int .u64 0, .bool false, .string ⟨#[]⟩, .string ⟨#[]⟩, .string ⟨#[]⟩, .string ⟨#[]⟩, .string ⟨#[]⟩] 46)) (.cells #[.int .u64 0, .string ⟨#[]⟩, .string ⟨#[]⟩, .string ⟨#[]⟩] 34)
  have ha5 := ha4.alloc ha4.size (.cells #[.int .u64 0, .string ⟨#[]⟩, .string ⟨#[]⟩, .string ⟨#[]⟩] 34)
  rw [show (w.alloc (.cells #[.int .u64 0, .bool false, .string ⟨#[]⟩, .string ⟨#[]⟩, .string ⟨#[]⟩, .string ⟨#[]⟩, .string ⟨#[]⟩] 46)).heap.size = w.heap.size + 1 by simp] at hk5
  replace hk4 := (Below.heap_alloc (w.alloc (.cells #[.int .u64 0, .bool false, .string ⟨#[]⟩, .string ⟨#[]⟩, .string ⟨#[]⟩, .string ⟨#[]⟩, .string ⟨#[]⟩] 46)) (.cells #[.int .u64 0, .string ⟨#[]⟩, .string ⟨#[]⟩, .string ⟨#[]⟩] 34) _ (blk_lt hk4)).trans hk4
  have HG := Lib.hid (cget_none y _ (h.up ha5) a ha hn)
  generalize hW : (w.alloc (.cells #[.int .u64 0, .bool false, .string ⟨#[]⟩, .string ⟨#[]⟩, .string ⟨#[]⟩, .string ⟨#[]⟩, .string ⟨#[]⟩] 46)).alloc (.cells #[.int .u64 0, .string ⟨#[]⟩, .string ⟨#[]⟩, .string ⟨#[]⟩] 34) = w0 at *
  clear h hn
  go_enter Tryd.func105, Tryd.ntmps105
  go_wp2_with fail
  try rw [hW]
  clear hW
  refine HG.out.mono ?_
  rintro e w1 ⟨rfl, hb1⟩
  have q1 := below_chain ha5 ha5.size hb1
  have k4 := (hb1.block _ (blk_lt hk4)).trans hk4
  have k5 := (hb1.block _ (blk_lt hk5)).trans hk5
  have q2 := q1.alloc q1.size (.cells #[.int .u64 0, .bool false, .string ⟨#[]⟩, .string ⟨#[]⟩, .string ⟨#[]⟩, .string ⟨#[]⟩, .string ⟨#[]⟩] 46)
  replace k4 := (Below.heap_alloc w1 (.cells #[.int .u64 0, .bool false, .string ⟨#[]⟩, .string ⟨#[]⟩, .string ⟨#[]⟩, .string ⟨#[]⟩, .string ⟨#[]⟩] 46) _ (blk_lt k4)).trans k4
  replace k5 := (Below.heap_alloc w1 (.cells #[.int .u64 0, .bool false, .string ⟨#[]⟩, .string ⟨#[]⟩, .string ⟨#[]⟩, .string ⟨#[]⟩, .string ⟨#[]⟩] 46) _ (blk_lt k5)).trans k5
  clear HG hk4 hk5 ha4 ha5 hb1 q1
  have r0 := blk_cell k4 0
  have q0_ := blk_free k4 0
  have r1 := blk_cell k4 1
  have q1_ := blk_free k4 1
  have r2 := blk_cell k4 2
  have q2_ := blk_free k4 2
  have r3 := blk_cell k4 3
  have q3_ := blk_free k4 3
  have r4 := blk_cell k4 4
  have q4_ := blk_free k4 4
  have r5 := blk_cell k4 5
  have q5_ := blk_free k4 5
  have r6 := blk_cell k4 6
  have q6_ := blk_free k4 6
  have s0 := blk_cell k5 0
  have t0_ := blk_free k5 0
  have s1 := blk_cell k5 1
  have t1_ := blk_free k5 1
  have s2 := blk_cell k5 2
  have t2_ := blk_free k5 2
  have s3 := blk_cell k5 3
  have t3_ := blk_free k5 3
  have m4 := set7P k4 (.int .u64 0) (.bool false) (.string ⟨#[]⟩) (.string ⟨#[]⟩) (.string ⟨#[]⟩) (.string ⟨#[]⟩) (.string ⟨#[]⟩)
  have b4 := below_set7P q2 (Nat.le_refl _) (.int .u64 0) (.bool false) (.string ⟨#[]⟩) (.string ⟨#[]⟩) (.string ⟨#[]⟩) (.string ⟨#[]⟩) (.string ⟨#[]⟩)
  have m5 := ((Below.heap_setCell _ ⟨w.heap.size, 6, none⟩ (.string ⟨#[]⟩) (w.heap.size + 1) (show w.heap.size + 1 ≠ w.heap.size by omega)).trans ((Below.heap_setCell _ ⟨w.heap.size, 5, none⟩ (.string ⟨#[]⟩) (w.heap.size + 1) (show w.heap.size + 1 ≠ w.heap.size by omega)).trans ((Below.heap_setCell _ ⟨w.heap.size, 4, none⟩ (.string ⟨#[]⟩) (w.heap.size + 1) (show w.heap.size + 1 ≠ w.heap.size by omega)).trans ((Below.heap_setCell _ ⟨w.heap.size, 3, none⟩ (.string ⟨#[]⟩) (w.heap.size + 1) (show w.heap.size + 1 ≠ w.heap.size by omega)).trans ((Below.heap_setCell _ ⟨w.heap.size, 2, none⟩ (.string ⟨#[]⟩) (w.heap.size + 1) (show w.heap.size + 1 ≠ w.heap.size by omega)).trans ((Below.heap_setCell _ ⟨w.heap.size, 1, none⟩ (.bool false) (w.heap.size + 1) (show w.heap.size + 1 ≠ w.heap.size by omega)).trans ((Below.heap_setCell _ ⟨w.heap.size, 0, none⟩ (.int .u64 0) (w.heap.size + 1) (show w.heap.size + 1 ≠ w.heap.size by omega)).trans k5)))))))
  have e5 := set4P m5 (.int .u64 0) (.string ⟨#[]⟩) (.string ⟨#[]⟩) (.string ⟨#[]⟩)
  have b5 := below_set4P b4 (show w.heap.size ≤ w.heap.size + 1 by omega) (.int .u64 0) (.string ⟨#[]⟩) (.string ⟨#[]⟩) (.string ⟨#[]⟩)
  have e4 := ((Below.heap_setCell _ ⟨w.heap.size + 1, 3, none⟩ (.string ⟨#[]⟩) w.heap.size (show w.heap.size ≠ w.heap.size + 1 by omega)).trans ((Below.heap_setCell _ ⟨w.heap.size + 1, 2, none⟩ (.string ⟨#[]⟩) w.heap.size (show w.heap.size ≠ w.heap.size + 1 by omega)).trans ((Below.heap_setCell _ ⟨w.heap.size + 1, 1, none⟩ (.string ⟨#[]⟩) w.heap.size (show w.heap.size ≠ w.heap.size + 1 by omega)).trans ((Below.heap_setCell _ ⟨w.heap.size + 1, 0, none⟩ (.int .u64 0) w.heap.size (show w.heap.size ≠ w.heap.size + 1 by omega)).trans m4))))
  have HD := Lib.hid (And.intro (blk_cell e4 0) (And.intro (blk_cell e4 1) (And.intro (blk_cell e4 2) (And.intro (blk_cell e4 3) (And.intro (blk_cell e4 4) (And.intro (blk_cell e4 5) (And.intro (blk_cell e4 6) (And.intro (blk_cell e5 0) (And.intro (blk_cell e5 1) (And.intro (blk_cell e5 2) (blk_cell e5 3)))))))))))
  clear m4 m5 e4 e5 b4
  go_wp2_with fail
  obtain ⟨d0, d1, d2, d3, d4, d5, d6, c0, c1, c2, c3⟩ := HD.out
  refine bodyPost_ret (v := .tuple #[.agg #[.int .u64 0, .bool false, .string ⟨#[]⟩, .string ⟨#[]⟩, .string ⟨#[]⟩, .string ⟨#[]⟩, .string ⟨#[]⟩], .agg #[.int .u64 0, .string ⟨#[]⟩, .string ⟨#[]⟩, .string ⟨#[]⟩], .int .i64 120]) ?_ rfl ⟨rfl, b5⟩
  simp at d0 d1 d2 d3 d4 d5 d6 c0 c1 c2 c3
  simp [results, Tryd.results105, go_sem, d0, d1, d2, d3, d4, d5, d6, c0, c1, c2, c3]

set_option maxHeartbeats 4000000 in
theorem psend_none (y : Lyr) (w : World) (h : PileS w [y]) (a : ByteArray) (ha : a.size ≤ 100000000) (hn : visV [y] (chanP ++ a) = none) :
    Calls Tryd.prog 67 #[.pointer (some ⟨y.b, 0, none⟩), .string a, .slice none 0 0, .int .u64 0, .int .u64 0] w fun e w' => e = .returned (.tuple #[.agg #[.string ⟨#[]⟩, .string ⟨#[]⟩, .int .u64 0, .slice none 0 0, .int .u64 0, .int .u64 0], .int .i64 120]) ∧ Below w.heap.size w w' := by
  have hk4 := heap_alloc_new w (.cells #[.string ⟨#[]⟩, .string ⟨#[]⟩, .int .u64 0, .slice none 0 0, .int .u64 0, .int .u64 0] 55)
  have ha4 : Below w.heap.size w (w.alloc (.cells #[.string ⟨#[]⟩, .string ⟨#[]⟩, .int .u64 0, .slice none 0 0, .int .u64 0, .int .u64 0] 55)) := (Below.refl _ _).alloc (Nat.le_refl _) _
  have HG := Lib.hid (psender_none y _ (h.up ha4) a ha hn)
  generalize hW : w.alloc (.cells #[.string ⟨#[]⟩, .string ⟨#[]⟩, .int .u64 0, .slice none 0 0, .int .u64 0, .int .u64 0] 55) = w0 at *
  clear h hn
  go_enter Tryd.func67, Tryd.ntmps67
  go_wp2_with fail
  try rw [hW]
  clear hW
  refine HG.out.mono ?_
  rintro e w1 ⟨rfl, hb1⟩
  have q1 := below_chain ha4 ha4.size hb1
  have k4 := (hb1.block _ (blk_lt hk4)).trans hk4
  have q2 := (q1.alloc q1.size (.cells #[.int .u64 0, .bool false, .string ⟨#[]⟩, .string ⟨#[]⟩, .string ⟨#[]⟩, .string ⟨#[]⟩, .string ⟨#[]⟩] 46)).alloc (q1.alloc q1.size (.cells #[.int .u64 0, .bool false, .string ⟨#[]⟩, .string ⟨#[]⟩, .string ⟨#[]⟩, .string ⟨#[]⟩, .string ⟨#[]⟩] 46)).size (.cells #[.int .u64 0, .string ⟨#[]⟩, .string ⟨#[]⟩, .string ⟨#[]⟩] 34)
  replace k4 := (Below.heap_alloc w1 (.cells #[.int .u64 0, .bool false, .string ⟨#[]⟩, .string ⟨#[]⟩, .string ⟨#[]⟩, .string ⟨#[]⟩, .string ⟨#[]⟩] 46) _ (blk_lt k4)).trans k4
  replace k4 := (Below.heap_alloc _ (.cells #[.int .u64 0, .string ⟨#[]⟩, .string ⟨#[]⟩, .string ⟨#[]⟩] 34) _ (blk_lt k4)).trans k4
  clear HG hk4 ha4 hb1 q1
  have r0 := blk_cell k4 0
  have q0_ := blk_free k4 0
  have r1 := blk_cell k4 1
  have q1_ := blk_free k4 1
  have r2 := blk_cell k4 2
  have q2_ := blk_free k4 2
  have r3 := blk_cell k4 3
  have q3_ := blk_free k4 3
  have r4 := blk_cell k4 4
  have q4_ := blk_free k4 4
  have r5 := blk_cell k4 5
  have q5_ := blk_free k4 5
  have m4 := set6P k4 (.string ⟨#[]⟩) (.string ⟨#[]⟩) (.int .u64 0) (.slice none 0 0) (.int .u64 0) (.int .u64 0)
  have b4 := below_set6P q2 (Nat.le_refl _) (.string ⟨#[]⟩) (.string ⟨#[]⟩) (.int .u64 0) (.slice none 0 0) (.int .u64 0) (.int .u64 0)
  have HD := Lib.hid (And.intro (blk_cell m4 0) (And.intro (blk_cell m4 1) (And.intro (blk_cell m4 2) (And.intro (blk_cell m4 3) (And.intro (blk_cell m4 4) (blk_cell m4 5))))))
  clear m4
  go_wp2_with fail
  obtain ⟨d0, d1, d2, d3, d4, d5⟩ := HD.out
  refine bodyPost_ret (v := .tuple #[.agg #[.string ⟨#[]⟩, .string ⟨#[]⟩, .int .u64 0, .slice none 0 0, .int .u64 0, .int .u64 0], .int .i64 120]) ?_ rfl ⟨rfl, b4⟩
  simp at d0 d1 d2 d3 d4 d5
  simp [results, Tryd.results67, go_sem, d0, d1, d2, d3, d4, d5]
end Go.Proofs.YtlkkjnacolmmpaaDoor
