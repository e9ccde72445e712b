/- The walk of the law: nothing of another shape is taken. -/
import Derived.Test.YtgomhojaappbnaaDoorSignH
namespace Go.Proofs.YtgomhojaappbnaaDoor
open Go Go.RowKit

set_option maxHeartbeats 4000000 in
set_option maxRecDepth 100000 in
theorem shape_walk (A B C : Option Addr) (ac bc cc : Nat) (a b c : List UInt8) (key : Int) (w : World) (ha : Rd w w.heap.size (.slice A a.length ac) a) (hb : Rd w w.heap.size (.slice B b.length bc) b) (hc : Rd w w.heap.size (.slice C c.length cc) c) (fr : TypeId × Nat × Nat) (hk : w.heap[0]? = some (.cells kVals fr.1 fr.2)) :
    Calls Tryd.prog 7 #[.agg #[.slice A a.length ac, .int .i64 key, .slice B b.length bc, .slice C c.length cc]] w fun e w' => e = .returned (.bool true) ∧ Below w.heap.size w w' := by
  have hn0 := blk_lt hk
  have HK := Lib.hid hk
  clear hk
  have hbw : Below w.heap.size w (w.alloc (.cells #[.slice A a.length ac, .int .i64 key, .slice B b.length bc, .slice C c.length cc] 30)) := (Below.refl _ _).alloc (Nat.le_refl _) _
  have hg := heap_alloc_new w (.cells #[.slice A a.length ac, .int .i64 key, .slice B b.length bc, .slice C c.length cc] 30)
  have HV : Hid (verB a key b c = true → c.length = 672 ∧ 0 ≤ key ∧ key < 8 ∧ a.length = 32) := Lib.hid (fun h => by
    by_cases h2 : c.length = 672 ∧ 0 ≤ key ∧ key < 8 ∧ a.length = 32
    · exact h2
    · rw [verB_no h2] at h; cases h)
  have HRl := Lib.hid (rootL_length b)
  go_enter Tryd.func7, Tryd.ntmps7
  go_wp2_with fail
  have HB := Lib.hid hg
  generalize w.alloc (.cells #[.slice A a.length ac, .int .i64 key, .slice B b.length bc, .slice C c.length cc] 30) = w1 at *
  refine (verify_any _ _ _ a b c key w1 (ha.up (Nat.le_refl _) hbw) (hb.up (Nat.le_refl _) hbw) (hc.up (Nat.le_refl _) hbw) fr ((hbw.block _ hn0).trans HK.out)).mono ?_
  rintro e w2 ⟨rfl, hb2⟩
  have hq2 := below_chain hbw hbw.size hb2
  have hl := blk_lt HB.out
  have hg2 := (hb2.block _ hl).trans HB.out
  have c0 := blk_cell hg2 0
  have c1 := blk_cell hg2 1
  have c2 := blk_cell hg2 2
  have c3 := blk_cell hg2 3
  simp at c0 c1 c2 c3
  clear hg hg2
  go_wp2_with fail
  refine (root_any _ b w2 (hb.up (Nat.le_refl _) hq2) fr ((hq2.block _ hn0).trans HK.out)).mono ?_
  rintro e w3 ⟨v3, rfl, hr3, hb3⟩
  obtain ⟨A3, c3', rfl⟩ := hr3.1.formN HRl.out
  have hq3 := below_chain hq2 hq2.size hb3
  have hg3 := (hb3.block _ (Nat.lt_of_lt_of_le hl hb2.size)).trans ((hb2.block _ hl).trans HB.out)
  have d0 := blk_cell hg3 0
  have d1 := blk_cell hg3 1
  have d2 := blk_cell hg3 2
  have d3 := blk_cell hg3 3
  simp at d0 d1 d2 d3
  clear c0 c1 c2 c3 hg3
  by_cases hver : verB a key b c = true
  · obtain ⟨e1, e2, e3, e4⟩ := HV.out hver
    have e5 : key ≤ 7 := by omega
    rw [e1] at d3
    rw [e4] at d0
    rw [hver]
    clear HV hver e1 e4
    go_wp2_with fail
    go_ret
    exact ⟨rfl, hq3⟩
  · have hv2 : verB a key b c = false := by simpa using hver
    rw [hv2]
    clear HV hver hv2
    go_wp2_with fail
    go_ret
    exact ⟨rfl, hq3⟩
end Go.Proofs.YtgomhojaappbnaaDoor
