/- The walk of the law: a signature is taken just where the document's way comes to the root. -/
import Derived.Test.YtgomhojaappbnaaDoorSignJ
import Derived.Deep.RegionHeldLaw
namespace Go.Proofs.YtgomhojaappbnaaDoor
open Go Go.RowKit

set_option maxHeartbeats 4000000 in
set_option maxRecDepth 100000 in
theorem verifies_walk (A B C : Option Addr) (ac bc cc : Nat) (a b c : List UInt8) (key : Int) (w : World) (ha : Rd w w.heap.size (.slice A a.length ac) a) (hb : Rd w w.heap.size (.slice B b.length bc) b) (hc : Rd w w.heap.size (.slice C c.length cc) c) (fr : TypeId × Nat × Nat) (hk : w.heap[0]? = some (.cells kVals fr.1 fr.2)) (fr2 : TypeId × Nat × Nat) (hk2 : w.heap[1]? = some (.cells kVals fr2.1 fr2.2)) :
    Calls Tryd.prog 4 #[.agg #[.slice A a.length ac, .int .i64 key, .slice B b.length bc, .slice C c.length cc]] w fun e w' => e = .returned (.bool true) ∧ Below w.heap.size w w' := by
  have hn0 := blk_lt hk
  have hn1 := blk_lt hk2
  have HK := Lib.hid hk
  have HK2 := Lib.hid hk2
  clear hk hk2
  have hbw : Below w.heap.size w (w.alloc (.cells #[.slice A a.length ac, .int .i64 key, .slice B b.length bc, .slice C c.length cc] 30)) := (Below.refl _ _).alloc (Nat.le_refl _) _
  have hg := heap_alloc_new w (.cells #[.slice A a.length ac, .int .i64 key, .slice B b.length bc, .slice C c.length cc] 30)
  obtain ⟨vB, hvB⟩ : ∃ x, x = verB a key b c := ⟨_, rfl⟩
  have HRl := Lib.hid (rootL_length b)
  have V1 := Lib.hid (fun (v1 v3 v4 : Value) (W : World) => verify_any v1 v3 v4 a b c key W)
  have V2 := Lib.hid (fun (v1 v3 v4 : Value) (W : World) => rverify_any v1 v3 v4 a b c key W)
  rw [← hvB] at V1 V2
  clear hvB
  go_enter Tryd.func4, Tryd.ntmps4
  go_wp2_with fail
  have HB := Lib.hid hg
  clear hg
  generalize w.alloc (.cells #[.slice A a.length ac, .int .i64 key, .slice B b.length bc, .slice C c.length cc] 30) = w1 at *
  obtain ⟨g, hgw⟩ : ∃ g, g = w.heap.size := ⟨_, rfl⟩
  rw [← hgw] at HB
  simp only [← hgw]
  have HG := Lib.hid hgw
  clear hgw
  have hl := blk_lt HB.out
  have cells : ∀ W : World, Below w1.heap.size w1 W → W.cell? ⟨g, 0, none⟩ = some (.slice A a.length ac) ∧ W.cell? ⟨g, 1, none⟩ = some (.int .i64 key) ∧ W.cell? ⟨g, 2, none⟩ = some (.slice B b.length bc) ∧ W.cell? ⟨g, 3, none⟩ = some (.slice C c.length cc) := fun W hW => by
    have h := (hW.block _ hl).trans HB.out
    exact ⟨blk_cell h 0, blk_cell h 1, blk_cell h 2, blk_cell h 3⟩
  have CE := Lib.hid cells
  clear cells
  have hd1 : Below w1.heap.size w1 w1.drew := (Below.refl _ _).drew
  have hwd := below_chain hbw hbw.size hd1
  go_region_held_law (fun W => W.cell? ⟨g, 0, none⟩ = some (.slice A a.length ac) ∧ W.cell? ⟨g, 1, none⟩ = some (.int .i64 key) ∧ W.cell? ⟨g, 2, none⟩ = some (.slice B b.length bc) ∧ W.cell? ⟨g, 3, none⟩ = some (.slice C c.length cc))
    (first | exact CE.out _ hy4 | exact CE.out _ hy3 | exact CE.out _ hy2 | exact CE.out _ hd1)
    (first
      | (go_at_call 8; refine (root_any _ b _ (hb.up (Nat.le_refl _) hwd) fr ((hwd.block _ hn0).trans HK.out)).mono ?_; rintro e w2 ⟨v2, rfl, hr2, hb2⟩; obtain ⟨A2, c2, rfl⟩ := hr2.1.formN HRl.out; have hy2 := below_chain hd1 hd1.size hb2; have hw2 := below_chain hwd hwd.size hb2)
      | (go_at_call 13; refine (V1.out _ _ _ _ (ha.up (Nat.le_refl _) hw2) (hb.up (Nat.le_refl _) hw2) (hc.up (Nat.le_refl _) hw2) fr ((hw2.block _ hn0).trans HK.out)).mono ?_; rintro e w3 ⟨rfl, hb3⟩; have hy3 := below_chain hy2 hy2.size hb3; have hw3 := below_chain hw2 hw2.size hb3)
      | (go_at_call 14; refine (V2.out _ _ _ _ (ha.up (Nat.le_refl _) hw3) (hb.up (Nat.le_refl _) hw3) (hc.up (Nat.le_refl _) hw3) fr2 ((hw3.block _ hn1).trans HK2.out)).mono ?_; rintro e w4 ⟨rfl, hb4⟩; have hy4 := below_chain hy3 hy3.size hb4; have hw4 := below_chain hw3 hw3.size hb4))
  go_wp2_with fail
  go_ret
  exact ⟨rfl, hw4⟩
end Go.Proofs.YtgomhojaappbnaaDoor
