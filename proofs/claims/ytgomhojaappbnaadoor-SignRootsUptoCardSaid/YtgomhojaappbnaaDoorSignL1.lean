/- The walk of the law: the root of any seed, and the same each time. -/
import Derived.Test.YtgomhojaappbnaaDoorSignE
import Derived.Test.YtgomhojaappbnaaDoorSame
namespace Go.Proofs.YtgomhojaappbnaaDoor
open Go Go.RowKit

theorem Rd.form' {w : World} {B : Nat} {v : Value} {l : List UInt8} {n : Nat} (h : Rd w B v l) (e : l.length = n) : ∃ A c, v = .slice A n c := by subst e; exact h.form
theorem same_eq (a b : Value) (l : List UInt8) (w : World) (ha : Rd w w.heap.size a l) (hb : Rd w w.heap.size b l) :
    Calls Tryd.prog 11 #[a, b] w fun e w' => e = .returned (.bool true) ∧ Below w.heap.size w w' := by
  have h := same_any a b l l w ha hb
  rw [sameB_refl] at h
  exact h

set_option maxHeartbeats 4000000 in
set_option maxRecDepth 100000 in
theorem roots_walk (v : Value) (seed : List UInt8) (w : World) (hv : Rd w w.heap.size v seed) (hl : seed.length ≤ 1048576) (fr : TypeId × Nat × Nat) (hk : w.heap[0]? = some (.cells kVals fr.1 fr.2)) (fr2 : TypeId × Nat × Nat) (hk2 : w.heap[1]? = some (.cells kVals fr2.1 fr2.2)) :
    Calls Tryd.prog 6 #[v] w fun e w' => e = .returned (.bool true) ∧ Below w.heap.size w w' := by
  obtain ⟨i0, hi, hz, hsz, hby⟩ := info_parts Tryd.infoByte
  have hn0 := blk_lt hk
  have hn1 := blk_lt hk2
  have HK := Lib.hid hk
  have HK2 := Lib.hid hk2
  clear hk hk2
  obtain ⟨A, cc, rfl⟩ := hv.form
  have hRl := rootL_length seed
  go_enter Tryd.func6, Tryd.ntmps6
  go_wp2_with fail
  refine (root_any _ seed w hv fr HK.out).mono ?_
  rintro e w1 ⟨v1, rfl, hr1, hb1⟩
  obtain ⟨A1, c1, rfl⟩ := hr1.1.form' hRl
  have hv1 := hv.up (Nat.le_refl _) hb1
  have hbe : Below w1.heap.size w1 (w1.alloc (.cells #[] 5)) := (Below.refl _ _).alloc (Nat.le_refl _) _
  go_wp2_with (at_builtin; refine wpList_append_rd rfl (.tmp 7) (.tmp 8) _ rfl i0 Tryd.underlying22 hi hz hsz hby rfl (own_empty w1 (Nat.le_refl _)) rfl (hv1.below hbe) (by simp only [List.length_nil]; omega) hbe.size ?_; intro v2 w2 ho2 hg2 _; have hb2 : Below w1.heap.size w1 w2 := Own.below_grown hbe (own_empty w1 (Nat.le_refl _)) (Nat.le_refl _) hbe.size hg2; rw [List.nil_append] at ho2)
  have hq2 := below_chain hb1 hb1.size hb2
  obtain ⟨A2, c2, rfl⟩ := ho2.form
  refine (root_any _ seed w2 ho2.rd fr ((hq2.block _ hn0).trans HK.out)).mono ?_
  rintro e w3 ⟨v3, rfl, hr3, hb3⟩
  obtain ⟨A3, c3, rfl⟩ := hr3.1.form' hRl
  have hr13 := (hr1.up hb2).up hb3
  have hq3 := below_chain hq2 hq2.size hb3
  have hv3 := hv.up (Nat.le_refl _) hq3
  clear ho2 hg2 hbe hv1 hr1
  go_wp2_with fail
  refine (same_eq _ _ (rootL seed) w3 hr13.1 hr3.1).mono ?_
  rintro e w4 ⟨rfl, hb4⟩
  have hq4 := below_chain hq3 hq3.size hb4
  go_wp2_with fail
  refine (rroot_any _ seed w4 (hv.up (Nat.le_refl _) hq4) fr2 ((hq4.block _ hn1).trans HK2.out)).mono ?_
  rintro e w5 ⟨v5, rfl, hr5, hb5⟩
  obtain ⟨A5, c5, rfl⟩ := hr5.1.form' hRl
  have hq5 := below_chain hq4 hq4.size hb5
  have hr15 := (hr13.up hb4).up hb5
  go_wp2_with fail
  refine (same_eq _ _ (rootL seed) w5 hr15.1 hr5.1).mono ?_
  rintro e w6 ⟨rfl, hb6⟩
  go_wp2_with fail
  go_ret
  exact ⟨rfl, below_chain hq5 hq5.size hb6⟩
end Go.Proofs.YtgomhojaappbnaaDoor
