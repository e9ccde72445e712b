/- The walk of the law: the bytes and the hash of any header are the document's. -/
import Derived.Test.YtapfjkbbgamkoaaDoorValG
import Derived.Test.YtapfjkbbgamkoaaDoorValF
import Derived.Deep.RegionHeldLaw
namespace Go.Proofs.YtapfjkbbgamkoaaDoor
open Go Go.RowKit

set_option maxHeartbeats 4000000 in
set_option maxRecDepth 100000 in
theorem headers_walk (h : HV) (w : World) (hh : h.at w) (fr : TypeId × Nat × Nat) (hk : w.heap[0]? = some (.cells kVals fr.1 fr.2)) (fr2 : TypeId × Nat × Nat) (hk2 : w.heap[1]? = some (.cells kVals fr2.1 fr2.2)) :
    Calls Tryd.prog 6 #[.agg #[.string h.chain, .int .u64 (h.height : Int), .int .u64 (h.time : Int), .slice h.vrA h.root.length h.vrC, .slice h.vvA h.vals.length h.vvC, .slice h.vnA h.next.length h.vnC]] w fun e w' => e = .returned (.bool true) ∧ Below w.heap.size w w' := by
  have hn0 := blk_lt hk
  have hn1 := blk_lt hk2
  have hb0 := HB.new w h
  obtain ⟨sA, hsA⟩ : ∃ s : ByteArray, s = ⟨(headL h).toArray⟩ := ⟨_, rfl⟩
  obtain ⟨sB, hsB⟩ : ∃ s : ByteArray, s = ⟨(shaSum (formB (strBytes headWord) ++ formBs [headL h])).toArray⟩ := ⟨_, rfl⟩
  have CA := Lib.hid (fun (v : Value) (W : World) (r : Rd W W.heap.size v (headL h)) => run_str (P := Tryd.prog) (src := 30) (dst := 9) Tryd.underlying30 Tryd.underlying5 Tryd.isString r)
  have CB := Lib.hid (fun (v : Value) (W : World) (r : Rd W W.heap.size v (shaSum (formB (strBytes headWord) ++ formBs [headL h]))) => run_str (P := Tryd.prog) (src := 30) (dst := 9) Tryd.underlying30 Tryd.underlying5 Tryd.isString r)
  rw [← hsA] at CA
  rw [← hsB] at CB
  have HA := Lib.hid hsA
  have HB' := Lib.hid hsB
  have HH := Lib.hid hh
  have HK := Lib.hid hk
  have HK2 := Lib.hid hk2
  clear hsA hsB hh hk hk2
  go_enter Tryd.func6, Tryd.ntmps6
  go_wp2_with fail
  have hB0 : HB w.heap.size w h (w.alloc (.cells #[.string h.chain, .int .u64 (h.height : Int), .int .u64 (h.time : Int), .slice h.vrA h.root.length h.vrC, .slice h.vvA h.vals.length h.vvC, .slice h.vnA h.next.length h.vnC] 32)) := hb0
  generalize w.alloc (.cells #[.string h.chain, .int .u64 (h.height : Int), .int .u64 (h.time : Int), .slice h.vrA h.root.length h.vrC, .slice h.vvA h.vals.length h.vvC, .slice h.vnA h.next.length h.vnC] 32) = w0 at *
  obtain ⟨g, hg⟩ : ∃ g, g = w.heap.size := ⟨_, rfl⟩
  rw [← hg] at hB0 hn0 hn1
  simp only [← hg]
  have HG := Lib.hid hg
  clear hg hb0
  go_region_held_law (fun w' => w'.cell? ⟨g, 0, none⟩ = some (.string h.chain) ∧ w'.cell? ⟨g, 1, none⟩ = some (.int .u64 (h.height : Int)) ∧ w'.cell? ⟨g, 2, none⟩ = some (.int .u64 (h.time : Int)) ∧ w'.cell? ⟨g, 3, none⟩ = some (.slice h.vrA h.root.length h.vrC) ∧ w'.cell? ⟨g, 4, none⟩ = some (.slice h.vvA h.vals.length h.vvC) ∧ w'.cell? ⟨g, 5, none⟩ = some (.slice h.vnA h.next.length h.vnC))
    (first | assumption | exact hB0.drew.c | exact hB1.c | exact hB2.c | exact hB3.c | exact hB4.c | exact hB5.c)
    (first
      | (go_at_call 10; go_loud (refine (fixed_any _ fr ((hB0.drew.2.1.block _ (by rw [← HG.out]; exact hn0)).trans HK.out)).mono ?_; rintro e w1 ⟨rfl, hb1⟩; have hB1 := hB0.drew.below hb1))
      | (go_at_call 25; go_loud (refine (header_any h _ (HH.out.up hB1.2.1)).mono ?_; rintro e w2 ⟨v2, rfl, ho2, hb2⟩; have hB2 := hB1.below hb2; have c2 := CA.out v2 w2 ho2.rd))
      | (go_at_call 26; go_loud (refine (rheader_any h _ (HH.out.up hB2.2.1)).mono ?_; rintro e w3 ⟨v3, rfl, ho3, hb3⟩; have hB3 := hB2.below hb3; have c23 := CA.out v2 w3 (ho2.rd.up (Nat.le_refl _) hb3); have c3 := CA.out v3 w3 ho3.rd))
      | (go_at_call 27; go_loud (refine (hashOf_any h _ (HH.out.up hB3.2.1) fr ((hB3.2.1.block _ (by rw [← HG.out]; exact hn0)).trans HK.out)).mono ?_; rintro e w4 ⟨v4, rfl, ho4, hb4⟩; have hB4 := hB3.below hb4; have c4 := CB.out v4 w4 ho4.rd))
      | (go_at_call 28; go_loud (refine (rhashOf_any h _ (HH.out.up hB4.2.1) fr2 ((hB4.2.1.block _ (by rw [← HG.out]; exact hn1)).trans HK2.out)).mono ?_; rintro e w5 ⟨v5, rfl, ho5, hb5⟩; have hB5 := hB4.below hb5; have c45 := CB.out v4 w5 (ho4.rd.up (Nat.le_refl _) hb5); have c5 := CB.out v5 w5 ho5.rd)))
  all_goals
    have hbF := hB5.2.1
    clear hB0 hB1 hB2 hB3 hB4 hB5
    go_wp2_with fail
    go_ret
    have hg := HG.out
    subst hg
    exact ⟨rfl, hbF⟩
end Go.Proofs.YtapfjkbbgamkoaaDoor
