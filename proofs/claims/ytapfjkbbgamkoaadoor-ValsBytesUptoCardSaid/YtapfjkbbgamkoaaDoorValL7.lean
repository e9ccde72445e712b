/- The walk of the law: the bytes and the hashes of any list and any header are the document's. -/
import Derived.Test.YtapfjkbbgamkoaaDoorValG
import Derived.Test.YtapfjkbbgamkoaaDoorValRB
import Derived.Test.YtapfjkbbgamkoaaDoorHeldBy
import Derived.Test.YtapfjkbbgamkoaaDoorValF
import Derived.Deep.RegionHeldLaw
namespace Go.Proofs.YtapfjkbbgamkoaaDoor
open Go Go.RowKit

set_option maxHeartbeats 4000000 in
set_option maxRecDepth 100000 in
theorem lists_walk (v : Value) (l : List VD) (h : HV) (w : World) (hv : ValsAt w w.heap.size v l) (hl : l.length ≤ 1048576) (hh : h.at w) (fr : TypeId × Nat × Nat) (hk : w.heap[0]? = some (.cells kVals fr.1 fr.2)) (fr2 : TypeId × Nat × Nat) (hk2 : w.heap[1]? = some (.cells kVals fr2.1 fr2.2)) :
    Calls Tryd.prog 4 #[v, .agg #[.string h.chain, .int .u64 (h.height : Int), .int .u64 (h.time : Int), .slice h.vrA h.root.length h.vrC, .slice h.vvA h.vals.length h.vvC, .slice h.vnA h.next.length h.vnC]] w fun e w' => e = .returned (.bool true) ∧ Below w.heap.size w w' := by
  have hn0 := blk_lt hk
  have hn1 := blk_lt hk2
  have hb0 := HB.new w h
  obtain ⟨sC, hsC⟩ : ∃ s : ByteArray, s = ⟨(bytesV l).toArray⟩ := ⟨_, rfl⟩
  obtain ⟨sD, hsD⟩ : ∃ s : ByteArray, s = ⟨(shaSum (formB (strBytes valsWord) ++ formBs [bytesV l])).toArray⟩ := ⟨_, rfl⟩
  obtain ⟨sA, hsA⟩ : ∃ s : ByteArray, s = ⟨(headL h).toArray⟩ := ⟨_, rfl⟩
  obtain ⟨sB, hsB⟩ : ∃ s : ByteArray, s = ⟨(shaSum (formB (strBytes headWord) ++ formBs [headL h])).toArray⟩ := ⟨_, rfl⟩
  have CA := Lib.hid (fun (v : Value) (W : World) (r : Rd W W.heap.size v (headL h)) => run_str (P := Tryd.prog) (src := 30) (dst := 9) Tryd.underlying30 Tryd.underlying5 Tryd.isString r)
  have CB := Lib.hid (fun (v : Value) (W : World) (r : Rd W W.heap.size v (shaSum (formB (strBytes headWord) ++ formBs [headL h]))) => run_str (P := Tryd.prog) (src := 30) (dst := 9) Tryd.underlying30 Tryd.underlying5 Tryd.isString r)
  have CC := Lib.hid (fun (v : Value) (W : World) (r : Rd W W.heap.size v (bytesV l)) => run_str (P := Tryd.prog) (src := 30) (dst := 9) Tryd.underlying30 Tryd.underlying5 Tryd.isString r)
  have CD := Lib.hid (fun (v : Value) (W : World) (r : Rd W W.heap.size v (shaSum (formB (strBytes valsWord) ++ formBs [bytesV l]))) => run_str (P := Tryd.prog) (src := 30) (dst := 9) Tryd.underlying30 Tryd.underlying5 Tryd.isString r)
  rw [← hsC] at CC
  rw [← hsD] at CD
  rw [← hsA] at CA
  rw [← hsB] at CB
  have HA := Lib.hid hsA
  have HB' := Lib.hid hsB
  have HC := Lib.hid hsC
  have HD' := Lib.hid hsD
  have HV' := Lib.hid hv
  have HH := Lib.hid hh
  have HK := Lib.hid hk
  have HK2 := Lib.hid hk2
  clear hsA hsB hsC hsD hh hk hk2 hv
  go_enter Tryd.func4, Tryd.ntmps4
  go_wp2_with fail
  have hB0 : HB w.heap.size w h (w.alloc (.cells #[.string h.chain, .int .u64 (h.height : Int), .int .u64 (h.time : Int), .slice h.vrA h.root.length h.vrC, .slice h.vvA h.vals.length h.vvC, .slice h.vnA h.next.length h.vnC] 32)) := hb0
  generalize w.alloc (.cells #[.string h.chain, .int .u64 (h.height : Int), .int .u64 (h.time : Int), .slice h.vrA h.root.length h.vrC, .slice h.vvA h.vals.length h.vvC, .slice h.vnA h.next.length h.vnC] 32) = w0 at *
  obtain ⟨g, hg⟩ : ∃ g, g = w.heap.size := ⟨_, rfl⟩
  rw [← hg] at hB0 hn0 hn1
  simp only [← hg]
  have HG := Lib.hid hg
  clear hg hb0
  have hBx := hB0.drew
  generalize hwd : w0.drew = wd at hBx
  refine wp_region_held_drew (S := BelS wd) (by kernel_rfl) (by rw [hwd]; exact BelS.refl _) (fun _ => ?_)
  rw [hwd]
  clear hwd hB0
  have hS0 : BelS wd wd := BelS.refl wd
  refine wpAnyH_ready (rs := [0]) (by kernel_rfl) (by simp) (AllReadyH.cons rfl (fun K hK => ?_) AllReadyH.nil)
  go_simp
  go_wp2_with ((go_at_call 10; refine (fixed_any _ fr ((hBx.2.1.block _ (by rw [← HG.out]; exact hn0)).trans HK.out)).mono ?_; rintro e w1 ⟨rfl, hb1⟩))
  refine hK.out _ _ hb1 (fun _ => ?_)
  clear hK K
  refine wpAnyH_stronger (S' := BelS w1) (fun W h => below_chain hb1 hb1.size h) _ _ _ _ ?_
  have hB1 := hBx.below hb1
  have hS1 : BelS w1 w1 := BelS.refl w1
  refine wpAnyH_take (i := 1) (oi := _) (v := ?_) rfl (by kernel_rfl) (by kernel_rfl) (by kernel_rfl) (fun _ _ _ h => h) (Or.inl ⟨by rfl, ?_⟩) hS1 ?_
  rotate_left
  · intro W hSW
    try go_simp
    all_goals with_reducible rfl
  simp only [Act.put, List.setIfInBounds_toArray, List.set_cons_zero, List.set_cons_succ, List.getElem_toArray, List.getElem_cons_zero, List.getElem_cons_succ]
  refine wpAnyH_take (i := 2) (oi := _) (v := ?_) rfl (by kernel_rfl) (by kernel_rfl) (by kernel_rfl) (fun _ _ _ h => h) (Or.inl ⟨by rfl, ?_⟩) hS1 ?_
  rotate_left
  · intro W hSW
    try go_simp
    all_goals with_reducible rfl
  simp only [Act.put, List.setIfInBounds_toArray, List.set_cons_zero, List.set_cons_succ, List.getElem_toArray, List.getElem_cons_zero, List.getElem_cons_succ]
  refine wpAnyH_take (i := 5) (oi := _) (v := ?_) rfl (by kernel_rfl) (by kernel_rfl) (by kernel_rfl) (fun _ _ _ h => h) (Or.inl ⟨by rfl, ?_⟩) hS1 ?_
  rotate_left
  · intro W hSW
    try go_simp
    all_goals with_reducible rfl
  simp only [Act.put, List.setIfInBounds_toArray, List.set_cons_zero, List.set_cons_succ, List.getElem_toArray, List.getElem_cons_zero, List.getElem_cons_succ]
  refine wpAnyH_ready (rs := [3]) (by kernel_rfl) (by simp) (AllReadyH.cons rfl (fun K hK => ?_) AllReadyH.nil)
  go_simp
  go_wp2_with ((go_at_call 21; refine (bytesV_any v l _ (HV'.out.up (Nat.le_refl _) hB1.2.1) hl).mono ?_; rintro e w2 ⟨v2, rfl, ho2, hb2⟩))
  refine hK.out _ _ hb2 (fun _ => ?_)
  clear hK K
  refine wpAnyH_stronger (S' := BelS w2) (fun W h => below_chain hb2 hb2.size h) _ _ _ _ ?_
  have hB2 := hB1.below hb2
  have hS2 : BelS w2 w2 := BelS.refl w2
  refine wpAnyH_take (i := 4) (oi := _) (v := ?_) rfl (by kernel_rfl) (by kernel_rfl) (by kernel_rfl) (fun _ _ _ h => h) (Or.inl ⟨by rfl, ?_⟩) hS2 ?_
  rotate_left
  · intro W hSW
    have hc := CC.out v2 W (ho2.rd.up (Nat.le_refl _) (show Below w2.heap.size w2 W from hSW))
    try go_simp
    all_goals with_reducible rfl
  simp only [Act.put, List.setIfInBounds_toArray, List.set_cons_zero, List.set_cons_succ, List.getElem_toArray, List.getElem_cons_zero, List.getElem_cons_succ]
  refine wpAnyH_ready (rs := [6]) (by kernel_rfl) (by simp) (AllReadyH.cons rfl (fun K hK => ?_) AllReadyH.nil)
  go_simp
  go_wp2_with ((go_at_call 22; refine (rbytesV_any v l _ (HV'.out.up (Nat.le_refl _) hB2.2.1) hl).mono ?_; rintro e w3 ⟨v3, rfl, ho3, hb3⟩))
  refine hK.out _ _ hb3 (fun _ => ?_)
  clear hK K
  refine wpAnyH_stronger (S' := BelS w3) (fun W h => below_chain hb3 hb3.size h) _ _ _ _ ?_
  have hB3 := hB2.below hb3
  have hS3 : BelS w3 w3 := BelS.refl w3
  have hbl2 := hb3
  refine wpAnyH_take (i := 7) (oi := _) (v := ?_) rfl (by kernel_rfl) (by kernel_rfl) (by kernel_rfl) (fun _ _ _ h => h) (Or.inl ⟨by rfl, ?_⟩) hS3 ?_
  rotate_left
  · intro W hSW
    have hc := CC.out v3 W (ho3.rd.up (Nat.le_refl _) (show Below w3.heap.size w3 W from hSW))
    try go_simp
    all_goals with_reducible rfl
  simp only [Act.put, List.setIfInBounds_toArray, List.set_cons_zero, List.set_cons_succ, List.getElem_toArray, List.getElem_cons_zero, List.getElem_cons_succ]
  refine wpAnyH_take (i := 8) (oi := _) (v := ?_) rfl (by kernel_rfl) (by kernel_rfl) (by kernel_rfl) (fun _ _ _ h => h) (Or.inl ⟨by rfl, ?_⟩) hS3 ?_
  rotate_left
  · intro W hSW
    try go_simp
    all_goals with_reducible rfl
  simp only [Act.put, List.setIfInBounds_toArray, List.set_cons_zero, List.set_cons_succ, List.getElem_toArray, List.getElem_cons_zero, List.getElem_cons_succ]
  refine wpAnyH_take (i := 9) (oi := _) (v := ?_) rfl (by kernel_rfl) (by kernel_rfl) (by kernel_rfl) (fun _ _ _ h => h) (Or.inl ⟨by rfl, ?_⟩) hS3 ?_
  rotate_left
  · intro W hSW
    try go_simp
    all_goals with_reducible rfl
  simp only [Act.put, List.setIfInBounds_toArray, List.set_cons_zero, List.set_cons_succ, List.getElem_toArray, List.getElem_cons_zero, List.getElem_cons_succ]
  refine wpAnyH_take (i := 10) (oi := _) (v := ?_) rfl (by kernel_rfl) (by kernel_rfl) (by kernel_rfl) (fun _ _ _ h => h) (Or.inl ⟨by rfl, ?_⟩) hS3 ?_
  rotate_left
  · intro W hSW
    try go_simp
    all_goals with_reducible rfl
  simp only [Act.put, List.setIfInBounds_toArray, List.set_cons_zero, List.set_cons_succ, List.getElem_toArray, List.getElem_cons_zero, List.getElem_cons_succ]
  refine wpAnyH_take (i := 11) (oi := _) (v := ?_) rfl (by kernel_rfl) (by kernel_rfl) (by kernel_rfl) (fun _ _ _ h => h) (Or.inl ⟨by rfl, ?_⟩) hS3 ?_
  rotate_left
  · intro W hSW
    try go_simp
    all_goals with_reducible rfl
  simp only [Act.put, List.setIfInBounds_toArray, List.set_cons_zero, List.set_cons_succ, List.getElem_toArray, List.getElem_cons_zero, List.getElem_cons_succ]
  refine wpAnyH_take (i := 14) (oi := _) (v := ?_) rfl (by kernel_rfl) (by kernel_rfl) (by kernel_rfl) (fun _ _ _ h => h) (Or.inl ⟨by rfl, ?_⟩) hS3 ?_
  rotate_left
  · intro W hSW
    try go_simp
    all_goals with_reducible rfl
  simp only [Act.put, List.setIfInBounds_toArray, List.set_cons_zero, List.set_cons_succ, List.getElem_toArray, List.getElem_cons_zero, List.getElem_cons_succ]
  refine wpAnyH_ready (rs := [12]) (by kernel_rfl) (by simp) (AllReadyH.cons rfl (fun K hK => ?_) AllReadyH.nil)
  go_simp
  go_wp2_with ((go_at_call 23; refine (hashV_any v l _ (HV'.out.up (Nat.le_refl _) hB3.2.1) hl fr ((hB3.2.1.block _ (by rw [← HG.out]; exact hn0)).trans HK.out)).mono ?_; rintro e w4 ⟨v4, rfl, ho4, hb4⟩))
  refine hK.out _ _ hb4 (fun _ => ?_)
  clear hK K
  refine wpAnyH_stronger (S' := BelS w4) (fun W h => below_chain hb4 hb4.size h) _ _ _ _ ?_
  have hB4 := hB3.below hb4
  have hS4 : BelS w4 w4 := BelS.refl w4
  refine wpAnyH_take (i := 13) (oi := _) (v := ?_) rfl (by kernel_rfl) (by kernel_rfl) (by kernel_rfl) (fun _ _ _ h => h) (Or.inl ⟨by rfl, ?_⟩) hS4 ?_
  rotate_left
  · intro W hSW
    have hc := CD.out v4 W (ho4.rd.up (Nat.le_refl _) (show Below w4.heap.size w4 W from hSW))
    try go_simp
    all_goals with_reducible rfl
  simp only [Act.put, List.setIfInBounds_toArray, List.set_cons_zero, List.set_cons_succ, List.getElem_toArray, List.getElem_cons_zero, List.getElem_cons_succ]
  refine wpAnyH_ready (rs := [15]) (by kernel_rfl) (by simp) (AllReadyH.cons rfl (fun K hK => ?_) AllReadyH.nil)
  go_simp
  go_wp2_with ((go_at_call 24; refine (rhashV_any v l _ (HV'.out.up (Nat.le_refl _) hB4.2.1) hl fr2 ((hB4.2.1.block _ (by rw [← HG.out]; exact hn1)).trans HK2.out)).mono ?_; rintro e w5 ⟨v5, rfl, ho5, hb5⟩))
  refine hK.out _ _ hb5 (fun _ => ?_)
  clear hK K
  refine wpAnyH_stronger (S' := BelS w5) (fun W h => below_chain hb5 hb5.size h) _ _ _ _ ?_
  have hB5 := hB4.below hb5
  have hS5 : BelS w5 w5 := BelS.refl w5
  have hbl4 := hb5
  refine wpAnyH_take (i := 16) (oi := _) (v := ?_) rfl (by kernel_rfl) (by kernel_rfl) (by kernel_rfl) (fun _ _ _ h => h) (Or.inl ⟨by rfl, ?_⟩) hS5 ?_
  rotate_left
  · intro W hSW
    have hc := CD.out v5 W (ho5.rd.up (Nat.le_refl _) (show Below w5.heap.size w5 W from hSW))
    try go_simp
    all_goals with_reducible rfl
  simp only [Act.put, List.setIfInBounds_toArray, List.set_cons_zero, List.set_cons_succ, List.getElem_toArray, List.getElem_cons_zero, List.getElem_cons_succ]
  refine wpAnyH_take (i := 17) (oi := _) (v := ?_) rfl (by kernel_rfl) (by kernel_rfl) (by kernel_rfl) (fun _ _ _ h => h) (Or.inl ⟨by rfl, ?_⟩) hS5 ?_
  rotate_left
  · intro W hSW
    try go_simp
    all_goals with_reducible rfl
  simp only [Act.put, List.setIfInBounds_toArray, List.set_cons_zero, List.set_cons_succ, List.getElem_toArray, List.getElem_cons_zero, List.getElem_cons_succ]
  refine wpAnyH_take (i := 18) (oi := _) (v := ?_) rfl (by kernel_rfl) (by kernel_rfl) (by kernel_rfl) (fun _ _ _ h => h) (Or.inl ⟨by rfl, ?_⟩) hS5 ?_
  rotate_left
  · intro W hSW
    try go_simp
    all_goals with_reducible rfl
  simp only [Act.put, List.setIfInBounds_toArray, List.set_cons_zero, List.set_cons_succ, List.getElem_toArray, List.getElem_cons_zero, List.getElem_cons_succ]
  refine wpAnyH_take (i := 19) (oi := _) (v := ?_) rfl (by kernel_rfl) (by kernel_rfl) (by kernel_rfl) (fun _ _ _ h => h) (Or.inl ⟨by rfl, ?_⟩) hS5 ?_
  rotate_left
  · intro W hSW
    try go_simp
    all_goals with_reducible rfl
  simp only [Act.put, List.setIfInBounds_toArray, List.set_cons_zero, List.set_cons_succ, List.getElem_toArray, List.getElem_cons_zero, List.getElem_cons_succ]
  refine wpAnyH_take (i := 20) (oi := _) (v := ?_) rfl (by kernel_rfl) (by kernel_rfl) (by kernel_rfl) (fun _ _ _ h => h) (Or.inl ⟨by rfl, ?_⟩) hS5 ?_
  rotate_left
  · intro W hSW
    obtain ⟨e0, e1, e2, e3, e4, e5⟩ := (hB5.below hSW).c
    try go_simp
    all_goals with_reducible rfl
  simp only [Act.put, List.setIfInBounds_toArray, List.set_cons_zero, List.set_cons_succ, List.getElem_toArray, List.getElem_cons_zero, List.getElem_cons_succ]
  refine wpAnyH_take (i := 23) (oi := _) (v := ?_) rfl (by kernel_rfl) (by kernel_rfl) (by kernel_rfl) (fun _ _ _ h => h) (Or.inl ⟨by rfl, ?_⟩) hS5 ?_
  rotate_left
  · intro W hSW
    obtain ⟨e0, e1, e2, e3, e4, e5⟩ := (hB5.below hSW).c
    try go_simp
    all_goals with_reducible rfl
  simp only [Act.put, List.setIfInBounds_toArray, List.set_cons_zero, List.set_cons_succ, List.getElem_toArray, List.getElem_cons_zero, List.getElem_cons_succ]
  refine wpAnyH_ready (rs := [21]) (by kernel_rfl) (by simp) (AllReadyH.cons rfl (fun K hK => ?_) AllReadyH.nil)
  go_simp
  go_wp2_with ((go_at_call 25; refine (header_any h _ (HH.out.up hB5.2.1)).mono ?_; rintro e w6 ⟨v6, rfl, ho6, hb6⟩))
  refine hK.out _ _ hb6 (fun _ => ?_)
  clear hK K
  refine wpAnyH_stronger (S' := BelS w6) (fun W h => below_chain hb6 hb6.size h) _ _ _ _ ?_
  have hB6 := hB5.below hb6
  have hS6 : BelS w6 w6 := BelS.refl w6
  refine wpAnyH_take (i := 22) (oi := _) (v := ?_) rfl (by kernel_rfl) (by kernel_rfl) (by kernel_rfl) (fun _ _ _ h => h) (Or.inl ⟨by rfl, ?_⟩) hS6 ?_
  rotate_left
  · intro W hSW
    have hc := CA.out v6 W (ho6.rd.up (Nat.le_refl _) (show Below w6.heap.size w6 W from hSW))
    try go_simp
    all_goals with_reducible rfl
  simp only [Act.put, List.setIfInBounds_toArray, List.set_cons_zero, List.set_cons_succ, List.getElem_toArray, List.getElem_cons_zero, List.getElem_cons_succ]
  refine wpAnyH_ready (rs := [24]) (by kernel_rfl) (by simp) (AllReadyH.cons rfl (fun K hK => ?_) AllReadyH.nil)
  go_simp
  go_wp2_with ((go_at_call 26; refine (rheader_any h _ (HH.out.up hB6.2.1)).mono ?_; rintro e w7 ⟨v7, rfl, ho7, hb7⟩))
  refine hK.out _ _ hb7 (fun _ => ?_)
  clear hK K
  refine wpAnyH_stronger (S' := BelS w7) (fun W h => below_chain hb7 hb7.size h) _ _ _ _ ?_
  have hB7 := hB6.below hb7
  have hS7 : BelS w7 w7 := BelS.refl w7
  have hbl6 := hb7
  refine wpAnyH_take (i := 25) (oi := _) (v := ?_) rfl (by kernel_rfl) (by kernel_rfl) (by kernel_rfl) (fun _ _ _ h => h) (Or.inl ⟨by rfl, ?_⟩) hS7 ?_
  rotate_left
  · intro W hSW
    have hc := CA.out v7 W (ho7.rd.up (Nat.le_refl _) (show Below w7.heap.size w7 W from hSW))
    try go_simp
    all_goals with_reducible rfl
  simp only [Act.put, List.setIfInBounds_toArray, List.set_cons_zero, List.set_cons_succ, List.getElem_toArray, List.getElem_cons_zero, List.getElem_cons_succ]
  refine wpAnyH_take (i := 26) (oi := _) (v := ?_) rfl (by kernel_rfl) (by kernel_rfl) (by kernel_rfl) (fun _ _ _ h => h) (Or.inl ⟨by rfl, ?_⟩) hS7 ?_
  rotate_left
  · intro W hSW
    try go_simp
    all_goals with_reducible rfl
  simp only [Act.put, List.setIfInBounds_toArray, List.set_cons_zero, List.set_cons_succ, List.getElem_toArray, List.getElem_cons_zero, List.getElem_cons_succ]
  refine wpAnyH_take (i := 27) (oi := _) (v := ?_) rfl (by kernel_rfl) (by kernel_rfl) (by kernel_rfl) (fun _ _ _ h => h) (Or.inl ⟨by rfl, ?_⟩) hS7 ?_
  rotate_left
  · intro W hSW
    try go_simp
    all_goals with_reducible rfl
  simp only [Act.put, List.setIfInBounds_toArray, List.set_cons_zero, List.set_cons_succ, List.getElem_toArray, List.getElem_cons_zero, List.getElem_cons_succ]
  refine wpAnyH_take (i := 28) (oi := _) (v := ?_) rfl (by kernel_rfl) (by kernel_rfl) (by kernel_rfl) (fun _ _ _ h => h) (Or.inl ⟨by rfl, ?_⟩) hS7 ?_
  rotate_left
  · intro W hSW
    try go_simp
    all_goals with_reducible rfl
  simp only [Act.put, List.setIfInBounds_toArray, List.set_cons_zero, List.set_cons_succ, List.getElem_toArray, List.getElem_cons_zero, List.getElem_cons_succ]
  refine wpAnyH_take (i := 29) (oi := _) (v := ?_) rfl (by kernel_rfl) (by kernel_rfl) (by kernel_rfl) (fun _ _ _ h => h) (Or.inl ⟨by rfl, ?_⟩) hS7 ?_
  rotate_left
  · intro W hSW
    obtain ⟨e0, e1, e2, e3, e4, e5⟩ := (hB7.below hSW).c
    try go_simp
    all_goals with_reducible rfl
  simp only [Act.put, List.setIfInBounds_toArray, List.set_cons_zero, List.set_cons_succ, List.getElem_toArray, List.getElem_cons_zero, List.getElem_cons_succ]
  refine wpAnyH_take (i := 32) (oi := _) (v := ?_) rfl (by kernel_rfl) (by kernel_rfl) (by kernel_rfl) (fun _ _ _ h => h) (Or.inl ⟨by rfl, ?_⟩) hS7 ?_
  rotate_left
  · intro W hSW
    obtain ⟨e0, e1, e2, e3, e4, e5⟩ := (hB7.below hSW).c
    try go_simp
    all_goals with_reducible rfl
  simp only [Act.put, List.setIfInBounds_toArray, List.set_cons_zero, List.set_cons_succ, List.getElem_toArray, List.getElem_cons_zero, List.getElem_cons_succ]
  refine wpAnyH_ready (rs := [30]) (by kernel_rfl) (by simp) (AllReadyH.cons rfl (fun K hK => ?_) AllReadyH.nil)
  go_simp
  go_wp2_with ((go_at_call 27; refine (hashOf_any h _ (HH.out.up hB7.2.1) fr ((hB7.2.1.block _ (by rw [← HG.out]; exact hn0)).trans HK.out)).mono ?_; rintro e w8 ⟨v8, rfl, ho8, hb8⟩))
  refine hK.out _ _ hb8 (fun _ => ?_)
  clear hK K
  refine wpAnyH_stronger (S' := BelS w8) (fun W h => below_chain hb8 hb8.size h) _ _ _ _ ?_
  have hB8 := hB7.below hb8
  have hS8 : BelS w8 w8 := BelS.refl w8
  refine wpAnyH_take (i := 31) (oi := _) (v := ?_) rfl (by kernel_rfl) (by kernel_rfl) (by kernel_rfl) (fun _ _ _ h => h) (Or.inl ⟨by rfl, ?_⟩) hS8 ?_
  rotate_left
  · intro W hSW
    have hc := CB.out v8 W (ho8.rd.up (Nat.le_refl _) (show Below w8.heap.size w8 W from hSW))
    try go_simp
    all_goals with_reducible rfl
  simp only [Act.put, List.setIfInBounds_toArray, List.set_cons_zero, List.set_cons_succ, List.getElem_toArray, List.getElem_cons_zero, List.getElem_cons_succ]
  refine wpAnyH_ready (rs := [33]) (by kernel_rfl) (by simp) (AllReadyH.cons rfl (fun K hK => ?_) AllReadyH.nil)
  go_simp
  go_wp2_with ((go_at_call 28; refine (rhashOf_any h _ (HH.out.up hB8.2.1) fr2 ((hB8.2.1.block _ (by rw [← HG.out]; exact hn1)).trans HK2.out)).mono ?_; rintro e w9 ⟨v9, rfl, ho9, hb9⟩))
  refine hK.out _ _ hb9 (fun _ => ?_)
  clear hK K
  refine wpAnyH_stronger (S' := BelS w9) (fun W h => below_chain hb9 hb9.size h) _ _ _ _ ?_
  have hB9 := hB8.below hb9
  have hS9 : BelS w9 w9 := BelS.refl w9
  have hbl8 := hb9
  refine wpAnyH_take (i := 34) (oi := _) (v := ?_) rfl (by kernel_rfl) (by kernel_rfl) (by kernel_rfl) (fun _ _ _ h => h) (Or.inl ⟨by rfl, ?_⟩) hS9 ?_
  rotate_left
  · intro W hSW
    have hc := CB.out v9 W (ho9.rd.up (Nat.le_refl _) (show Below w9.heap.size w9 W from hSW))
    try go_simp
    all_goals with_reducible rfl
  simp only [Act.put, List.setIfInBounds_toArray, List.set_cons_zero, List.set_cons_succ, List.getElem_toArray, List.getElem_cons_zero, List.getElem_cons_succ]
  refine wpAnyH_take (i := 35) (oi := _) (v := ?_) rfl (by kernel_rfl) (by kernel_rfl) (by kernel_rfl) (fun _ _ _ h => h) (Or.inl ⟨by rfl, ?_⟩) hS9 ?_
  rotate_left
  · intro W hSW
    try go_simp
    all_goals with_reducible rfl
  simp only [Act.put, List.setIfInBounds_toArray, List.set_cons_zero, List.set_cons_succ, List.getElem_toArray, List.getElem_cons_zero, List.getElem_cons_succ]
  refine wpAnyH_take (i := 36) (oi := _) (v := ?_) rfl (by kernel_rfl) (by kernel_rfl) (by kernel_rfl) (fun _ _ _ h => h) (Or.inl ⟨by rfl, ?_⟩) hS9 ?_
  rotate_left
  · intro W hSW
    try go_simp
    all_goals with_reducible rfl
  simp only [Act.put, List.setIfInBounds_toArray, List.set_cons_zero, List.set_cons_succ, List.getElem_toArray, List.getElem_cons_zero, List.getElem_cons_succ]
  refine wpAnyH_take (i := 37) (oi := _) (v := ?_) rfl (by kernel_rfl) (by kernel_rfl) (by kernel_rfl) (fun _ _ _ h => h) (Or.inl ⟨by rfl, ?_⟩) hS9 ?_
  rotate_left
  · intro W hSW
    try go_simp
    all_goals with_reducible rfl
  simp only [Act.put, List.setIfInBounds_toArray, List.set_cons_zero, List.set_cons_succ, List.getElem_toArray, List.getElem_cons_zero, List.getElem_cons_succ]
  refine wpAnyH_done (by kernel_rfl) ?_ _
  have hbF := hB9.2.1
  go_wp2_with fail
  go_ret
  have hg := HG.out
  subst hg
  exact ⟨rfl, hbF⟩
end Go.Proofs.YtapfjkbbgamkoaaDoor
