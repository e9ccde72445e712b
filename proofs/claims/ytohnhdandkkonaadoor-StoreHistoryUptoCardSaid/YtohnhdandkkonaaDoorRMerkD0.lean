
/- The document's merkle: the hash of a row. The document's merkle: the way of a leaf. -/
import Derived.Test.YtohnhdandkkonaaDoorRMerkA0
import Derived.Test.YtohnhdandkkonaaDoorMerkC0
import Derived.Test.YtohnhdandkkonaaDoorSlc
import Derived.Test.YtohnhdandkkonaaDoorMerkE0
import Derived.Test.YtohnhdandkkonaaDoorRowR0
namespace Go.Proofs.YtohnhdandkkonaaDoor
set_option maxRecDepth 100000
open Go Go.RowKit
set_option linter.unusedVariables false
variable {w w' : World} {B : Nat}

theorem RdP.take {A : Option Addr} {n c : Nat} {ps : List Pr} (h : RdP w B (.slice A n c) ps) (k : Nat) (hk : k ≤ n) : RdP w B (.slice A k c) (ps.take k) := by
  obtain ⟨A', c', e, h1, h2, hp⟩ := h
  injection e with e1 e2 e3
  subst e1; subst e2; subst e3
  have hl : (ps.take k).length = k := by rw [List.length_take]; omega
  refine ⟨_, _, by rw [hl], by omega, h2, fun h0 => ?_⟩
  obtain ⟨b, o, rfl, hlt, hc⟩ := hp (by omega)
  refine ⟨b, o, rfl, hlt, fun j hj => ?_⟩
  rw [List.getElem_take]
  exact hc j (by omega)
theorem RdP.drop {b o : Nat} {n c : Nat} {ps : List Pr} (h : RdP w B (.slice (some ⟨b, o, none⟩) n c) ps) (k : Nat) (hk : k ≤ n) : RdP w B (.slice (some ⟨b, o + k * 2, none⟩) (n - k) (c - k)) (ps.drop k) := by
  obtain ⟨A', c', e, h1, h2, hp⟩ := h
  injection e with e1 e2 e3
  subst e2; subst e3
  have hl : (ps.drop k).length = ps.length - k := by rw [List.length_drop]
  refine ⟨_, _, by rw [hl], by omega, by omega, fun h0 => ?_⟩
  obtain ⟨b', o', rfl, hlt, hc⟩ := hp (by omega)
  injection e1 with e1
  injection e1 with e1 e2
  subst e1; subst e2
  refine ⟨b, o + k * 2, rfl, hlt, fun j hj => ?_⟩
  rw [List.getElem_drop]
  have := hc (k + j) (by omega)
  rw [show o + k * 2 + j * 2 = o + (k + j) * 2 by omega]
  exact this
theorem Tryd.infoPair : (Tryd.prog.info? 31).map (fun i => (i.zero, i.size, i.bytes)) = some (some (.agg #[.string ⟨#[]⟩, .slice none 0 0]), 2, 40) := by kernel_rfl
theorem leaves_take (ps : List Pr) (k : Nat) : leaves (ps.take k) = (leaves ps).take k := by unfold leaves; rw [List.map_take]
theorem leaves_drop (ps : List Pr) (k : Nat) : leaves (ps.drop k) = (leaves ps).drop k := by unfold leaves; rw [List.map_drop]

set_option maxHeartbeats 2000000 in
theorem rrow_any (fr : TypeId × Nat × Nat) : ∀ (N : Nat) (ps : List Pr) (v : Value) (w : World), ps.length ≤ N → 1 ≤ ps.length → ps.length ≤ 65536 → RdP w w.heap.size v ps → (∀ p ∈ ps, p.1.size ≤ maxLen) → w.heap[0]? = some (.cells kVals fr.1 fr.2) →
    Calls Tryd.prog 24 #[v] w fun e w' => ∃ v', e = .returned v' ∧ Own w' w.heap.size v' (rowT nodeH (leaves ps)) ∧ Below w.heap.size w w' := by
  intro N
  induction N with
  | zero => intro ps v w h0 h1; omega
  | succ N ih =>
    intro ps v w hN h1 h6 hr hnl hk
    have hnk := blk_lt hk
    have HK := Lib.hid hk
    clear hk
    have hv := hr
    obtain ⟨A, c, rfl, hc, hm, hp⟩ := hr
    unfold maxLen at hm
    obtain ⟨b, o, rfl, hbl, hcell⟩ := hp (by omega)
    by_cases hone : ps.length = 1
    · obtain ⟨q1, x, q2, q3⟩ := hcell 0 (by omega)
      have hrow : rowT nodeH (leaves ps) = leafH (ps[0]'(by omega)).1 (ps[0]'(by omega)).2 := by
        rcases ps with _ | ⟨p, _ | ⟨q, l⟩⟩
        · simp at h1
        · rfl
        · simp at hone
      have hks := hnl (ps[0]'(by omega)) (List.getElem_mem _)
      rw [hrow]
      generalize (ps[0]'(by omega)).1 = s at *
      generalize (ps[0]'(by omega)).2 = l at *
      rw [hone] at hc
      rw [hone]
      rw [Nat.zero_mul, Nat.add_zero] at q1 q2
      obtain ⟨Ax, cx, rfl⟩ := q3.form
      have hxl : l.length ≤ 9223372036854775807 := q3.len
      clear hcell hp hv ih hnl hrow hN h1 h6 hone
      go_enter Tryd.func24, Tryd.ntmps24
      go_wp2_with fail
      refine (rleaf_any s _ l _ hks q3 fr HK.out).mono ?_
      rintro e w1 ⟨v1, rfl, ho1, hb1⟩
      go_wp2_with fail
      go_ret
      exact ⟨_, rfl, ho1, hb1⟩
    · obtain ⟨c1, c2, c3⟩ := cutM_lt (m := ps.length) (by omega)
      have hcut : Hid (rowT nodeH (leaves ps) = nodeH (rowT nodeH (leaves (ps.take (cutM ps.length)))) (rowT nodeH (leaves (ps.drop (cutM ps.length))))) := Lib.hid (by
        rw [rowT_cut nodeH (leaves ps) (by rw [leaves_length]; omega), leaves_length, leaves_take, leaves_drop])
      have CS := Lib.hid (fun W : World => split_any ps.length W (by omega) h6)
      have C1 := Lib.hid (fun (w1 : World) (hb : Below w.heap.size w w1) => ih (ps.take (cutM ps.length)) _ w1 (by rw [List.length_take]; omega) (by rw [List.length_take]; omega) (by rw [List.length_take]; omega) (((hv.take (cutM ps.length) (by omega)).below hb).more hb.size) (fun p hp => hnl p (List.mem_of_mem_take hp)) ((hb.block _ hnk).trans HK.out))
      have C2 := Lib.hid (fun (w1 : World) (hb : Below w.heap.size w w1) => ih (ps.drop (cutM ps.length)) _ w1 (by rw [List.length_drop]; omega) (by rw [List.length_drop]; omega) (by rw [List.length_drop]; omega) (((hv.drop (cutM ps.length) (by omega)).below hb).more hb.size) (fun p hp => hnl p (List.mem_of_mem_drop hp)) ((hb.block _ hnk).trans HK.out))
      clear hcell hp hv ih hnl hN h1
      generalize rowT nodeH (leaves (ps.take (cutM ps.length))) = h1' at *
      generalize rowT nodeH (leaves (ps.drop (cutM ps.length))) = h2' at *
      generalize rowT nodeH (leaves ps) = R at *
      generalize cutM ps.length = k at *
      generalize ps.length = n at *
      obtain ⟨j0, hj, -, hjz, -⟩ := info_parts Tryd.infoPair
      have sl1 : ∀ W : World, (Instr.slice 22 (.slice (some ⟨b, o, none⟩) n c) none (some (.int .i64 (k : Int))) none).run Tryd.prog W = .ok (.slice (some ⟨b, o, none⟩) k c) W := slc_to _ _ j0 Tryd.underlying22 hj _ n c k (by omega)
      have sl2 : ∀ W : World, (Instr.slice 22 (.slice (some ⟨b, o, none⟩) n c) (some (.int .i64 (k : Int))) none none).run Tryd.prog W = .ok (.slice (some ⟨b, o + k * 2, none⟩) (n - k) (c - k)) W := slc_from_at _ _ j0 Tryd.underlying22 hj 2 hjz b o n c k (by omega) hc (by omega)
      clear hj hjz
      have i1 : ¬ (n : Int) = 1 := by omega
      have i2 : (0 : Int) ≤ (k : Int) := by omega
      have i3 : (k : Int) ≤ (n : Int) := by omega
      have i4 : (n : Int) ≤ (c : Int) := by omega
      have i5 : (k : Int) ≤ (c : Int) := by omega
      have i6 : ¬ (k : Int) = (c : Int) := by omega
      go_enter Tryd.func24, Tryd.ntmps24
      go_wp2_with fail
      refine (CS.out _).mono ?_
      rintro e w1 ⟨rfl, rfl⟩
      go_wp2_with fail
      have D1 := Lib.hid (C1.out w.drew (Below.refl _ _).drew)
      go_region_held_law (fun _ => True) (trivial)
        (first
          | (go_at_call 22; (have hq5' := hq5; refine (rtagged_any wNode _ [h1', h2'] _ hp5 (by unfold maxLen wNode; decide) (by simp) fr hk5).mono ?_; rintro e w6 ⟨v6, rfl, ho6, hb6⟩))
          | (go_at_call 24; (have D2 := C2.out w2 hb2; (with_reducible refine D2.mono ?_); rintro e w3 ⟨v3, rfl, ho3, hb3⟩; have hq3 := below_chain hb2 hb2.size hb3; have hp5 := partsA2 w3 _ v3 h1' h2' 29 (ho2.rd.up (Nat.le_refl _) hb3) ho3.rd; have hq5 := hq3.alloc hq3.size (.cells #[.slice A2 h1'.length c2, v3] 29); have hk5 := (hq5.block _ hnk).trans HK.out; obtain ⟨A3, c3, rfl⟩ := ho3.form))
          | (go_at_call 24; ((with_reducible refine D1.out.mono ?_); rintro e w2 ⟨v2, rfl, ho2, hb2'⟩; have hb2 : Below w.heap.size w w2 := below_chain (Below.refl w.heap.size w).drew (Nat.le_refl _) hb2'; obtain ⟨A2, c2, rfl⟩ := ho2.form)))
      all_goals (
        have hbo := below_chain hq5 hq5.size hb6
        go_wp2_with fail
        go_ret
        exact ⟨_, rfl, by rw [hcut.out]; exact ho6.more hq5.size, hbo⟩)
end Go.Proofs.YtohnhdandkkonaaDoor
namespace Go.Proofs.YtohnhdandkkonaaDoor
set_option maxRecDepth 100000
open Go Go.RowKit
set_option linter.unusedVariables false
variable {w w' : World} {B : Nat}

theorem wayT_short (ps : List Pr) (i : Nat) (h : ps.length ≤ 65536) : (wayT nodeH (leaves ps) i).length ≤ 1000000000 := by
  have := wayT_length nodeH 17 (leaves ps) i (by rw [leaves_length]; omega)
  omega

end Go.Proofs.YtohnhdandkkonaaDoor
