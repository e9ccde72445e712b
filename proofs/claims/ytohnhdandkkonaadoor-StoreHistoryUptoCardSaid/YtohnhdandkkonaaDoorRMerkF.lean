
/- The document's merkle: the root, a leaf with its way. -/
import Derived.Test.YtohnhdandkkonaaDoorRMerkD0
import Derived.Test.YtohnhdandkkonaaDoorMerkE0
import Derived.Test.YtohnhdandkkonaaDoorRMerkS
import Derived.Test.YtohnhdandkkonaaDoorRowR0
namespace Go.Proofs.YtohnhdandkkonaaDoor
set_option maxRecDepth 100000
open Go Go.RowKit
set_option linter.unusedVariables false
variable {w w' : World} {B : Nat}

set_option maxHeartbeats 1000000 in
theorem rroot_any (w : World) (v : Value) (ps : List Pr) (hr : RdP w w.heap.size v ps) (hnl : ∀ p ∈ ps, p.1.size ≤ maxLen) (fr : TypeId × Nat × Nat) (hk : w.heap[0]? = some (.cells kVals fr.1 fr.2)) :
    Calls Tryd.prog 11 #[v] w fun e w' => ∃ v', e = .returned (.tuple #[v', .int .i64 (rootM ps).2]) ∧ Own w' w.heap.size v' (rootM ps).1 ∧ Below w.heap.size w w' := by
  have hnk := blk_lt hk
  have HK := Lib.hid hk
  clear hk
  have C1 := right_any w v ps hr hnl
  have C2 := fun (w1 : World) (hb : Below w.heap.size w w1) (h0 : ps.length ≤ 65536) (h1 : 1 ≤ ps.length) => by
    have e1 : w1.heap[0]? = some (.cells kVals fr.1 fr.2) := (hb.block _ hnk).trans HK.out
    have e2 : RdP w1 w1.heap.size v ps := (hr.below hb).more hb.size
    exact rrow_any fr _ ps v w1 (Nat.le_refl _) h1 h0 e2 hnl e1
  obtain ⟨A, c, rfl, hc, hm, hp⟩ := hr
  unfold maxLen at hm
  obtain ⟨n, hn⟩ : ∃ n, n = ps.length := ⟨_, rfl⟩
  rw [← hn] at hc C1 C2 ⊢
  have HR := Lib.hid (fun h : ordB ps = false => rootM_no h)
  have HR0 := Lib.hid (fun (h : ordB ps = true) (h0 : ps.length = 0) => rootM_nil h h0)
  have HR1 := Lib.hid (fun (h : ordB ps = true) (h0 : 0 < ps.length) => rootM_some h h0)
  generalize rootM ps = R at *
  have HN := Lib.hid hn
  clear hn hp
  replace C1 := Lib.hid C1
  replace C2 := Lib.hid C2
  go_enter Tryd.func11, Tryd.ntmps11
  go_wp2_with fail
  refine C1.out.mono ?_
  rintro e w1 ⟨rfl, hb1⟩
  clear C1
  cases ho : ordB ps with
  | false =>
    have hR : R = ([], 60) := HR.out ho
    subst hR
    go_wp2_with fail
    go_ret2
    exact ⟨_, rfl, Own.nil _ _, hb1⟩
  | true =>
    have hn1 : n ≤ 65536 := by rw [HN.out]; exact ordB_len ho
    by_cases h0 : n = 0
    · have hR : R = (rootE, 0) := HR0.out ho (by have := HN.out; omega)
      subst hR
      subst h0
      go_wp2_with fail
      refine (rn_any 0 _ (by omega)).mono ?_
      rintro e w2 ⟨v2, rfl, ho2, hb2⟩
      obtain ⟨A2, c2, rfl⟩ := ho2.form' (be_length 0 8)
      have hp3 := partsA1 w2 (.slice A2 8 c2) (be 0 8) 29 ho2.rd
      have hq := below_chain hb1 hb1.size hb2
      have hx3 := hq.alloc hq.size (.cells #[.slice A2 8 c2] 29)
      have hk3 := (hx3.block _ hnk).trans HK.out
      clear ho2
      go_wp2_with fail
      refine (rtagged_any wRoot _ [be 0 8] _ hp3 (by unfold maxLen wRoot; decide) (by simp) fr hk3).mono ?_
      rintro e w4 ⟨v4, rfl, ho4, hb4⟩
      have hbo := below_chain hx3 hx3.size hb4
      go_wp2_with fail
      go_ret2
      exact ⟨_, rfl, ho4.more hx3.size, hbo⟩
    · have hR : R = (rootH n (rowT nodeH (leaves ps)), 0) := by rw [HN.out]; exact HR1.out ho (by have := HN.out; omega)
      subst hR
      have i1 : ¬ (n : Int) = 0 := by omega
      have hn8 : n ≤ 9223372036854775807 := by omega
      go_wp2_with fail
      refine (rn_any n _ hn8).mono ?_
      rintro e w2 ⟨v2, rfl, ho2, hb2⟩
      obtain ⟨A2, c2, rfl⟩ := ho2.form' (be_length n 8)
      have hq := below_chain hb1 hb1.size hb2
      go_wp2_with fail
      refine (C2.out w2 hq hn1 (by omega)).mono ?_
      rintro e w3 ⟨v3, rfl, ho3, hb3⟩
      have hq3 := below_chain hq hq.size hb3
      have HH : Hid (rootH n (rowT nodeH (leaves ps)) = shaSum (formB (strBytes wRoot) ++ formBs [be n 8, rowT nodeH (leaves ps)])) := Lib.hid rfl
      generalize hh : rowT nodeH (leaves ps) = h at *
      have HHH := Lib.hid hh
      clear hh
      obtain ⟨A3, c3, rfl⟩ := ho3.form
      have hp4 := partsA2 w3 (.slice A2 8 c2) (.slice A3 h.length c3) (be n 8) h 29 (ho2.rd.up (Nat.le_refl _) hb3) ho3.rd
      have hx4 := hq3.alloc hq3.size (.cells #[.slice A2 8 c2, .slice A3 h.length c3] 29)
      have hk4 := (hx4.block _ hnk).trans HK.out
      clear ho2 ho3
      go_wp2_with fail
      refine (rtagged_any wRoot _ [be n 8, h] _ hp4 (by unfold maxLen wRoot; decide) (by simp) fr hk4).mono ?_
      rintro e w5 ⟨v5, rfl, ho5, hb5⟩
      have hbo := below_chain hx4 hx4.size hb5
      go_wp2_with fail
      go_ret2
      exact ⟨_, rfl, by rw [HHH.out, HH.out]; exact ho5.more hx4.size, hbo⟩

end Go.Proofs.YtohnhdandkkonaaDoor
