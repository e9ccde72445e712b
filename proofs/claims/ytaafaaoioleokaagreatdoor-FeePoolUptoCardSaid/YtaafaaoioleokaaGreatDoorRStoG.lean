
/- The document's store, walked: Get. -/
import Derived.Test.YtaafaaoioleokaaGreatDoorStoA1
import Derived.Deep.RegionLaw
import Derived.BigQuiet
import Derived.Test.YtaafaaoioleokaaGreatDoorSto1
namespace Go.Proofs.YtaafaaoioleokaaGreatDoor
set_option maxRecDepth 100000
open Go Go.RowKit
set_option linter.unusedVariables false

/-- the document's store at block b: R is kept in it -/
def DocS (w : World) (b : Nat) (R : List Pr) : Prop := ∃ v, w.heap[b]? = some (.cells #[v, .pointer none, .slice none 0 0] 134 (0, 0)) ∧ RdP w w.heap.size v R
theorem getL_at {R : List Pr} {s : ByteArray} {k : Nat} (hk : k < R.length) (h : getL (R.take k) s = none) (e : R[k].1 = s) : getL R s = some R[k].2 := by
  have h1 : R = R.take k ++ R[k] :: R.drop (k + 1) := by rw [← List.drop_eq_getElem_cons hk, List.take_append_drop]
  calc getL R s = getL (R.take k ++ R[k] :: R.drop (k + 1)) s := by rw [← h1]
    _ = some R[k].2 := by rw [getL_append, h, getL_cons, if_pos e]; rfl
theorem getL_next {R : List Pr} {s : ByteArray} {k : Nat} (hk : k < R.length) (h : getL (R.take k) s = none) (e : ¬ R[k].1 = s) : getL (R.take (k + 1)) s = none := by
  rw [← List.take_append_getElem hk, getL_append, h, getL_cons, if_neg e]; rfl

set_option maxHeartbeats 4000000 in
theorem rget_any {w : World} {b : Nat} {R : List Pr} (h : DocS w b R) (hn : R.length ≤ 100000000) (hv : ∀ p ∈ R, p.2.length ≤ 2000000) (key : ByteArray) :
    Calls Tryz.prog 84 #[.pointer (some ⟨b, 0, none⟩), .string key] w fun e w' => ∃ v, e = .returned (.tuple #[v, .bool (getL R key).isSome]) ∧ Own w' w.heap.size v ((getL R key).getD []) ∧ Below w.heap.size w w' := by
  obtain ⟨j0, hj0, hjz, hjs, hjb⟩ := info_parts Tryz.infoByte
  obtain ⟨v, hb, hr⟩ := h
  have c0 : w.cell? ⟨b, 0, none⟩ = some v := blk_cell hb 0
  have c1 : w.cell? ⟨b, 1, none⟩ = some (.pointer none) := blk_cell hb 1
  have c2 : w.cell? ⟨b, 2, none⟩ = some (.slice none 0 0) := blk_cell hb 2
  obtain ⟨A, c, rfl, hc, hm, hp⟩ := hr
  unfold maxLen at hm
  obtain ⟨n, hnn⟩ : ∃ n, n = R.length := ⟨_, rfl⟩
  rw [← hnn] at hc hn c0
  have HN := Lib.hid hnn
  have HP := Lib.hid hp
  have HV := Lib.hid hv
  clear hp hnn hv hb
  go_enter Tryz.func84, Tryz.ntmps84
  go_wp2_with fail
  go_loopw [6] (fun i wr => i = .int .i64 (-1) ∧ wr = w)
    (fun _ _ => 0)
  case atStart => exact ⟨rfl, rfl⟩
  case round =>
    obtain ⟨rfl, rfl⟩ := hrel
    rename World => w
    go_wp2_with fail
    go_loopw [65] (fun i wr => ∃ k : Nat, k ≤ n ∧ i = .int .i64 (k : Int) ∧ Below w.heap.size w wr ∧ Hid (getL (R.take k) key = none))
      (fun i _ => n - (intOf i).toNat)
    case atStart => exact ⟨0, Nat.zero_le _, rfl, Below.refl _ _, Lib.hid rfl⟩
    case round =>
      rename World => W
      obtain ⟨k, hkn, rfl, hbW, HT⟩ := hrel
      by_cases hlt : k < n
      · have hkl : k < R.length := by have := HN.out; omega
        obtain ⟨g, o, rfl, hgl, hcell⟩ := HP.out (by omega)
        obtain ⟨q1, x, q2, q3⟩ := hcell k hkl
        have a1 := (hbW.cell (p := ⟨g, o + k * 2, none⟩) hgl).trans q1
        have a2 := (hbW.cell (p := ⟨g, o + k * 2 + 1, none⟩) hgl).trans q2
        have hvk := HV.out _ (List.getElem_mem hkl)
        have i1 : (0 : Int) ≤ (k : Int) := by omega
        have i2 : (k : Int) < (n : Int) := by omega
        obtain ⟨Ax, cx, rfl⟩ := q3.form
        have hal : Below W.heap.size W (W.alloc (.cells #[.string R[k].1, .slice Ax R[k].2.length cx] 76)) := (Below.refl _ _).alloc (Nat.le_refl _) _
        have hq1 := hbW.alloc hbW.size (.cells #[.string R[k].1, .slice Ax R[k].2.length cx] 76)
        have hcs := heap_alloc_new W (.cells #[.string R[k].1, .slice Ax R[k].2.length cx] 76)
        have hr1 := (q3.below hq1).more hq1.size
        by_cases hs : R[k].1 = key
        · have HG := Lib.hid (getL_at hkl HT.out hs)
          rw [hs] at a1 hal hq1 hcs hr1
          generalize R[k].2 = l at *
          have d0 : (W.alloc (.cells #[.string key, .slice Ax l.length cx] 76)).cell? ⟨W.heap.size, 0, none⟩ = some (.string key) := blk_cell hcs 0
          have d1 : (W.alloc (.cells #[.string key, .slice Ax l.length cx] 76)).cell? ⟨W.heap.size, 1, none⟩ = some (.slice Ax l.length cx) := blk_cell hcs 1
          obtain ⟨W1, hW1⟩ : ∃ W1, W1 = W.alloc (.cells #[.string key, .slice Ax l.length cx] 76) := ⟨_, rfl⟩
          have hbe : Below W1.heap.size W1 (W1.alloc (.cells #[] 5)) := (Below.refl _ _).alloc (Nat.le_refl _) _
          have hrE : Rd (W1.alloc (.cells #[] 5)) W1.heap.size (.slice Ax l.length cx) l := by rw [← hW1] at hr1; exact hr1.below hbe
          have hED : Own (W1.alloc (.cells #[] 5)) W1.heap.size (.slice (some ⟨W1.heap.size, 0, none⟩) 0 0) [] := own_empty W1 (Nat.le_refl _)
          have hlz : W.heap.size < W1.heap.size := by rw [hW1]; simp
          have e1 : (W1.alloc (.cells #[] 5)).cell? ⟨W.heap.size, 1, none⟩ = some (.slice Ax l.length cx) := (hbe.cell (p := ⟨W.heap.size, 1, none⟩) hlz).trans (by rw [hW1]; exact d1)
          have hq1' : Below w.heap.size w W1 := by rw [hW1]; exact hq1
          have HE := Lib.hid (And.intro hbe (And.intro hrE hED))
          have hsz1 : W1.heap.size = W.heap.size + 1 := by rw [hW1]; simp
          have HS1 : Hid ((W.alloc (.cells #[.string key, .slice Ax l.length cx] 76)).heap.size = W.heap.size + 1) := Lib.hid (by simp)
          rw [hsz1] at HE
          rw [hW1] at HE e1 hq1'
          clear hcell q1 q2 q3 hcs hal hq1 hr1 hbe hrE hED hsz1 HT hlz hW1
          go_wp2_with (at_builtin; refine wpList_append_rd rfl (.tmp 73) (.tmp 75) _ rfl j0 Tryz.underlying37 hj0 hjz hjs hjb rfl HE.out.2.2 rfl HE.out.2.1 (by simp; omega) (by simp) ?_; intro v3 w3 ho3 hg3 _)
          have hb3 := Own.below_grown HE.out.1 HE.out.2.2 (Nat.le_refl _) (by simp) hg3
          go_ret2
          exact ⟨v3, by rw [HG.out]; rfl, by rw [HG.out]; exact (show Own w3 _ v3 l from ho3).more (Nat.le_trans hbW.size (Nat.le_succ _)), below_chain hq1' (by rw [HS1.out]; exact Nat.le_trans hbW.size (Nat.le_succ _)) (by rw [HS1.out]; exact hb3)⟩
        · have HG := Lib.hid (getL_next hkl HT.out hs)
          have hne : (R[k].1.toList == key.toList) = false := beq_toList_ne hs
          clear hcell q1 q2 hs HT hr1 q3
          generalize R[k].1 = s at *
          generalize R[k].2 = l at *
          have d0 : (W.alloc (.cells #[.string s, .slice Ax l.length cx] 76)).cell? ⟨W.heap.size, 0, none⟩ = some (.string s) := blk_cell hcs 0
          clear hcs hal
          go_wp2_with fail
          exact ⟨⟨k + 1, by omega, by go_num, hq1, HG⟩, by simp [intOf]; omega⟩
      · have i2 : ¬ (k : Int) < (n : Int) := by omega
        have HG : Hid (getL R key = none) := Lib.hid (by
          have := HT.out
          rwa [List.take_of_length_le (by have := HN.out; omega)] at this)
        clear HT
        go_wp2_with fail
        go_ret2
        exact ⟨_, by rw [HG.out]; rfl, by rw [HG.out]; exact Own.nil _ _, hbW⟩
end Go.Proofs.YtaafaaoioleokaaGreatDoor
