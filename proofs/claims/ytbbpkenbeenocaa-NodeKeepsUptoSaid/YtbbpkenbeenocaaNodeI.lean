
/- The walk of the law's fixed answers about a node. -/
import Derived.Test.YtbbpkenbeenocaaNodeH
namespace Go.Proofs.Ytbbpkenbeenocaa
open Go Go.RowKit
set_option linter.unusedVariables false
def newM : DM := ⟨[], false, 0⟩
def fixN (l : Int) : DM := ⟨[⟨sLog, [0, 0, 0, 0, 0, 0, 0, 2, 7, 8], 10⟩, ⟨sMarks, [1], 1⟩], false, l⟩
def fixD : DM := ⟨[⟨sLog, [0, 0, 0, 0, 0, 0, 0, 2, 7, 8, 0, 0, 0, 0, 0, 0, 0, 0], 18⟩, ⟨sMarks, [1, 1], 1⟩], true, 0⟩
theorem fixn1 : openN newM = (0, newM, []) := by rfl
theorem fixn2 : putE [7, 8] newM = (0, fixN 0) := by rfl
theorem fixn3 : readM (fixN 0) sLog = ([0, 0, 0, 0, 0, 0, 0, 2, 7, 8], 0) := rfl
theorem fixn4 : readM (fixN 0) sMarks = ([1], 0) := rfl
theorem fixn5 : armM (fixN 0) 3 = fixN 3 := rfl
theorem fixn6 : putE [] (fixN 3) = (51, fixD) := by rfl
theorem fixn7 : ∀ f ∈ (fixN 0).files, f.data.length ≤ 140737488355320 := by simp [fixN]
theorem good_fix : GoodL (fixN 3).files := ⟨by decide, by decide, by decide, by decide⟩
theorem good_new : GoodL newM.files := ⟨by decide, by decide, by decide, by decide⟩

variable {w w' : World} {F : Nat → Prop} {d : Nat} {m : DM} {B : Nat}
set_option maxHeartbeats 1000000 in
set_option maxRecDepth 100000 in
theorem fixed_any (w : World) : Calls Try.prog 8 #[] w fun e w' => e = .returned (.bool true) ∧ Below w.heap.size w w' := by
  go_enter Try.func8, Try.ntmps8
  go_wp2_with fail
  refine (new_any _ (fun _ => False)).mono ?_
  rintro e w1 ⟨rfl, h1, hb1⟩
  obtain ⟨d, hd⟩ : ∃ d, d = w.heap.size := ⟨_, rfl⟩
  rw [← hd] at h1 hb1 ⊢
  have HD := Lib.hid hd
  clear hd
  have hs1 : d ≤ w1.heap.size := Nat.le_of_lt (h1.lt d rfl)
  have hF1 : ∀ k, (fun k => k = d) k → d ≤ k := fun k hk => Nat.le_of_eq hk.symm
  generalize (fun k => k = d) = F1 at *
  go_wp2_with fail
  refine (nopen_any h1 (by intro f hf; exact absurd hf (by simp))).mono ?_
  intro e w2 hq
  rw [show openN ⟨[], false, 0⟩ = (0, newM, []) from fixn1] at hq
  obtain ⟨hq1, h2, hc2⟩ := hq
  rw [if_pos rfl] at hq1
  obtain ⟨nd, rv, rfl, hnl, hn2, hor2⟩ := hq1
  have hI := NodeIn.made h2 hc2 h1.lt hn2 hnl
  have hB2 : Below d w w2 := hb1.trans (hc2.below hF1 hs1)
  have hs2 := Nat.le_trans hs1 hc2.size
  have hS2 : ∀ k, Ext F1 w1 w2 k → d ≤ k := Ext.ge hF1 hs1
  generalize Ext F1 w1 w2 = S2 at *
  obtain ⟨Ar, cr, rfl⟩ := hor2.form
  clear h1 h2 hb1 hc2 hn2 hnl hor2
  go_wp2_with fail
  have hz : Below d w (w2.alloc (.cells (bcells [7, 8]).toArray 5)) := hB2.alloc hs2 _
  have hzs : d ≤ (w2.alloc (.cells (bcells [7, 8]).toArray 5)).heap.size := Nat.le_trans hs2 (by simp)
  refine (nput_ok (hI.al _) _ [7, 8] ((rd_lit w2 _ [7, 8] 2 rfl rfl (by unfold maxLen; omega)).more (by simp)) (by simp) good_new (by decide) (by simp) fixn2).mono ?_
  rintro e w3 ⟨rfl, hc3, hI3⟩
  have hB3 := hz.trans (hc3.below hS2 hzs)
  have hs3 := Nat.le_trans hzs hc3.size
  have hS3 := Ext.ge (w' := w3) hS2 hzs
  generalize Ext S2 _ w3 = S3 at *
  have hI3 : NodeIn w3 S3 nd d 1 false (fixN 0) := hI3
  clear hI hz hzs hc3 hB2 hs2 hS2
  go_wp2_with fail
  refine (count_any hI3.node).mono ?_
  rintro e w4 ⟨rfl, rfl⟩
  go_wp2_with fail
  refine (nread_in hI3 sLog fixn7 fixn3).mono ?_
  rintro e w4 ⟨A4, c4, rfl, ho4, hb4⟩
  have hI4 := hI3.below hb4
  have hB4 := hB3.trans (hb4.mono hs3)
  have hs4 := Nat.le_trans hs3 hb4.size
  have HL3 := Lib.hid hI3.lt
  have hs34 := hb4.size
  clear hI3 hB3 hb4
  go_wp2_with fail
  refine (nread_in hI4 sMarks fixn7 fixn4).mono ?_
  rintro e w5 ⟨A5, c5, rfl, ho5, hb5⟩
  have hI5 := hI4.below hb5
  have hB5 := hB4.trans (hb5.mono hs4)
  have hs5 := Nat.le_trans hs4 hb5.size
  have ho45 := ho4.below hb5
  clear hI4 hB4 hb5 ho4
  go_wp2_with fail
  refine (narm_in hI5 3 (by decide)).mono ?_
  rintro e w6 ⟨rfl, hc6, hI6⟩
  rw [fixn5] at hI6
  have hB6 := hB5.trans (hc6.below hS3 hs5)
  have hs6 := Nat.le_trans hs5 hc6.size
  have hr4 : Rd w6 w6.heap.size (.slice A4 10 c4) [0, 0, 0, 0, 0, 0, 0, 2, 7, 8] := (ho45.chg hc6 HL3.out).rd
  have hr5 : Rd w6 w6.heap.size (.slice A5 1 c5) [1] := (ho5.chg hc6 (fun k hk => Nat.lt_of_lt_of_le (HL3.out k hk) hs34)).rd
  have q1 := run_str (src := 40) (dst := 9) Try.underlying40 Try.underlying5 Try.isString hr4
  have q2 := run_str (src := 40) (dst := 9) Try.underlying40 Try.underlying5 Try.isString hr5
  clear hB5 hc6 ho45 ho5 hr4 hr5 hI5 hs34
  go_wp2_with fail
  refine (nput_err hI6 (.slice none 0 0) [] (Rd.nil _ _) (by simp) good_fix (by decide) (by omega) (by decide) fixn6).mono ?_
  rintro e w7 ⟨rfl, hc7, hI7⟩
  have hB7 := hB6.trans (hc7.below hS3 hs6)
  clear hB6 hI6 q1 q2 hc7
  go_wp2_with fail
  refine (sick_any hI7.node).mono ?_
  rintro e w8 ⟨rfl, rfl⟩
  go_wp2_with fail
  go_ret
  exact ⟨rfl, by rw [← HD.out]; exact hB7⟩
end Go.Proofs.Ytbbpkenbeenocaa
