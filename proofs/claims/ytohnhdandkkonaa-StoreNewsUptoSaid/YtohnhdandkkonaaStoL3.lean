
/- The law StoreNews, walked. -/
import Derived.Test.YtohnhdandkkonaaStoY0
import Derived.Test.YtohnhdandkkonaaSto1
import Derived.Test.YtohnhdandkkonaaSto2
namespace Go.Proofs.Ytohnhdandkkonaa
open Go Go.RowKit
set_option linter.unusedVariables false

set_option maxHeartbeats 8000000 in
theorem news_law (w : World) (v : Value) (ps : List Pr) (hr : RdP w w.heap.size v ps) (hnl : ∀ p ∈ ps, p.1.size ≤ maxLen) (hvl : ∀ p ∈ ps, p.2.length ≤ 2000000) (hn1 : ps.length ≤ 2000000) :
    Calls Try.prog 3 #[v] w fun e w' => e = .returned (.bool true) ∧ Below w.heap.size w w' := by
  have HNEW := Lib.hid (new_any w v ps hr hnl)
  have HRN := Lib.hid (fun (W : World) (hb : Below w.heap.size w W) => rnew_any W v ps ((hr.below hb).more hb.size) hnl hvl hn1)
  have HRP := Lib.hid hr
  obtain ⟨A, c, rfl, -, -, -⟩ := hr
  obtain ⟨n, hn⟩ : ∃ n, n = ps.length := ⟨_, rfl⟩
  rw [← hn] at HNEW HRN HRP hn1 ⊢
  have HN := Lib.hid hn
  have HNL := Lib.hid hnl
  clear hnl hvl hn
  go_enter Try.func3, Try.ntmps3
  go_wp2_with fail
  refine HNEW.out.mono ?_
  clear HNEW
  rintro e w1 ⟨⟨h1, rfl⟩ | ⟨h1, y, rfl, hyb, hym, hyn, hly, hri, hp1⟩, hb1⟩
  · have HO := Lib.hid h1
    clear h1
    go_wp2_with fail
    refine (HRN.out w1 hb1).mono ?_
    rintro e w2 ⟨⟨-, rfl⟩ | ⟨h2, -⟩, hb2⟩
    rotate_left
    · rw [HO.out] at h2; cases h2
    have hq2 := below_chain hb1 hb1.size hb2
    clear hb1 hb2 HRN
    go_wp2_with fail
    refine (sfixed_any w2).mono ?_
    rintro e w3 ⟨rfl, hb3⟩
    have hq3 := below_chain hq2 hq2.size hb3
    go_wp2_with fail
    go_ret
    exact ⟨rfl, hq3⟩
  · have HO := Lib.hid h1
    obtain ⟨yb, ym, yn, yf⟩ := y
    have HP1 := Lib.hid hp1
    have HLY := Lib.hid (And.intro hyn (And.intro hly hri))
    clear hyn hly hri hp1 h1 hyb hym
    go_wp2_with fail
    refine (HRN.out w1 hb1).mono ?_
    rintro e w2 ⟨⟨h2, -⟩ | ⟨-, bb, rfl⟩, hb2⟩
    · rw [HO.out] at h2; cases h2
    have hq2 := below_chain hb1 hb1.size hb2
    clear HRN
    go_wp2_with fail
    refine (sfixed_any w2).mono ?_
    rintro e w3 ⟨rfl, hb3⟩
    have hq3 := below_chain hq2 hq2.size hb3
    have hyn : yn = n := HLY.out.1
    have HPA : Hid (Calls Try.prog 9 #[.pointer (some ⟨yb, 0, none⟩), .string ⟨#[]⟩] w3 fun e w' => ∃ v, e = .returned v ∧ OutP w' w3.heap.size v ps ∧ Below w3.heap.size w3 w') :=
      Lib.hid (pairs_any ((HP1.out.up hb2).up hb3) (by simp [sumN]; omega) ⟨#[]⟩ (by decide +kernel) (seen_bot0 HLY.out.2.1 HLY.out.2.2 HNL.out))
    clear hb1 hb2 hb3 hq2
    go_wp2_with fail
    refine HPA.out.mono ?_
    rintro e w5 ⟨v5, rfl, ho5, hb5⟩
    have hq5 := below_chain hq3 hq3.size hb5
    have HSA := Lib.hid (samePs_any w5 v5 (.slice A n c) ps ps ho5.rdP ((HRP.out.below hq5).more hq5.size))
    obtain ⟨A5, c5, rfl⟩ := ho5.form
    rw [← HN.out] at HSA ⊢
    clear ho5
    go_wp2_with fail
    refine HSA.out.mono ?_
    rintro e w6 ⟨rfl, hb6⟩
    simp only [decide_true]
    have hq6 := below_chain hq5 hq5.size hb6
    go_wp2_with fail
    go_ret
    exact ⟨rfl, hq6⟩
end Go.Proofs.Ytohnhdandkkonaa
