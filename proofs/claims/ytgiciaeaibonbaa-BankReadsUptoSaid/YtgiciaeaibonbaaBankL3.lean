
/- The walk of the law: each balance and supply is read as the document says. -/
import Derived.Test.YtgiciaeaibonbaaBankF0
import Derived.Test.YtgiciaeaibonbaaRBankA
import Derived.Test.YtgiciaeaibonbaaSto2
namespace Go.Proofs.Ytgiciaeaibonbaa
set_option maxRecDepth 100000
open Go Go.RowKit
set_option linter.unusedVariables false

set_option maxHeartbeats 8000000 in
theorem reads_law (w : World) (v : Value) (ps : List Pr) (hps : RdP w w.heap.size v ps) (hnl : ∀ p ∈ ps, p.1.size ≤ maxLen) (hvl : ∀ p ∈ ps, p.2.length ≤ 2000000) (hlen : ps.length ≤ 2000000) (a d : ByteArray) (ha : a.size ≤ 100000000) (hd : d.size ≤ 100000000) :
    Calls Try.prog 4 #[v, .string a, .string d] w fun e w' => e = .returned (.bool true) ∧ Below w.heap.size w w' := by
  have HN := Lib.hid (new_any w v ps hps hnl)
  have HR := Lib.hid (fun (W : World) (hb : Below w.heap.size w W) => rnew_doc W v ps (hps.kept (Kept.of_below hb)) hnl hvl hlen)
  have HV := Lib.hid (And.intro hvl hlen)
  obtain ⟨A, c, rfl⟩ : ∃ A c, v = .slice A ps.length c := by obtain ⟨A, c, h, _⟩ := hps; exact ⟨A, c, h⟩
  clear hps hvl hlen
  go_enter Try.func4, Try.ntmps4
  go_wp2_with fail
  refine HN.out.mono ?_
  rintro e w1 ⟨⟨hor, rfl⟩ | ⟨hor, y, rfl, hyb, hym, hyn, hly, hri, hp1⟩, hb1⟩
  · have HO := Lib.hid hor
    clear hor
    go_wp2_with fail
    refine (HR.out _ hb1).mono ?_
    rintro e w2 ⟨⟨-, rfl⟩ | ⟨h2, -⟩, hb2⟩
    rotate_left
    · rw [HO.out] at h2; cases h2
    have hq2 := below_chain hb1 hb1.size hb2
    go_wp2_with fail
    refine (bfixed_any _).mono ?_
    rintro e w3 ⟨rfl, hb3⟩
    have hq3 := below_chain hq2 hq2.size hb3
    go_wp2_with fail
    refine (bfixed_any _).mono ?_
    rintro e w4 ⟨rfl, hb4⟩
    have hq4 := below_chain hq3 hq3.size hb4
    go_wp2_with fail
    go_ret
    exact ⟨rfl, hq4⟩
  · have HO := Lib.hid hor
    have A1 := Acc.made hp1 hly hri hnl
    obtain ⟨yb, ym, yn, yf⟩ := y
    dsimp only at ⊢
    clear hor hyb hym hyn hly hri hp1 HN
    go_wp2_with fail
    refine (HR.out _ hb1).mono ?_
    rintro e w2 ⟨⟨h2, -⟩ | ⟨-, b, rfl, hbb, hds⟩, hb2⟩
    · rw [HO.out] at h2; cases h2
    have A2 := A1.up hb2
    have D2 : DocR w2 b ps := ⟨hds, by have := HV.out.2; omega, HV.out.1⟩
    have hq2 := below_chain hb1 hb1.size hb2
    clear A1 hb1 hb2 hbb hds HR HO
    go_wp2_with fail
    refine (bfixed_any _).mono ?_
    rintro e w3 ⟨rfl, hb3⟩
    have A3 := A2.up hb3
    have D3 := D2.up hb3
    have hq3 := below_chain hq2 hq2.size hb3
    have HB := Lib.hid (A3.bal a d ha hd)
    have HB' := Lib.hid (fun (W : World) (hb : Below w3.heap.size w3 W) => rbal_any (D3.up hb) a d ha hd)
    have HS := Lib.hid (fun (W : World) (hb : Below w3.heap.size w3 W) => (A3.up hb).sup d hd)
    have HS' := Lib.hid (fun (W : World) (hb : Below w3.heap.size w3 W) => rsup_any (D3.up hb) d hd)
    generalize balM ps a d = X at *
    generalize supM ps d = Y at *
    have q1 := fun W => eql4 X X W
    have q2 := fun W => eql4 Y Y W
    rw [eqB_refl] at q1 q2
    unfold U4.val U4.cells at *
    clear hb3 A2 D2 A3 D3
    go_wp2_with fail
    refine HB.out.mono ?_
    rintro e w4 ⟨rfl, hb4⟩
    go_wp2_with fail
    refine (HB'.out _ hb4).mono ?_
    rintro e w5 ⟨rfl, hb5⟩
    have hb5' := below_chain hb4 hb4.size hb5
    go_wp2_with fail
    refine (HS.out _ hb5').mono ?_
    rintro e w6 ⟨rfl, hb6⟩
    have hb6' := below_chain hb5' hb5'.size hb6
    go_wp2_with fail
    refine (HS'.out _ hb6').mono ?_
    rintro e w7 ⟨rfl, hb7⟩
    have hb7' := below_chain hb6' hb6'.size hb7
    have hq7 := below_chain hq3 hq3.size hb7'
    go_wp2_with fail
    go_ret
    exact ⟨rfl, hq7⟩
end Go.Proofs.Ytgiciaeaibonbaa
