
/- The walk of the document's Absent. -/
import Derived.Test.YtpnfdfnbnoplgaaDoorRMerkX
import Derived.Test.YtpnfdfnbnoplgaaDoorRMerkY
namespace Go.Proofs.YtpnfdfnbnoplgaaDoor
open Go Go.RowKit
set_option linter.unusedVariables false
variable {w w' : World} {B : Nat}

set_option maxHeartbeats 4000000 in
theorem rabsent_any (rv : Value) (root : List UInt8) (key : ByteArray) (v : Value) (p : Pf) (w : World) (hks : key.size ≤ maxLen) (hrv : Rd w w.heap.size rv root) (hl : ProofV w w.heap.size v p) (fr : TypeId × Nat × Nat) (hk : w.heap[1]? = some (.cells kVals fr.1 fr.2)) :
    Calls Tryd.prog 18 #[rv, .string key, v] w fun e w' => e = .returned (.bool (absentB root key p)) ∧ Below w.heap.size w w' := by
  cases hkb : keyB key with
  | false =>
    have hres : Hid (absentB root key p = false) := Lib.hid (absentB_key hkb)
    have HKF := Lib.hid (fun W : World => rkey_any key W hks)
    obtain ⟨n, ls⟩ := p
    obtain ⟨lv, rfl, hlv, hn1, hn2⟩ := hl
    obtain ⟨Ar, cr, rfl⟩ := hrv.form
    obtain ⟨Al, cl, rfl, hlc, hlm, hlp⟩ := hlv
    dsimp only at hres hlc hlp ⊢
    have hbx : Below w.heap.size w (w.alloc (.cells #[.int .i64 n, .slice Al ls.length cl] 33)) := (Below.refl _ _).alloc (Nat.le_refl _) _
    generalize absentB root key ⟨n, ls⟩ = R at *
    clear hlp
    generalize ls.length = k at *
    go_enter Tryd.func18, Tryd.ntmps18
    go_wp2_with fail
    refine (HKF.out _).mono ?_
    rintro e w1 ⟨rfl, rfl⟩
    rw [hkb]
    clear hkb
    go_wp2_with fail
    go_ret
    exact ⟨by rw [hres.out]; rfl, hbx⟩
  | true =>
    obtain ⟨n, ls⟩ := p
    rcases ls with _ | ⟨l, _ | ⟨l2, _ | ⟨l3, ls⟩⟩⟩
    · have hnk := blk_lt hk
      have HK := Lib.hid hk
      clear hk
      have HV := Lib.hid (absentB_nil (root := root) (n := n) hkb)
      generalize absentB root key ⟨n, []⟩ = R at *
      have HKF := Lib.hid (fun W : World => rkey_any key W hks)
      obtain ⟨lv, rfl, hlv, hn1, hn2⟩ := hl
      have HRV := Lib.hid hrv
      obtain ⟨Ar, cr, rfl⟩ := hrv.form
      obtain ⟨Al, cl, rfl, hlc, hlm, hlp⟩ := hlv
      dsimp only at hlc hlp hn1 hn2 ⊢
      simp only [List.length_nil] at hlc ⊢
      have hbx : Below w.heap.size w (w.alloc (.cells #[.int .i64 n, .slice Al 0 cl] 33)) := (Below.refl _ _).alloc (Nat.le_refl _) _
      clear hlp hrv
      go_enter Tryd.func18, Tryd.ntmps18
      go_wp2_with fail
      refine (HKF.out _).mono ?_
      rintro e w1 ⟨rfl, rfl⟩
      rw [hkb]
      clear hkb
      by_cases h0 : n = 0
      · subst h0
        go_wp2_with fail
        refine (rn_any 0 _ (by omega)).mono ?_
        rintro e w2 ⟨v2, rfl, ho2, hb2⟩
        obtain ⟨A2, c2, rfl⟩ := ho2.form' (be_length 0 8)
        have hq2 := below_chain hbx hbx.size hb2
        have hp3 := partsA1 w2 (.slice A2 8 c2) (be 0 8) 23 ho2.rd
        have hx3 := hq2.alloc hq2.size (.cells #[.slice A2 8 c2] 23)
        have hk3 := (hx3.block _ hnk).trans HK.out
        clear ho2
        go_wp2_with fail
        refine (rtagged_any wRoot _ [be 0 8] _ hp3 (by unfold maxLen wRoot; decide) (by simp) fr hk3).mono ?_
        rintro e w4 ⟨v4, rfl, ho4, hb4⟩
        have hq4 := below_chain hx3 hx3.size hb4
        have hE : Hid (rootE = shaSum (formB (strBytes wRoot) ++ formBs [be 0 8])) := Lib.hid rfl
        have hr4 := ho4.rd
        rw [← hE.out] at hr4 ho4
        have hres : Hid (R = sameB rootE root) := Lib.hid (by rw [HV.out, sameB_comm]; rfl)
        clear HV hE
        obtain ⟨A4, c4, rfl⟩ := ho4.form
        clear ho4
        generalize rootE = E at *
        go_wp2_with fail
        refine (rsame_any _ _ E root w4 hr4 ((HRV.out.below hq4).more hq4.size)).mono ?_
        rintro e w5 ⟨rfl, rfl⟩
        go_wp2_with fail
        go_ret
        exact ⟨by rw [hres.out]; rfl, hq4⟩
      · have hres : Hid (R = false) := Lib.hid (by rw [HV.out, decide_eq_false h0]; rfl)
        have f0 : (n == 0) = false := by simpa using h0
        clear HV
        go_wp2_with fail
        go_ret
        exact ⟨by rw [hres.out]; rfl, hbx⟩
    · exact rabsent1_any rv root key v n l w hks hkb hrv hl fr hk
    · exact rabsent2_any rv root key v n l l2 w hks hkb hrv hl fr hk
    · have hres : Hid (absentB root key ⟨n, l :: l2 :: l3 :: ls⟩ = false) := Lib.hid (absentB_more (by simp))
      have HKF := Lib.hid (fun W : World => rkey_any key W hks)
      obtain ⟨lv, rfl, hlv, hn1, hn2⟩ := hl
      obtain ⟨Ar, cr, rfl⟩ := hrv.form
      obtain ⟨Al, cl, rfl, hlc, hlm, hlp⟩ := hlv
      dsimp only at hres hlc hlp ⊢
      have h3 : 3 ≤ (l :: l2 :: l3 :: ls).length := by simp
      have hbx : Below w.heap.size w (w.alloc (.cells #[.int .i64 n, .slice Al (l :: l2 :: l3 :: ls).length cl] 33)) := (Below.refl _ _).alloc (Nat.le_refl _) _
      generalize absentB root key ⟨n, l :: l2 :: l3 :: ls⟩ = R at *
      clear hlp
      generalize (l :: l2 :: l3 :: ls).length = k at *
      have f0 : ((k : Int) == 0) = false := by simp; omega
      have f1 : ((k : Int) == 1) = false := by simp; omega
      have f2 : ((k : Int) == 2) = false := by simp; omega
      go_enter Tryd.func18, Tryd.ntmps18
      go_wp2_with fail
      refine (HKF.out _).mono ?_
      rintro e w1 ⟨rfl, rfl⟩
      rw [hkb]
      clear hkb
      go_wp2_with fail
      go_ret
      exact ⟨by rw [hres.out]; rfl, hbx⟩
end Go.Proofs.YtpnfdfnbnoplgaaDoor
