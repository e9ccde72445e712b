
/- The walk of merkle's Absent. The walk of merkle's leafAt. Proofs of pairs: what is made holds, shows each key, and shows every other one not to be there. Mathematics alone. Leaves and proofs of the call's own. -/
import Derived.Test.YtmphegeiclgjbaaGreatDoorMerkE1
import Derived.Test.YtmphegeiclgjbaaGreatDoorBase0
import Derived.Test.YtmphegeiclgjbaaGreatDoorInfo1
import Derived.Test.YtmphegeiclgjbaaGreatDoorRowR0
namespace Go.Proofs.YtmphegeiclgjbaaGreatDoor
set_option maxRecDepth 100000
open Go Go.RowKit
set_option linter.unusedVariables false
variable {w w' : World} {B : Nat}

def absentB (root : List UInt8) (key : ByteArray) (p : Pf) : Bool := keyB key && match p.ls with
  | [] => decide (p.n = 0) && sameB root rootE
  | [l] => ((decide (l.at_ = 0) && !(ltS l.key key || l.key.toList == key.toList)) || (decide (l.at_ = IntKind.i64.wrap (p.n - 1)) && ltS l.key key)) && holdsB root p.n l
  | [a, b] => (decide (IntKind.i64.wrap (a.at_ + 1) = b.at_) && (ltS a.key key && ltS key b.key)) && (holdsB root p.n a && holdsB root p.n b)
  | _ => false
theorem absentB_key {root : List UInt8} {key : ByteArray} {p : Pf} (h : keyB key = false) : absentB root key p = false := by unfold absentB; rw [h]; rfl
theorem absentB_nil {root : List UInt8} {key : ByteArray} {n : Int} (h : keyB key = true) : absentB root key ⟨n, []⟩ = (decide (n = 0) && sameB root rootE) := by unfold absentB; rw [h]; rfl
theorem absentB_one {root : List UInt8} {key : ByteArray} {n : Int} {l : Lf} (h : keyB key = true) : absentB root key ⟨n, [l]⟩ = (((decide (l.at_ = 0) && !(ltS l.key key || l.key.toList == key.toList)) || (decide (l.at_ = IntKind.i64.wrap (n - 1)) && ltS l.key key)) && holdsB root n l) := by unfold absentB; rw [h]; rfl
theorem absentB_two {root : List UInt8} {key : ByteArray} {n : Int} {a b : Lf} (h : keyB key = true) : absentB root key ⟨n, [a, b]⟩ = ((decide (IntKind.i64.wrap (a.at_ + 1) = b.at_) && (ltS a.key key && ltS key b.key)) && (holdsB root n a && holdsB root n b)) := by unfold absentB; rw [h]; rfl
theorem absentB_more {root : List UInt8} {key : ByteArray} {n : Int} {ls : List Lf} (h3 : 3 ≤ ls.length) : absentB root key ⟨n, ls⟩ = false := by
  rcases ls with _ | ⟨a, _ | ⟨b, _ | ⟨c, l⟩⟩⟩
  · simp at h3
  · simp at h3
  · simp at h3
  · unfold absentB; simp
set_option maxHeartbeats 8000000 in
theorem absent_any (rv : Value) (root : List UInt8) (key : ByteArray) (v : Value) (p : Pf) (w : World) (hks : key.size ≤ maxLen) (hrv : Rd w w.heap.size rv root) (hl : ProofV w w.heap.size v p) (fr : TypeId × Nat × Nat) (hk : w.heap[0]? = some (.cells kVals fr.1 fr.2)) :
    Calls Tryz.prog 23 #[rv, .string key, v] w fun e w' => e = .returned (.bool (absentB root key p)) ∧ Below w.heap.size w w' := by
  have hnk := blk_lt hk
  have HK := Lib.hid hk
  clear hk
  obtain ⟨n, ls⟩ := p
  obtain ⟨lv, rfl, hlv, hn1, hn2⟩ := hl
  dsimp only at hlv hn1 hn2 ⊢
  have HRV := Lib.hid hrv
  obtain ⟨Ar, cr, rfl⟩ := hrv.form
  have HKF := Lib.hid (fun W : World => keyFits_any key W hks)
  obtain ⟨Al, cl, rfl, hlc, hlm, hlp⟩ := hlv
  unfold maxLen at hlm
  have hbx : Below w.heap.size w (w.alloc (.cells #[.int .i64 n, .slice Al ls.length cl] 41)) := (Below.refl _ _).alloc (Nat.le_refl _) _
  clear hrv hks
  cases hkb : keyB key with
  | false =>
    have hres : Hid (absentB root key ⟨n, ls⟩ = false) := Lib.hid (absentB_key hkb)
    generalize absentB root key ⟨n, ls⟩ = R at *
    clear hlp
    generalize ls.length = k at *
    go_enter Tryz.func23, Tryz.ntmps23
    go_wp2_with fail
    refine (HKF.out _).mono ?_
    rintro e w1 ⟨rfl, rfl⟩
    rw [hkb]
    clear hkb
    go_wp2_with fail
    go_ret
    exact ⟨by rw [hres.out]; rfl, hbx⟩
  | true =>
    rcases ls with _ | ⟨l, _ | ⟨l2, _ | ⟨l3, ls⟩⟩⟩
    · have HV := Lib.hid (absentB_nil (root := root) (n := n) hkb)
      generalize absentB root key ⟨n, []⟩ = R at *
      simp only [List.length_nil] at hbx ⊢
      clear hlp hlc
      by_cases h0 : n = 0
      · subst h0
        have hres : Hid (R = sameB root rootE) := Lib.hid (by rw [HV.out]; rfl)
        go_enter Tryz.func23, Tryz.ntmps23
        go_wp2_with fail
        refine (HKF.out _).mono ?_
        rintro e w1 ⟨rfl, rfl⟩
        rw [hkb]
        clear hkb
        go_wp2_with fail
        refine (emptyRoot_any _ fr ((hbx.block _ hnk).trans HK.out)).mono ?_
        rintro e w2 ⟨v2, rfl, ho2, hb2⟩
        have hq2 := below_chain hbx hbx.size hb2
        have hr2 := ho2.rd
        obtain ⟨A2, c2, rfl⟩ := ho2.form' (show rootE.length = 32 from tagH_length _ _)
        generalize rootE = z at *
        clear ho2
        go_wp2_with fail
        refine (equal_any _ _ root z w2 ((HRV.out.below hq2).more hq2.size) hr2).mono ?_
        rintro e w3 ⟨rfl, rfl⟩
        go_wp2_with fail
        go_ret
        exact ⟨by rw [hres.out]; rfl, hq2⟩
      · have hres : Hid (R = false) := Lib.hid (by rw [HV.out, decide_eq_false h0]; rfl)
        go_enter Tryz.func23, Tryz.ntmps23
        go_wp2_with fail
        refine (HKF.out _).mono ?_
        rintro e w1 ⟨rfl, rfl⟩
        rw [hkb]
        clear hkb
        go_wp2_with fail
        go_ret
        exact ⟨by rw [hres.out]; rfl, hbx⟩
    · obtain ⟨b, o, rfl, hbl, hc⟩ := hlp (by simp)
      obtain ⟨sv, pv, c0, c1, c2, c3, hlf⟩ := hc 0 (by simp)
      simp only [List.getElem_cons_zero, Nat.zero_mul, Nat.add_zero] at c0 c1 c2 c3 hlf
      have HV := Lib.hid (absentB_one (root := root) (n := n) (l := l) hkb)
      generalize absentB root key ⟨n, [l]⟩ = R at *
      obtain ⟨i, lk, lval, lpath⟩ := l
      dsimp only at c0 c1 c2 c3 HV
      have HLF := Lib.hid hlf
      obtain ⟨sv', pv', e, hsv, hpv, hks, ha1, ha2⟩ := hlf
      injection e with e
      injection e with e
      injection e with _ e
      injection e with _ e
      injection e with e1 e
      injection e with e2 e
      subst e1; subst e2
      obtain ⟨As, cs, rfl⟩ := hsv.form
      obtain ⟨Ap, cp, rfl⟩ := hpv.form
      dsimp only at hsv hpv hks ha1 ha2
      have d0 := (hbx.cell (p := ⟨b, o, none⟩) hbl).trans c0
      have d1 := (hbx.cell (p := ⟨b, o + 1, none⟩) hbl).trans c1
      have d2 := (hbx.cell (p := ⟨b, o + 2, none⟩) hbl).trans c2
      have d3 := (hbx.cell (p := ⟨b, o + 3, none⟩) hbl).trans c3
      clear hc hlp c0 c1 c2 c3 hsv hpv
      simp only [List.length_cons, List.length_nil, Nat.zero_add] at hlc hbx d0 d1 d2 d3 ⊢
      have i0 : (1 : Int) ≤ (cl : Int) := by omega
      have HHO := Lib.hid (fun (w1 : World) (hb : Below w.heap.size w w1) => holdsM_any _ root n _ ⟨i, lk, lval, lpath⟩ w1 ((HRV.out.below hb).more hb.size) ((HLF.out.below hb).more hb.size) fr ((hb.block _ hnk).trans HK.out))
      have hby := hbx.alloc hbx.size (.cells #[.int .i64 i, .string lk, .slice As lval.length cs, .slice Ap lpath.length cp] 111)
      have HBY := Lib.hid hby
      clear HLF hbx
      by_cases hc : (i = 0) ∧ (lk.toList == key.toList) = true ∧ (i = IntKind.i64.wrap (n - 1)) ∧ ltS lk key = true
      · obtain ⟨hA, hB, hC, hD⟩ := hc
        have hres : Hid (R = holdsB root n ⟨i, lk, lval, lpath⟩) := Lib.hid (by
          rw [HV.out]
          rw [hB, hD, decide_eq_true hA, decide_eq_true hC]
          rfl)
        clear HV
        have hD2 : Op.bytesLess lk.toList key.toList = true := hD
        clear hD
        subst hA
        have hW : IntKind.i64.wrap (n - 1) = 0 := hC.symm
        clear hC
        go_enter Tryz.func23, Tryz.ntmps23
        go_wp2_with fail
        refine (HKF.out _).mono ?_
        rintro e w1 ⟨rfl, rfl⟩
        rw [hkb]
        clear hkb
        go_wp2_with fail
        refine (HHO.out _ HBY.out).mono ?_
        rintro e w2 ⟨rfl, hb2⟩
        have hq2 := below_chain HBY.out HBY.out.size hb2
        go_wp2_with fail
        go_ret
        exact ⟨by rw [hres.out]; rfl, hq2⟩
      by_cases hc : (i = 0) ∧ (lk.toList == key.toList) = true ∧ (i = IntKind.i64.wrap (n - 1)) ∧ ltS lk key = false
      · obtain ⟨hA, hB, hC, hD⟩ := hc
        have hres : Hid (R = false) := Lib.hid (by
          rw [HV.out]
          rw [hB, hD, decide_eq_true hA, decide_eq_true hC]
          rfl)
        clear HV
        have hD2 : Op.bytesLess lk.toList key.toList = false := hD
        clear hD
        subst hA
        have hW : IntKind.i64.wrap (n - 1) = 0 := hC.symm
        clear hC
        go_enter Tryz.func23, Tryz.ntmps23
        go_wp2_with fail
        refine (HKF.out _).mono ?_
        rintro e w1 ⟨rfl, rfl⟩
        rw [hkb]
        clear hkb
        go_wp2_with fail
        go_ret
        exact ⟨by rw [hres.out]; rfl, HBY.out⟩
      by_cases hc : (i = 0) ∧ (lk.toList == key.toList) = true ∧ (¬ i = IntKind.i64.wrap (n - 1)) ∧ ltS lk key = true
      · obtain ⟨hA, hB, hC, hD⟩ := hc
        have hres : Hid (R = false) := Lib.hid (by
          rw [HV.out]
          rw [hB, hD, decide_eq_true hA, decide_eq_false hC]
          rfl)
        clear HV
        have hD2 : Op.bytesLess lk.toList key.toList = true := hD
        clear hD
        subst hA
        obtain ⟨W, hW⟩ : ∃ W, IntKind.i64.wrap (n - 1) = W := ⟨_, rfl⟩
        rw [hW] at hC
        go_enter Tryz.func23, Tryz.ntmps23
        go_wp2_with fail
        refine (HKF.out _).mono ?_
        rintro e w1 ⟨rfl, rfl⟩
        rw [hkb]
        clear hkb
        go_wp2_with fail
        go_ret
        exact ⟨by rw [hres.out]; rfl, HBY.out⟩
      by_cases hc : (i = 0) ∧ (lk.toList == key.toList) = true ∧ (¬ i = IntKind.i64.wrap (n - 1)) ∧ ltS lk key = false
      · obtain ⟨hA, hB, hC, hD⟩ := hc
        have hres : Hid (R = false) := Lib.hid (by
          rw [HV.out]
          rw [hB, hD, decide_eq_true hA, decide_eq_false hC]
          rfl)
        clear HV
        have hD2 : Op.bytesLess lk.toList key.toList = false := hD
        clear hD
        subst hA
        obtain ⟨W, hW⟩ : ∃ W, IntKind.i64.wrap (n - 1) = W := ⟨_, rfl⟩
        rw [hW] at hC
        go_enter Tryz.func23, Tryz.ntmps23
        go_wp2_with fail
        refine (HKF.out _).mono ?_
        rintro e w1 ⟨rfl, rfl⟩
        rw [hkb]
        clear hkb
        go_wp2_with fail
        go_ret
        exact ⟨by rw [hres.out]; rfl, HBY.out⟩
      by_cases hc : (i = 0) ∧ (lk.toList == key.toList) = false ∧ (i = IntKind.i64.wrap (n - 1)) ∧ ltS lk key = true
      · obtain ⟨hA, hB, hC, hD⟩ := hc
        have hres : Hid (R = holdsB root n ⟨i, lk, lval, lpath⟩) := Lib.hid (by
          rw [HV.out]
          rw [hB, hD, decide_eq_true hA, decide_eq_true hC]
          rfl)
        clear HV
        have hD2 : Op.bytesLess lk.toList key.toList = true := hD
        clear hD
        subst hA
        have hW : IntKind.i64.wrap (n - 1) = 0 := hC.symm
        clear hC
        go_enter Tryz.func23, Tryz.ntmps23
        go_wp2_with fail
        refine (HKF.out _).mono ?_
        rintro e w1 ⟨rfl, rfl⟩
        rw [hkb]
        clear hkb
        go_wp2_with fail
        refine (HHO.out _ HBY.out).mono ?_
        rintro e w2 ⟨rfl, hb2⟩
        have hq2 := below_chain HBY.out HBY.out.size hb2
        go_wp2_with fail
        go_ret
        exact ⟨by rw [hres.out]; rfl, hq2⟩
      by_cases hc : (i = 0) ∧ (lk.toList == key.toList) = false ∧ (i = IntKind.i64.wrap (n - 1)) ∧ ltS lk key = false
      · obtain ⟨hA, hB, hC, hD⟩ := hc
        have hres : Hid (R = holdsB root n ⟨i, lk, lval, lpath⟩) := Lib.hid (by
          rw [HV.out]
          rw [hB, hD, decide_eq_true hA, decide_eq_true hC]
          rfl)
        clear HV
        have hD2 : Op.bytesLess lk.toList key.toList = false := hD
        clear hD
        subst hA
        have hW : IntKind.i64.wrap (n - 1) = 0 := hC.symm
        clear hC
        go_enter Tryz.func23, Tryz.ntmps23
        go_wp2_with fail
        refine (HKF.out _).mono ?_
        rintro e w1 ⟨rfl, rfl⟩
        rw [hkb]
        clear hkb
        go_wp2_with fail
        refine (HHO.out _ HBY.out).mono ?_
        rintro e w2 ⟨rfl, hb2⟩
        have hq2 := below_chain HBY.out HBY.out.size hb2
        go_wp2_with fail
        go_ret
        exact ⟨by rw [hres.out]; rfl, hq2⟩
      by_cases hc : (i = 0) ∧ (lk.toList == key.toList) = false ∧ (¬ i = IntKind.i64.wrap (n - 1)) ∧ ltS lk key = true
      · obtain ⟨hA, hB, hC, hD⟩ := hc
        have hres : Hid (R = false) := Lib.hid (by
          rw [HV.out]
          rw [hB, hD, decide_eq_true hA, decide_eq_false hC]
          rfl)
        clear HV
        have hD2 : Op.bytesLess lk.toList key.toList = true := hD
        clear hD
        subst hA
        obtain ⟨W, hW⟩ : ∃ W, IntKind.i64.wrap (n - 1) = W := ⟨_, rfl⟩
        rw [hW] at hC
        go_enter Tryz.func23, Tryz.ntmps23
        go_wp2_with fail
        refine (HKF.out _).mono ?_
        rintro e w1 ⟨rfl, rfl⟩
        rw [hkb]
        clear hkb
        go_wp2_with fail
        go_ret
        exact ⟨by rw [hres.out]; rfl, HBY.out⟩
      by_cases hc : (i = 0) ∧ (lk.toList == key.toList) = false ∧ (¬ i = IntKind.i64.wrap (n - 1)) ∧ ltS lk key = false
      · obtain ⟨hA, hB, hC, hD⟩ := hc
        have hres : Hid (R = holdsB root n ⟨i, lk, lval, lpath⟩) := Lib.hid (by
          rw [HV.out]
          rw [hB, hD, decide_eq_true hA, decide_eq_false hC]
          rfl)
        clear HV
        have hD2 : Op.bytesLess lk.toList key.toList = false := hD
        clear hD
        subst hA
        obtain ⟨W, hW⟩ : ∃ W, IntKind.i64.wrap (n - 1) = W := ⟨_, rfl⟩
        rw [hW] at hC
        go_enter Tryz.func23, Tryz.ntmps23
        go_wp2_with fail
        refine (HKF.out _).mono ?_
        rintro e w1 ⟨rfl, rfl⟩
        rw [hkb]
        clear hkb
        go_wp2_with fail
        refine (HHO.out _ HBY.out).mono ?_
        rintro e w2 ⟨rfl, hb2⟩
        have hq2 := below_chain HBY.out HBY.out.size hb2
        go_wp2_with fail
        go_ret
        exact ⟨by rw [hres.out]; rfl, hq2⟩
      by_cases hc : (¬ i = 0) ∧ (lk.toList == key.toList) = true ∧ (i = IntKind.i64.wrap (n - 1)) ∧ ltS lk key = true
      · obtain ⟨hA, hB, hC, hD⟩ := hc
        have hres : Hid (R = holdsB root n ⟨i, lk, lval, lpath⟩) := Lib.hid (by
          rw [HV.out]
          rw [hB, hD, decide_eq_false hA, decide_eq_true hC]
          rfl)
        clear HV
        have hD2 : Op.bytesLess lk.toList key.toList = true := hD
        clear hD
        have hW : IntKind.i64.wrap (n - 1) = i := hC.symm
        clear hC
        go_enter Tryz.func23, Tryz.ntmps23
        go_wp2_with fail
        refine (HKF.out _).mono ?_
        rintro e w1 ⟨rfl, rfl⟩
        rw [hkb]
        clear hkb
        go_wp2_with fail
        refine (HHO.out _ HBY.out).mono ?_
        rintro e w2 ⟨rfl, hb2⟩
        have hq2 := below_chain HBY.out HBY.out.size hb2
        go_wp2_with fail
        go_ret
        exact ⟨by rw [hres.out]; rfl, hq2⟩
      by_cases hc : (¬ i = 0) ∧ (lk.toList == key.toList) = true ∧ (i = IntKind.i64.wrap (n - 1)) ∧ ltS lk key = false
      · obtain ⟨hA, hB, hC, hD⟩ := hc
        have hres : Hid (R = false) := Lib.hid (by
          rw [HV.out]
          rw [hB, hD, decide_eq_false hA, decide_eq_true hC]
          rfl)
        clear HV
        have hD2 : Op.bytesLess lk.toList key.toList = false := hD
        clear hD
        have hW : IntKind.i64.wrap (n - 1) = i := hC.symm
        clear hC
        go_enter Tryz.func23, Tryz.ntmps23
        go_wp2_with fail
        refine (HKF.out _).mono ?_
        rintro e w1 ⟨rfl, rfl⟩
        rw [hkb]
        clear hkb
        go_wp2_with fail
        go_ret
        exact ⟨by rw [hres.out]; rfl, HBY.out⟩
      by_cases hc : (¬ i = 0) ∧ (lk.toList == key.toList) = true ∧ (¬ i = IntKind.i64.wrap (n - 1)) ∧ ltS lk key = true
      · obtain ⟨hA, hB, hC, hD⟩ := hc
        have hres : Hid (R = false) := Lib.hid (by
          rw [HV.out]
          rw [hB, hD, decide_eq_false hA, decide_eq_false hC]
          rfl)
        clear HV
        have hD2 : Op.bytesLess lk.toList key.toList = true := hD
        clear hD
        obtain ⟨W, hW⟩ : ∃ W, IntKind.i64.wrap (n - 1) = W := ⟨_, rfl⟩
        rw [hW] at hC
        go_enter Tryz.func23, Tryz.ntmps23
        go_wp2_with fail
        refine (HKF.out _).mono ?_
        rintro e w1 ⟨rfl, rfl⟩
        rw [hkb]
        clear hkb
        go_wp2_with fail
        go_ret
        exact ⟨by rw [hres.out]; rfl, HBY.out⟩
      by_cases hc : (¬ i = 0) ∧ (lk.toList == key.toList) = true ∧ (¬ i = IntKind.i64.wrap (n - 1)) ∧ ltS lk key = false
      · obtain ⟨hA, hB, hC, hD⟩ := hc
        have hres : Hid (R = false) := Lib.hid (by
          rw [HV.out]
          rw [hB, hD, decide_eq_false hA, decide_eq_false hC]
          rfl)
        clear HV
        have hD2 : Op.bytesLess lk.toList key.toList = false := hD
        clear hD
        obtain ⟨W, hW⟩ : ∃ W, IntKind.i64.wrap (n - 1) = W := ⟨_, rfl⟩
        rw [hW] at hC
        go_enter Tryz.func23, Tryz.ntmps23
        go_wp2_with fail
        refine (HKF.out _).mono ?_
        rintro e w1 ⟨rfl, rfl⟩
        rw [hkb]
        clear hkb
        go_wp2_with fail
        go_ret
        exact ⟨by rw [hres.out]; rfl, HBY.out⟩
      by_cases hc : (¬ i = 0) ∧ (lk.toList == key.toList) = false ∧ (i = IntKind.i64.wrap (n - 1)) ∧ ltS lk key = true
      · obtain ⟨hA, hB, hC, hD⟩ := hc
        have hres : Hid (R = holdsB root n ⟨i, lk, lval, lpath⟩) := Lib.hid (by
          rw [HV.out]
          rw [hB, hD, decide_eq_false hA, decide_eq_true hC]
          rfl)
        clear HV
        have hD2 : Op.bytesLess lk.toList key.toList = true := hD
        clear hD
        have hW : IntKind.i64.wrap (n - 1) = i := hC.symm
        clear hC
        go_enter Tryz.func23, Tryz.ntmps23
        go_wp2_with fail
        refine (HKF.out _).mono ?_
        rintro e w1 ⟨rfl, rfl⟩
        rw [hkb]
        clear hkb
        go_wp2_with fail
        refine (HHO.out _ HBY.out).mono ?_
        rintro e w2 ⟨rfl, hb2⟩
        have hq2 := below_chain HBY.out HBY.out.size hb2
        go_wp2_with fail
        go_ret
        exact ⟨by rw [hres.out]; rfl, hq2⟩
      by_cases hc : (¬ i = 0) ∧ (lk.toList == key.toList) = false ∧ (i = IntKind.i64.wrap (n - 1)) ∧ ltS lk key = false
      · obtain ⟨hA, hB, hC, hD⟩ := hc
        have hres : Hid (R = false) := Lib.hid (by
          rw [HV.out]
          rw [hB, hD, decide_eq_false hA, decide_eq_true hC]
          rfl)
        clear HV
        have hD2 : Op.bytesLess lk.toList key.toList = false := hD
        clear hD
        have hW : IntKind.i64.wrap (n - 1) = i := hC.symm
        clear hC
        go_enter Tryz.func23, Tryz.ntmps23
        go_wp2_with fail
        refine (HKF.out _).mono ?_
        rintro e w1 ⟨rfl, rfl⟩
        rw [hkb]
        clear hkb
        go_wp2_with fail
        go_ret
        exact ⟨by rw [hres.out]; rfl, HBY.out⟩
      by_cases hc : (¬ i = 0) ∧ (lk.toList == key.toList) = false ∧ (¬ i = IntKind.i64.wrap (n - 1)) ∧ ltS lk key = true
      · obtain ⟨hA, hB, hC, hD⟩ := hc
        have hres : Hid (R = false) := Lib.hid (by
          rw [HV.out]
          rw [hB, hD, decide_eq_false hA, decide_eq_false hC]
          rfl)
        clear HV
        have hD2 : Op.bytesLess lk.toList key.toList = true := hD
        clear hD
        obtain ⟨W, hW⟩ : ∃ W, IntKind.i64.wrap (n - 1) = W := ⟨_, rfl⟩
        rw [hW] at hC
        go_enter Tryz.func23, Tryz.ntmps23
        go_wp2_with fail
        refine (HKF.out _).mono ?_
        rintro e w1 ⟨rfl, rfl⟩
        rw [hkb]
        clear hkb
        go_wp2_with fail
        go_ret
        exact ⟨by rw [hres.out]; rfl, HBY.out⟩
      by_cases hc : (¬ i = 0) ∧ (lk.toList == key.toList) = false ∧ (¬ i = IntKind.i64.wrap (n - 1)) ∧ ltS lk key = false
      · obtain ⟨hA, hB, hC, hD⟩ := hc
        have hres : Hid (R = false) := Lib.hid (by
          rw [HV.out]
          rw [hB, hD, decide_eq_false hA, decide_eq_false hC]
          rfl)
        clear HV
        have hD2 : Op.bytesLess lk.toList key.toList = false := hD
        clear hD
        obtain ⟨W, hW⟩ : ∃ W, IntKind.i64.wrap (n - 1) = W := ⟨_, rfl⟩
        rw [hW] at hC
        go_enter Tryz.func23, Tryz.ntmps23
        go_wp2_with fail
        refine (HKF.out _).mono ?_
        rintro e w1 ⟨rfl, rfl⟩
        rw [hkb]
        clear hkb
        go_wp2_with fail
        go_ret
        exact ⟨by rw [hres.out]; rfl, HBY.out⟩
      · exfalso
        cases (lk.toList == key.toList) <;> cases ltS lk key <;> by_cases i = 0 <;> by_cases i = IntKind.i64.wrap (n - 1) <;> simp_all
    · obtain ⟨b, o, rfl, hbl, hc⟩ := hlp (by simp)
      obtain ⟨sv, pv, c0, c1, c2, c3, hlf⟩ := hc 0 (by simp)
      obtain ⟨sv2, pv2, k0, k1, k2, k3, hlf2⟩ := hc 1 (by simp)
      simp only [List.getElem_cons_zero, List.getElem_cons_succ, Nat.zero_mul, Nat.one_mul, Nat.add_zero] at c0 c1 c2 c3 hlf k0 k1 k2 k3 hlf2
      have HV := Lib.hid (absentB_two (root := root) (n := n) (a := l) (b := l2) hkb)
      generalize absentB root key ⟨n, [l, l2]⟩ = R at *
      obtain ⟨i, lk, lval, lpath⟩ := l
      obtain ⟨i2, lk2, lval2, lpath2⟩ := l2
      dsimp only at c0 c1 c2 c3 k0 k1 k2 k3 HV
      have HLF := Lib.hid hlf
      have HLF2 := Lib.hid hlf2
      obtain ⟨sv', pv', e, hsv, hpv, hks, ha1, ha2⟩ := hlf
      injection e with e
      injection e with e
      injection e with _ e
      injection e with _ e
      injection e with e1 e
      injection e with e2 e
      subst e1; subst e2
      obtain ⟨As, cs, rfl⟩ := hsv.form
      obtain ⟨Ap, cp, rfl⟩ := hpv.form
      obtain ⟨sv', pv', e, hsv2, hpv2, hks2, hb1, hb2⟩ := hlf2
      injection e with e
      injection e with e
      injection e with _ e
      injection e with _ e
      injection e with e1 e
      injection e with e2 e
      subst e1; subst e2
      obtain ⟨As2, cs2, rfl⟩ := hsv2.form
      obtain ⟨Ap2, cp2, rfl⟩ := hpv2.form
      dsimp only at hsv hpv hks ha1 ha2 hsv2 hpv2 hks2 hb1 hb2
      have d0 := (hbx.cell (p := ⟨b, o, none⟩) hbl).trans c0
      have d1 := (hbx.cell (p := ⟨b, o + 1, none⟩) hbl).trans c1
      have d2 := (hbx.cell (p := ⟨b, o + 2, none⟩) hbl).trans c2
      have d3 := (hbx.cell (p := ⟨b, o + 3, none⟩) hbl).trans c3
      have f0 := (hbx.cell (p := ⟨b, o + 4, none⟩) hbl).trans k0
      have f1 := (hbx.cell (p := ⟨b, o + 4 + 1, none⟩) hbl).trans k1
      have f2 := (hbx.cell (p := ⟨b, o + 4 + 2, none⟩) hbl).trans k2
      have f3 := (hbx.cell (p := ⟨b, o + 4 + 3, none⟩) hbl).trans k3
      clear hc hlp c0 c1 c2 c3 hsv hpv k0 k1 k2 k3 hsv2 hpv2
      simp only [List.length_cons, List.length_nil, Nat.zero_add, Nat.reduceAdd] at hlc hbx d0 d1 d2 d3 f0 f1 f2 f3 ⊢
      have i0 : (2 : Int) ≤ (cl : Int) := by omega
      have HHO := Lib.hid (fun (w1 : World) (hb : Below w.heap.size w w1) => holdsM_any _ root n _ ⟨i, lk, lval, lpath⟩ w1 ((HRV.out.below hb).more hb.size) ((HLF.out.below hb).more hb.size) fr ((hb.block _ hnk).trans HK.out))
      have HHO2 := Lib.hid (fun (w1 : World) (hb : Below w.heap.size w w1) => holdsM_any _ root n _ ⟨i2, lk2, lval2, lpath2⟩ w1 ((HRV.out.below hb).more hb.size) ((HLF2.out.below hb).more hb.size) fr ((hb.block _ hnk).trans HK.out))
      go_enter Tryz.func23, Tryz.ntmps23
      go_wp2_with fail
      refine (HKF.out _).mono ?_
      rintro e w1 ⟨rfl, rfl⟩
      rw [hkb]
      clear hkb
      have hZ : ∀ (W : World), b < W.heap.size → ∀ (Z : Obj) (q : Nat) (x : Value), W.cell? ⟨b, q, none⟩ = some x → (W.alloc Z).cell? ⟨b, q, none⟩ = some x := fun W hW Z q x h => (World.cell?_alloc_lt W _ ⟨b, q, none⟩ hW).trans h
      have hs1 : b < (w.alloc (.cells #[.int .i64 n, .slice (some ⟨b, o, none⟩) 2 cl] 41)).heap.size := by simp; omega
      have hs2 : ∀ X : Obj, b < ((w.alloc (.cells #[.int .i64 n, .slice (some ⟨b, o, none⟩) 2 cl] 41)).alloc X).heap.size := fun X => by simp; omega
      have gzd0 := hZ _ hs1 (.cells #[.int .i64 0, .string ⟨#[]⟩, .slice none 0 0, .slice none 0 0] 111) _ _ d0
      have gzzd0 := hZ _ (hs2 _) (.cells #[.int .i64 0, .string ⟨#[]⟩, .slice none 0 0, .slice none 0 0] 111) _ _ gzd0
      have gzod0 := hZ _ (hs2 _) (.cells #[.int .i64 i2, .string lk2, .slice As2 lval2.length cs2, .slice Ap2 lpath2.length cp2] 111) _ _ gzd0
      have god0 := hZ _ hs1 (.cells #[.int .i64 i2, .string lk2, .slice As2 lval2.length cs2, .slice Ap2 lpath2.length cp2] 111) _ _ d0
      have gozd0 := hZ _ (hs2 _) (.cells #[.int .i64 0, .string ⟨#[]⟩, .slice none 0 0, .slice none 0 0] 111) _ _ god0
      have gzd1 := hZ _ hs1 (.cells #[.int .i64 0, .string ⟨#[]⟩, .slice none 0 0, .slice none 0 0] 111) _ _ d1
      have gzzd1 := hZ _ (hs2 _) (.cells #[.int .i64 0, .string ⟨#[]⟩, .slice none 0 0, .slice none 0 0] 111) _ _ gzd1
      have gzod1 := hZ _ (hs2 _) (.cells #[.int .i64 i2, .string lk2, .slice As2 lval2.length cs2, .slice Ap2 lpath2.length cp2] 111) _ _ gzd1
      have god1 := hZ _ hs1 (.cells #[.int .i64 i2, .string lk2, .slice As2 lval2.length cs2, .slice Ap2 lpath2.length cp2] 111) _ _ d1
      have gozd1 := hZ _ (hs2 _) (.cells #[.int .i64 0, .string ⟨#[]⟩, .slice none 0 0, .slice none 0 0] 111) _ _ god1
      have gzd2 := hZ _ hs1 (.cells #[.int .i64 0, .string ⟨#[]⟩, .slice none 0 0, .slice none 0 0] 111) _ _ d2
      have gzzd2 := hZ _ (hs2 _) (.cells #[.int .i64 0, .string ⟨#[]⟩, .slice none 0 0, .slice none 0 0] 111) _ _ gzd2
      have gzod2 := hZ _ (hs2 _) (.cells #[.int .i64 i2, .string lk2, .slice As2 lval2.length cs2, .slice Ap2 lpath2.length cp2] 111) _ _ gzd2
      have god2 := hZ _ hs1 (.cells #[.int .i64 i2, .string lk2, .slice As2 lval2.length cs2, .slice Ap2 lpath2.length cp2] 111) _ _ d2
      have gozd2 := hZ _ (hs2 _) (.cells #[.int .i64 0, .string ⟨#[]⟩, .slice none 0 0, .slice none 0 0] 111) _ _ god2
      have gzd3 := hZ _ hs1 (.cells #[.int .i64 0, .string ⟨#[]⟩, .slice none 0 0, .slice none 0 0] 111) _ _ d3
      have gzzd3 := hZ _ (hs2 _) (.cells #[.int .i64 0, .string ⟨#[]⟩, .slice none 0 0, .slice none 0 0] 111) _ _ gzd3
      have gzod3 := hZ _ (hs2 _) (.cells #[.int .i64 i2, .string lk2, .slice As2 lval2.length cs2, .slice Ap2 lpath2.length cp2] 111) _ _ gzd3
      have god3 := hZ _ hs1 (.cells #[.int .i64 i2, .string lk2, .slice As2 lval2.length cs2, .slice Ap2 lpath2.length cp2] 111) _ _ d3
      have gozd3 := hZ _ (hs2 _) (.cells #[.int .i64 0, .string ⟨#[]⟩, .slice none 0 0, .slice none 0 0] 111) _ _ god3
      have gzf0 := hZ _ hs1 (.cells #[.int .i64 0, .string ⟨#[]⟩, .slice none 0 0, .slice none 0 0] 111) _ _ f0
      have gzzf0 := hZ _ (hs2 _) (.cells #[.int .i64 0, .string ⟨#[]⟩, .slice none 0 0, .slice none 0 0] 111) _ _ gzf0
      have gzof0 := hZ _ (hs2 _) (.cells #[.int .i64 i, .string lk, .slice As lval.length cs, .slice Ap lpath.length cp] 111) _ _ gzf0
      have gof0 := hZ _ hs1 (.cells #[.int .i64 i, .string lk, .slice As lval.length cs, .slice Ap lpath.length cp] 111) _ _ f0
      have gozf0 := hZ _ (hs2 _) (.cells #[.int .i64 0, .string ⟨#[]⟩, .slice none 0 0, .slice none 0 0] 111) _ _ gof0
      have gzf1 := hZ _ hs1 (.cells #[.int .i64 0, .string ⟨#[]⟩, .slice none 0 0, .slice none 0 0] 111) _ _ f1
      have gzzf1 := hZ _ (hs2 _) (.cells #[.int .i64 0, .string ⟨#[]⟩, .slice none 0 0, .slice none 0 0] 111) _ _ gzf1
      have gzof1 := hZ _ (hs2 _) (.cells #[.int .i64 i, .string lk, .slice As lval.length cs, .slice Ap lpath.length cp] 111) _ _ gzf1
      have gof1 := hZ _ hs1 (.cells #[.int .i64 i, .string lk, .slice As lval.length cs, .slice Ap lpath.length cp] 111) _ _ f1
      have gozf1 := hZ _ (hs2 _) (.cells #[.int .i64 0, .string ⟨#[]⟩, .slice none 0 0, .slice none 0 0] 111) _ _ gof1
      have gzf2 := hZ _ hs1 (.cells #[.int .i64 0, .string ⟨#[]⟩, .slice none 0 0, .slice none 0 0] 111) _ _ f2
      have gzzf2 := hZ _ (hs2 _) (.cells #[.int .i64 0, .string ⟨#[]⟩, .slice none 0 0, .slice none 0 0] 111) _ _ gzf2
      have gzof2 := hZ _ (hs2 _) (.cells #[.int .i64 i, .string lk, .slice As lval.length cs, .slice Ap lpath.length cp] 111) _ _ gzf2
      have gof2 := hZ _ hs1 (.cells #[.int .i64 i, .string lk, .slice As lval.length cs, .slice Ap lpath.length cp] 111) _ _ f2
      have gozf2 := hZ _ (hs2 _) (.cells #[.int .i64 0, .string ⟨#[]⟩, .slice none 0 0, .slice none 0 0] 111) _ _ gof2
      have gzf3 := hZ _ hs1 (.cells #[.int .i64 0, .string ⟨#[]⟩, .slice none 0 0, .slice none 0 0] 111) _ _ f3
      have gzzf3 := hZ _ (hs2 _) (.cells #[.int .i64 0, .string ⟨#[]⟩, .slice none 0 0, .slice none 0 0] 111) _ _ gzf3
      have gzof3 := hZ _ (hs2 _) (.cells #[.int .i64 i, .string lk, .slice As lval.length cs, .slice Ap lpath.length cp] 111) _ _ gzf3
      have gof3 := hZ _ hs1 (.cells #[.int .i64 i, .string lk, .slice As lval.length cs, .slice Ap lpath.length cp] 111) _ _ f3
      have gozf3 := hZ _ (hs2 _) (.cells #[.int .i64 0, .string ⟨#[]⟩, .slice none 0 0, .slice none 0 0] 111) _ _ gof3
      clear hZ
      have hE1 := (hbx.alloc hbx.size (.cells #[.int .i64 i, .string lk, .slice As lval.length cs, .slice Ap lpath.length cp] 111)).alloc (hbx.alloc hbx.size (.cells #[.int .i64 i, .string lk, .slice As lval.length cs, .slice Ap lpath.length cp] 111)).size (.cells #[.int .i64 i2, .string lk2, .slice As2 lval2.length cs2, .slice Ap2 lpath2.length cp2] 111)
      have hE2 := (hbx.alloc hbx.size (.cells #[.int .i64 i2, .string lk2, .slice As2 lval2.length cs2, .slice Ap2 lpath2.length cp2] 111)).alloc (hbx.alloc hbx.size (.cells #[.int .i64 i2, .string lk2, .slice As2 lval2.length cs2, .slice Ap2 lpath2.length cp2] 111)).size (.cells #[.int .i64 i, .string lk, .slice As lval.length cs, .slice Ap lpath.length cp] 111)
      have HU := Lib.hid (fun X Y : Obj => (World.cell?_alloc_lt ((w.alloc (.cells #[.int .i64 n, .slice (some ⟨b, o, none⟩) 2 cl] 41)).alloc X) Y ⟨w.heap.size, 0, none⟩ (by simp; omega)).trans ((World.cell?_alloc_lt (w.alloc (.cells #[.int .i64 n, .slice (some ⟨b, o, none⟩) 2 cl] 41)) X ⟨w.heap.size, 0, none⟩ (by simp)).trans (blk_cell (heap_alloc_new w (.cells #[.int .i64 n, .slice (some ⟨b, o, none⟩) 2 cl] 41)) 0)))
      have HQ10 : Hid ((((w.alloc (.cells #[.int .i64 n, .slice (some ⟨b, o, none⟩) 2 cl] 41)).alloc (.cells #[.int .i64 i, .string lk, .slice As lval.length cs, .slice Ap lpath.length cp] 111)).alloc (.cells #[.int .i64 i2, .string lk2, .slice As2 lval2.length cs2, .slice Ap2 lpath2.length cp2] 111)).cell? ⟨w.heap.size + 2, 0, none⟩ = some (.int .i64 i2)) := Lib.hid (by
        have h := blk_cell (heap_alloc_new ((w.alloc (.cells #[.int .i64 n, .slice (some ⟨b, o, none⟩) 2 cl] 41)).alloc (.cells #[.int .i64 i, .string lk, .slice As lval.length cs, .slice Ap lpath.length cp] 111)) (.cells #[.int .i64 i2, .string lk2, .slice As2 lval2.length cs2, .slice Ap2 lpath2.length cp2] 111)) 0
        rw [show ((w.alloc (.cells #[.int .i64 n, .slice (some ⟨b, o, none⟩) 2 cl] 41)).alloc (.cells #[.int .i64 i, .string lk, .slice As lval.length cs, .slice Ap lpath.length cp] 111)).heap.size = w.heap.size + 2 by simp] at h
        exact h)
      have HQ20 : Hid ((((w.alloc (.cells #[.int .i64 n, .slice (some ⟨b, o, none⟩) 2 cl] 41)).alloc (.cells #[.int .i64 i2, .string lk2, .slice As2 lval2.length cs2, .slice Ap2 lpath2.length cp2] 111)).alloc (.cells #[.int .i64 i, .string lk, .slice As lval.length cs, .slice Ap lpath.length cp] 111)).cell? ⟨w.heap.size + 1, 0, none⟩ = some (.int .i64 i2)) := Lib.hid (by
        have h := blk_cell (heap_alloc_new (w.alloc (.cells #[.int .i64 n, .slice (some ⟨b, o, none⟩) 2 cl] 41)) (.cells #[.int .i64 i2, .string lk2, .slice As2 lval2.length cs2, .slice Ap2 lpath2.length cp2] 111)) 0
        rw [show (w.alloc (.cells #[.int .i64 n, .slice (some ⟨b, o, none⟩) 2 cl] 41)).heap.size = w.heap.size + 1 by simp] at h
        exact (World.cell?_alloc_lt ((w.alloc (.cells #[.int .i64 n, .slice (some ⟨b, o, none⟩) 2 cl] 41)).alloc (.cells #[.int .i64 i2, .string lk2, .slice As2 lval2.length cs2, .slice Ap2 lpath2.length cp2] 111)) (.cells #[.int .i64 i, .string lk, .slice As lval.length cs, .slice Ap lpath.length cp] 111) ⟨w.heap.size + 1, 0, none⟩ (by simp)).trans h)
      have HQ11 : Hid ((((w.alloc (.cells #[.int .i64 n, .slice (some ⟨b, o, none⟩) 2 cl] 41)).alloc (.cells #[.int .i64 i, .string lk, .slice As lval.length cs, .slice Ap lpath.length cp] 111)).alloc (.cells #[.int .i64 i2, .string lk2, .slice As2 lval2.length cs2, .slice Ap2 lpath2.length cp2] 111)).cell? ⟨w.heap.size + 2, 1, none⟩ = some (.string lk2)) := Lib.hid (by
        have h := blk_cell (heap_alloc_new ((w.alloc (.cells #[.int .i64 n, .slice (some ⟨b, o, none⟩) 2 cl] 41)).alloc (.cells #[.int .i64 i, .string lk, .slice As lval.length cs, .slice Ap lpath.length cp] 111)) (.cells #[.int .i64 i2, .string lk2, .slice As2 lval2.length cs2, .slice Ap2 lpath2.length cp2] 111)) 1
        rw [show ((w.alloc (.cells #[.int .i64 n, .slice (some ⟨b, o, none⟩) 2 cl] 41)).alloc (.cells #[.int .i64 i, .string lk, .slice As lval.length cs, .slice Ap lpath.length cp] 111)).heap.size = w.heap.size + 2 by simp] at h
        exact h)
      have HQ21 : Hid ((((w.alloc (.cells #[.int .i64 n, .slice (some ⟨b, o, none⟩) 2 cl] 41)).alloc (.cells #[.int .i64 i2, .string lk2, .slice As2 lval2.length cs2, .slice Ap2 lpath2.length cp2] 111)).alloc (.cells #[.int .i64 i, .string lk, .slice As lval.length cs, .slice Ap lpath.length cp] 111)).cell? ⟨w.heap.size + 1, 1, none⟩ = some (.string lk2)) := Lib.hid (by
        have h := blk_cell (heap_alloc_new (w.alloc (.cells #[.int .i64 n, .slice (some ⟨b, o, none⟩) 2 cl] 41)) (.cells #[.int .i64 i2, .string lk2, .slice As2 lval2.length cs2, .slice Ap2 lpath2.length cp2] 111)) 1
        rw [show (w.alloc (.cells #[.int .i64 n, .slice (some ⟨b, o, none⟩) 2 cl] 41)).heap.size = w.heap.size + 1 by simp] at h
        exact (World.cell?_alloc_lt ((w.alloc (.cells #[.int .i64 n, .slice (some ⟨b, o, none⟩) 2 cl] 41)).alloc (.cells #[.int .i64 i2, .string lk2, .slice As2 lval2.length cs2, .slice Ap2 lpath2.length cp2] 111)) (.cells #[.int .i64 i, .string lk, .slice As lval.length cs, .slice Ap lpath.length cp] 111) ⟨w.heap.size + 1, 1, none⟩ (by simp)).trans h)
      have HQ12 : Hid ((((w.alloc (.cells #[.int .i64 n, .slice (some ⟨b, o, none⟩) 2 cl] 41)).alloc (.cells #[.int .i64 i, .string lk, .slice As lval.length cs, .slice Ap lpath.length cp] 111)).alloc (.cells #[.int .i64 i2, .string lk2, .slice As2 lval2.length cs2, .slice Ap2 lpath2.length cp2] 111)).cell? ⟨w.heap.size + 2, 2, none⟩ = some (.slice As2 lval2.length cs2)) := Lib.hid (by
        have h := blk_cell (heap_alloc_new ((w.alloc (.cells #[.int .i64 n, .slice (some ⟨b, o, none⟩) 2 cl] 41)).alloc (.cells #[.int .i64 i, .string lk, .slice As lval.length cs, .slice Ap lpath.length cp] 111)) (.cells #[.int .i64 i2, .string lk2, .slice As2 lval2.length cs2, .slice Ap2 lpath2.length cp2] 111)) 2
        rw [show ((w.alloc (.cells #[.int .i64 n, .slice (some ⟨b, o, none⟩) 2 cl] 41)).alloc (.cells #[.int .i64 i, .string lk, .slice As lval.length cs, .slice Ap lpath.length cp] 111)).heap.size = w.heap.size + 2 by simp] at h
        exact h)
      have HQ22 : Hid ((((w.alloc (.cells #[.int .i64 n, .slice (some ⟨b, o, none⟩) 2 cl] 41)).alloc (.cells #[.int .i64 i2, .string lk2, .slice As2 lval2.length cs2, .slice Ap2 lpath2.length cp2] 111)).alloc (.cells #[.int .i64 i, .string lk, .slice As lval.length cs, .slice Ap lpath.length cp] 111)).cell? ⟨w.heap.size + 1, 2, none⟩ = some (.slice As2 lval2.length cs2)) := Lib.hid (by
        have h := blk_cell (heap_alloc_new (w.alloc (.cells #[.int .i64 n, .slice (some ⟨b, o, none⟩) 2 cl] 41)) (.cells #[.int .i64 i2, .string lk2, .slice As2 lval2.length cs2, .slice Ap2 lpath2.length cp2] 111)) 2
        rw [show (w.alloc (.cells #[.int .i64 n, .slice (some ⟨b, o, none⟩) 2 cl] 41)).heap.size = w.heap.size + 1 by simp] at h
        exact (World.cell?_alloc_lt ((w.alloc (.cells #[.int .i64 n, .slice (some ⟨b, o, none⟩) 2 cl] 41)).alloc (.cells #[.int .i64 i2, .string lk2, .slice As2 lval2.length cs2, .slice Ap2 lpath2.length cp2] 111)) (.cells #[.int .i64 i, .string lk, .slice As lval.length cs, .slice Ap lpath.length cp] 111) ⟨w.heap.size + 1, 2, none⟩ (by simp)).trans h)
      have HQ13 : Hid ((((w.alloc (.cells #[.int .i64 n, .slice (some ⟨b, o, none⟩) 2 cl] 41)).alloc (.cells #[.int .i64 i, .string lk, .slice As lval.length cs, .slice Ap lpath.length cp] 111)).alloc (.cells #[.int .i64 i2, .string lk2, .slice As2 lval2.length cs2, .slice Ap2 lpath2.length cp2] 111)).cell? ⟨w.heap.size + 2, 3, none⟩ = some (.slice Ap2 lpath2.length cp2)) := Lib.hid (by
        have h := blk_cell (heap_alloc_new ((w.alloc (.cells #[.int .i64 n, .slice (some ⟨b, o, none⟩) 2 cl] 41)).alloc (.cells #[.int .i64 i, .string lk, .slice As lval.length cs, .slice Ap lpath.length cp] 111)) (.cells #[.int .i64 i2, .string lk2, .slice As2 lval2.length cs2, .slice Ap2 lpath2.length cp2] 111)) 3
        rw [show ((w.alloc (.cells #[.int .i64 n, .slice (some ⟨b, o, none⟩) 2 cl] 41)).alloc (.cells #[.int .i64 i, .string lk, .slice As lval.length cs, .slice Ap lpath.length cp] 111)).heap.size = w.heap.size + 2 by simp] at h
        exact h)
      have HQ23 : Hid ((((w.alloc (.cells #[.int .i64 n, .slice (some ⟨b, o, none⟩) 2 cl] 41)).alloc (.cells #[.int .i64 i2, .string lk2, .slice As2 lval2.length cs2, .slice Ap2 lpath2.length cp2] 111)).alloc (.cells #[.int .i64 i, .string lk, .slice As lval.length cs, .slice Ap lpath.length cp] 111)).cell? ⟨w.heap.size + 1, 3, none⟩ = some (.slice Ap2 lpath2.length cp2)) := Lib.hid (by
        have h := blk_cell (heap_alloc_new (w.alloc (.cells #[.int .i64 n, .slice (some ⟨b, o, none⟩) 2 cl] 41)) (.cells #[.int .i64 i2, .string lk2, .slice As2 lval2.length cs2, .slice Ap2 lpath2.length cp2] 111)) 3
        rw [show (w.alloc (.cells #[.int .i64 n, .slice (some ⟨b, o, none⟩) 2 cl] 41)).heap.size = w.heap.size + 1 by simp] at h
        exact (World.cell?_alloc_lt ((w.alloc (.cells #[.int .i64 n, .slice (some ⟨b, o, none⟩) 2 cl] 41)).alloc (.cells #[.int .i64 i2, .string lk2, .slice As2 lval2.length cs2, .slice Ap2 lpath2.length cp2] 111)) (.cells #[.int .i64 i, .string lk, .slice As lval.length cs, .slice Ap lpath.length cp] 111) ⟨w.heap.size + 1, 3, none⟩ (by simp)).trans h)
      have HE := Lib.hid (And.intro hE1 hE2)
      clear hE1 hE2
      go_wp2_with fail
      go_region
      all_goals by_cases hA : IntKind.i64.wrap (i + 1) = i2
      all_goals first
        | (have hA' : ¬ IntKind.i64.wrap (i + 1) = i2 := hA
           have hres : Hid (R = false) := Lib.hid (by rw [HV.out, decide_eq_false hA']; rfl)
           obtain ⟨W, hW⟩ : ∃ W, IntKind.i64.wrap (i + 1) = W := ⟨_, rfl⟩
           rw [hW] at hA
           clear hA'
           go_wp2_with fail
           go_ret
           exact ⟨by rw [hres.out]; rfl, by first | exact HE.out.1.drew | exact HE.out.2.drew | exact HE.out.1 | exact HE.out.2⟩)
        | skip
      all_goals cases hD1 : ltS lk key
      all_goals cases hD2 : ltS key lk2
      all_goals have hF1 : Op.bytesLess lk.toList key.toList = _ := hD1
      all_goals have hF2 : Op.bytesLess key.toList lk2.toList = _ := hD2
      all_goals first
        | (have hres : Hid (R = false) := Lib.hid (by rw [HV.out, decide_eq_true hA, hD1, hD2]; rfl)
           clear hD1 hD2
           go_wp2_with fail
           go_ret
           exact ⟨by rw [hres.out]; rfl, by first | exact HE.out.1.drew | exact HE.out.2.drew | exact HE.out.1 | exact HE.out.2⟩)
        | (have hres : R = (holdsB root n ⟨i, lk, lval, lpath⟩ && holdsB root n ⟨i2, lk2, lval2, lpath2⟩) := by rw [HV.out, decide_eq_true hA, hD1, hD2]; rfl
           clear hD1 hD2
           go_wp2_with fail
           refine (HHO.out _ (by first | exact HE.out.1.drew | exact HE.out.2.drew | exact HE.out.1 | exact HE.out.2)).mono ?_
           rintro e w4 ⟨rfl, hb4⟩
           have hq4 : Below w.heap.size w w4 := by
             first
               | exact below_chain HE.out.1.drew HE.out.1.size hb4
               | exact below_chain HE.out.2.drew HE.out.2.size hb4
               | exact below_chain HE.out.1 HE.out.1.size hb4
               | exact below_chain HE.out.2 HE.out.2.size hb4
           have hp0 : w4.cell? ⟨w.heap.size, 0, none⟩ = some (.int .i64 n) := (hb4.cell (p := ⟨w.heap.size, 0, none⟩) (by simp; omega)).trans (HU.out _ _)
           first
             | (have r0 := (hb4.cell (p := ⟨w.heap.size + 2, 0, none⟩) (by simp)).trans HQ10.out
                have r1 := (hb4.cell (p := ⟨w.heap.size + 2, 1, none⟩) (by simp)).trans HQ11.out
                have r2 := (hb4.cell (p := ⟨w.heap.size + 2, 2, none⟩) (by simp)).trans HQ12.out
                have r3 := (hb4.cell (p := ⟨w.heap.size + 2, 3, none⟩) (by simp)).trans HQ13.out)
             | (have r0 := (hb4.cell (p := ⟨w.heap.size + 1, 0, none⟩) (by simp)).trans HQ20.out
                have r1 := (hb4.cell (p := ⟨w.heap.size + 1, 1, none⟩) (by simp)).trans HQ21.out
                have r2 := (hb4.cell (p := ⟨w.heap.size + 1, 2, none⟩) (by simp)).trans HQ22.out
                have r3 := (hb4.cell (p := ⟨w.heap.size + 1, 3, none⟩) (by simp)).trans HQ23.out)
           have HQ4 := Lib.hid hq4
           clear hq4 hb4
           cases hh1 : holdsB root n ⟨i, lk, lval, lpath⟩ with
           | false =>
             have hres2 : Hid (R = false) := Lib.hid (by rw [hres, hh1]; rfl)
             clear hres hh1
             go_wp2_with fail
             go_ret
             exact ⟨by rw [hres2.out]; rfl, HQ4.out⟩
           | true =>
             have hres2 : Hid (R = holdsB root n ⟨i2, lk2, lval2, lpath2⟩) := Lib.hid (by rw [hres, hh1]; rfl)
             clear hres hh1
             go_wp2_with fail
             refine (HHO2.out _ HQ4.out).mono ?_
             rintro e w5 ⟨rfl, hb5⟩
             have hq5 := below_chain HQ4.out HQ4.out.size hb5
             go_wp2_with fail
             go_ret
             exact ⟨by rw [hres2.out]; rfl, hq5⟩)
    · have hres : Hid (absentB root key ⟨n, l :: l2 :: l3 :: ls⟩ = false) := Lib.hid (absentB_more (by simp))
      generalize absentB root key ⟨n, l :: l2 :: l3 :: ls⟩ = R at *
      clear hlp
      have hk3 : 3 ≤ (l :: l2 :: l3 :: ls).length := by simp
      generalize (l :: l2 :: l3 :: ls).length = k at *
      have i1 : ¬ (k : Int) = 0 := by omega
      have i2 : ¬ (k : Int) = 1 := by omega
      have i3 : ¬ (k : Int) = 2 := by omega
      go_enter Tryz.func23, Tryz.ntmps23
      go_wp2_with fail
      refine (HKF.out _).mono ?_
      rintro e w1 ⟨rfl, rfl⟩
      rw [hkb]
      clear hkb
      go_wp2_with fail
      go_ret
      exact ⟨by rw [hres.out]; rfl, hbx⟩
end Go.Proofs.YtmphegeiclgjbaaGreatDoor
namespace Go.Proofs.YtmphegeiclgjbaaGreatDoor
set_option maxRecDepth 100000
open Go Go.RowKit
set_option linter.unusedVariables false
variable {w w' : World} {B : Nat}

/-- the hashes beside a leaf's way in the first k rows -/
def wayK (L : List (List UInt8)) (i : Nat) : Nat → List (List UInt8)
  | 0 => []
  | k + 1 => wayK L i k ++ (if ((i / 2 ^ k) ^^^ 1) < (upN k L).length then [(upN k L).getD ((i / 2 ^ k) ^^^ 1) []] else [])
end Go.Proofs.YtmphegeiclgjbaaGreatDoor
namespace Go.Proofs.YtmphegeiclgjbaaGreatDoor
set_option maxRecDepth 100000
open Go Go.RowKit
set_option linter.unusedVariables false

theorem bl_irrefl : ∀ a : List UInt8, Op.bytesLess a a = false
  | [] => rfl
  | a :: l => by
    have : ¬ a < a := by rw [UInt8.lt_iff_toNat_lt]; omega
    simp [Op.bytesLess, bl_irrefl l, this]
theorem bl_cons (a b : UInt8) (l m : List UInt8) : Op.bytesLess (a :: l) (b :: m) = true ↔ a < b ∨ (a = b ∧ Op.bytesLess l m = true) := by
  simp [Op.bytesLess]
theorem bl_trans : ∀ a b c : List UInt8, Op.bytesLess a b = true → Op.bytesLess b c = true → Op.bytesLess a c = true
  | _, _, [], _, h => by simp [Op.bytesLess] at h
  | _, [], _ :: _, h, _ => by cases ‹List UInt8› <;> simp [Op.bytesLess] at h
  | [], b :: l, c :: m, h1, h2 => rfl
  | a :: k, b :: l, c :: m, h1, h2 => by
    rw [bl_cons] at h1 h2 ⊢
    simp only [UInt8.lt_iff_toNat_lt, ← UInt8.toNat_inj] at h1 h2 ⊢
    rcases h1 with h1 | ⟨h1, h1'⟩ <;> rcases h2 with h2 | ⟨h2, h2'⟩
    · left; omega
    · left; omega
    · left; omega
    · right; exact ⟨by omega, bl_trans k l m h1' h2'⟩
theorem bl_tri : ∀ a b : List UInt8, Op.bytesLess a b = false → a ≠ b → Op.bytesLess b a = true
  | [], [], _, h => absurd rfl h
  | [], _ :: _, h, _ => by simp [Op.bytesLess] at h
  | _ :: _, [], _, _ => rfl
  | a :: l, b :: m, h, hne => by
    rw [bl_cons]
    have h' : ¬ (a < b ∨ (a = b ∧ Op.bytesLess l m = true)) := by rw [← bl_cons, h]; simp
    simp only [UInt8.lt_iff_toNat_lt, ← UInt8.toNat_inj] at h' ⊢
    by_cases hab : a.toNat = b.toNat
    · right
      refine ⟨hab.symm, bl_tri l m ?_ fun e => hne ?_⟩
      · cases hlm : Op.bytesLess l m with
        | false => rfl
        | true => exact absurd (Or.inr ⟨hab, hlm⟩) h'
      · rw [UInt8.toNat_inj.1 hab, e]
    · left
      by_cases hlt : a.toNat < b.toNat
      · exact absurd (Or.inl hlt) h'
      · omega
theorem toList_inj {a b : ByteArray} (h : a.toList = b.toList) : a = b := by
  rw [ByteArray.toList_eq, ByteArray.toList_eq] at h
  exact ByteArray.ext (Array.toList_inj.1 h)
theorem ltS_irrefl (a : ByteArray) : ltS a a = false := bl_irrefl _
theorem ltS_trans {a b c : ByteArray} (h : ltS a b = true) (k : ltS b c = true) : ltS a c = true := bl_trans _ _ _ h k
theorem ltS_tri {a b : ByteArray} (h : ltS a b = false) (k : a ≠ b) : ltS b a = true := bl_tri _ _ h fun e => k (toList_inj e)
theorem ltS_ne {a b : ByteArray} (h : ltS a b = true) : a ≠ b := fun e => by rw [e, ltS_irrefl] at h; cases h
theorem ltS_asym {a b : ByteArray} (h : ltS a b = true) : ltS b a = false := by
  cases hb : ltS b a with
  | false => rfl
  | true => have := ltS_trans h hb; rw [ltS_irrefl] at this; cases this

def hitB (ps : List Pr) (key : ByteArray) : Bool := match ps[placeM key ps]? with | some p => p.1.toList == key.toList | none => false
def leavesP (ps : List Pr) (key : ByteArray) : List Lf := if hitB ps key = true then [leafM ps (placeM key ps)] else
  (if 0 < placeM key ps then [leafM ps (placeM key ps - 1)] else []) ++ (if placeM key ps < ps.length then [leafM ps (placeM key ps)] else [])
/-- the proof about a key, or the error -/
def proveM (ps : List Pr) (key : ByteArray) : Pf × Int := if ordB ps = true ∧ keyB key = true then (⟨(ps.length : Int), leavesP ps key⟩, 0) else (⟨0, []⟩, 60)
end Go.Proofs.YtmphegeiclgjbaaGreatDoor
namespace Go.Proofs.YtmphegeiclgjbaaGreatDoor
set_option maxRecDepth 100000
open Go Go.RowKit
set_option linter.unusedVariables false
variable {w w' : World} {B : Nat}

/-- what a leaf's four cells say -/
def LfC (w : World) (c : List Value) (l : Lf) : Prop := ∃ sv pv, c = [.int .i64 l.at_, .string l.key, sv, pv] ∧ RdS w 0 sv l.val ∧ RowS w 0 pv l.path ∧ l.key.size ≤ maxLen ∧ -9223372036854775808 ≤ l.at_ ∧ l.at_ ≤ 9223372036854775807
theorem LfC.grow {c : List Value} {l : Lf} {E : TypeId} (h : LfC w c l) (hg : Grow w 0 E w') (h1 : 5 ≠ E) (h2 : 32 ≠ E) : LfC w' c l := by
  obtain ⟨sv, pv, e, q1, q2, q3⟩ := h
  exact ⟨sv, pv, e, q1.grow hg h1, q2.grow hg h1 h2, q3⟩
theorem LfC.up {c : List Value} {l : Lf} (h : LfC w c l) (hb : Below w.heap.size w w') : LfC w' c l := by
  obtain ⟨sv, pv, e, q1, q2, q3⟩ := h
  exact ⟨sv, pv, e, q1.up hb, q2.up hb, q3⟩
theorem LfC.len {c : List Value} {l : Lf} (h : LfC w c l) : c.length = 4 := by obtain ⟨sv, pv, e, _⟩ := h; rw [e]; rfl
theorem LfC.one {c : List Value} {l : Lf} (h : LfC w c l) : ∀ u ∈ c, u.oneCell' = true := by
  obtain ⟨sv, pv, e, q1, q2, _⟩ := h
  obtain ⟨A1, c1, rfl⟩ := q1.1.form
  obtain ⟨A2, c2, rfl⟩ := q2.form
  subst e
  intro u hu
  simp only [List.mem_cons, List.not_mem_nil, or_false] at hu
  rcases hu with rfl | rfl | rfl | rfl <;> rfl
abbrev OwnL (w : World) (B : Nat) (v : Value) (ls : List Lf) : Prop := OwnX 111 4 LfC w B v ls
theorem OwnL.up {v : Value} {ls : List Lf} (h : OwnL w B v ls) (hb : Below w.heap.size w w') : OwnL w' B v ls := OwnX.up h hb fun c a hc => hc.up hb
theorem OwnL.grow {v : Value} {ls : List Lf} {E : TypeId} (h : OwnL w B v ls) (hg : Grow w 0 E w') (h0 : 111 ≠ E) (h1 : 5 ≠ E) (h2 : 32 ≠ E) : OwnL w' B v ls := OwnX.grow h hg h0 fun c a hc => hc.grow hg h1 h2
/-- a proof of the call's own -/
def ProofN (w : World) (B : Nat) (v : Value) (p : Pf) : Prop := ∃ lv, v = .agg #[.int .i64 p.n, lv] ∧ OwnL w B lv p.ls
theorem ProofN.up {v : Value} {p : Pf} (h : ProofN w B v p) (hb : Below w.heap.size w w') : ProofN w' B v p := by
  obtain ⟨lv, rfl, hl⟩ := h
  exact ⟨lv, rfl, OwnL.up hl hb⟩
theorem ProofN.more {B' : Nat} {v : Value} {p : Pf} (h : ProofN w B v p) (hB : B' ≤ B) : ProofN w B' v p := by
  obtain ⟨lv, rfl, hl⟩ := h
  exact ⟨lv, rfl, OwnX.more hl hB⟩
/-- a leaf made, as cells -/
theorem LeafN.cells {v : Value} {l : Lf} (h : LeafN w 0 B v l) (hk : l.key.size ≤ maxLen) (h1 : -9223372036854775808 ≤ l.at_) (h2 : l.at_ ≤ 9223372036854775807) : ∃ A1 n1 c1 A2 n2 c2, v = .agg #[.int .i64 l.at_, .string l.key, .slice A1 n1 c1, .slice A2 n2 c2] ∧ LfC w [.int .i64 l.at_, .string l.key, .slice A1 n1 c1, .slice A2 n2 c2] l := by
  obtain ⟨sv, pv, rfl, q1, q2⟩ := h
  obtain ⟨A1, c1, rfl⟩ := q1.form
  obtain ⟨A2, c2, rfl⟩ := q2.form
  exact ⟨A1, _, c1, A2, _, c2, rfl, _, _, rfl, q1.rdS, q2.rowS, hk, h1, h2⟩

/-- the leaves that are told of places -/
def selM (ps : List Pr) (T : List Int) : List Lf := (T.filter fun i => decide (0 ≤ i ∧ i < (ps.length : Int))).map fun i => leafM ps i.toNat
end Go.Proofs.YtmphegeiclgjbaaGreatDoor
