/- The walks of package sign and of the document's: numbers, the beginnings of chains, the way along a chain. -/
import Derived.Test.YtgomhojaappbnaaDoorShaG
import Derived.Test.YtgomhojaappbnaaDoorRShaG
import Derived.Test.YtgomhojaappbnaaDoorRefN
import Derived.Test.YtgomhojaappbnaaDoorRowR
import Derived.LoopTactic
namespace Go.Proofs.YtgomhojaappbnaaDoor
open Go Go.RowKit

theorem partsOf3 (w : World) (va vb vc : Value) (a b c : List UInt8) (t : TypeId) (ha : Rd w w.heap.size va a) (hb : Rd w w.heap.size vb b) (hc : Rd w w.heap.size vc c) :
    Parts (w.alloc (.cells #[va, vb, vc] t)) (w.alloc (.cells #[va, vb, vc] t)).heap.size (.slice (some ⟨w.heap.size, 0, none⟩) 3 3) [a, b, c] := by
  have hbw : Below w.heap.size w (w.alloc (.cells #[va, vb, vc] t)) := (Below.refl _ _).alloc (Nat.le_refl _) _
  have hg := heap_alloc_new w (.cells #[va, vb, vc] t)
  refine ⟨_, 3, rfl, fun _ => ⟨w.heap.size, 0, rfl, by simp, fun j hj => ?_⟩⟩
  rw [show (0 + j) = j by omega, blk_cell hg]
  rcases j with _ | _ | _ | j
  · exact ⟨va, rfl, ha.up (Nat.le_refl _) hbw⟩
  · exact ⟨vb, rfl, hb.up (Nat.le_refl _) hbw⟩
  · exact ⟨vc, rfl, hc.up (Nat.le_refl _) hbw⟩
  · exact absurd hj (by simp)
def secretWord : ByteArray := ⟨#[115, 101, 99, 114, 101, 116]⟩
def stepWord : ByteArray := ⟨#[115, 116, 101, 112]⟩
def secretL (seed : List UInt8) (key c : Nat) : List UInt8 := shaSum (formB (strBytes secretWord) ++ formBs [seed, be key 8, be c 8])
def stepL (c i : Nat) (v : List UInt8) : List UInt8 := shaSum (formB (strBytes stepWord) ++ formBs [be c 8, be i 8, v])
def walkL (c : Nat) : Nat → Nat → List UInt8 → List UInt8
  | _, 0, v => v
  | i, n + 1, v => walkL c (i + 1) n (stepL c i v)

theorem number_any (n : Nat) (w : World) (hn : n ≤ 1000) :
    Calls Tryd.prog 32 #[.int .i64 (n : Int)] w fun e w' => ∃ v', e = .returned v' ∧ Own w' w.heap.size v' (be n 8) ∧ Below w.heap.size w w' := by
  go_enter Tryd.func32, Tryd.ntmps32
  go_wp2_with fail
  refine (N_any (.slice none 0 0) [] n w (Rd.nil _ _) (by omega) (by simp)).mono ?_
  rintro e w1 ⟨v1, rfl, ho1, hb1⟩
  go_wp2_with fail
  go_ret
  exact ⟨_, rfl, ho1, hb1⟩

theorem rn_any (n : Nat) (w : World) (hn : n ≤ 1000) :
    Calls Tryd.prog 37 #[.int .i64 (n : Int)] w fun e w' => ∃ v', e = .returned v' ∧ Own w' w.heap.size v' (be n 8) ∧ Below w.heap.size w w' := by
  go_enter Tryd.func37, Tryd.ntmps37
  go_wp2_with fail
  refine (refN_any (.slice none 0 0) [] n w (Rd.nil _ _) (by omega) (by simp)).mono ?_
  rintro e w1 ⟨v1, rfl, ho1, hb1⟩
  go_wp2_with fail
  go_ret
  exact ⟨_, rfl, ho1, hb1⟩

set_option maxHeartbeats 1000000 in
theorem secret_any (v : Value) (seed : List UInt8) (key c : Nat) (w : World) (hv : Rd w w.heap.size v seed) (h1 : key ≤ 1000) (h2 : c ≤ 1000) (fr : TypeId × Nat × Nat) (hk : w.heap[0]? = some (.cells kVals fr.1 fr.2)) :
    Calls Tryd.prog 18 #[v, .int .i64 (key : Int), .int .i64 (c : Int)] w fun e w' => ∃ v', e = .returned v' ∧ Own w' w.heap.size v' (secretL seed key c) ∧ Below w.heap.size w w' := by
  have hn0 := blk_lt hk
  obtain ⟨lk, hlk'⟩ : ∃ l, l = be key 8 := ⟨_, rfl⟩
  obtain ⟨lc, hlc'⟩ : ∃ l, l = be c 8 := ⟨_, rfl⟩
  obtain ⟨A, cc, rfl⟩ := hv.form
  have HV := Lib.hid hv
  have N1 := Lib.hid (fun W : World => number_any key W h1)
  have N2 := Lib.hid (fun W : World => number_any c W h2)
  have HE : Hid (secretL seed key c = shaSum (formB (strBytes secretWord) ++ formBs [seed, lk, lc])) := Lib.hid (by rw [hlk', hlc']; rfl)
  rw [← hlk'] at N1
  rw [← hlc'] at N2
  clear hlk' hlc' hv
  go_enter Tryd.func18, Tryd.ntmps18
  go_wp2_with fail
  refine (N1.out _).mono ?_
  rintro e w1 ⟨v1, rfl, ho1, hb1⟩
  obtain ⟨A1, c1, rfl⟩ := ho1.form
  go_wp2_with fail
  refine (N2.out _).mono ?_
  rintro e w2 ⟨v2, rfl, ho2, hb2⟩
  obtain ⟨A2, c2, rfl⟩ := ho2.form
  have hq2 := below_chain hb1 hb1.size hb2
  have hr0 := HV.out.up (Nat.le_refl _) hq2
  have hr1 := ho1.rd.up (Nat.le_refl _) hb2
  have hr2 := ho2.rd
  clear hb1 hb2 ho1 ho2
  go_wp2_with fail
  have hp := partsOf3 w2 _ _ _ _ _ _ 22 hr0 hr1 hr2
  have hbx : Below w.heap.size w (w2.alloc (.cells #[.slice A seed.length cc, .slice A1 lk.length c1, .slice A2 lc.length c2] 22)) := hq2.alloc hq2.size _
  generalize w2.alloc (.cells #[.slice A seed.length cc, .slice A1 lk.length c1, .slice A2 lc.length c2] 22) = w3 at *
  refine (tagged_any secretWord _ [seed, lk, lc] w3 hp (by unfold maxLen secretWord; decide) (by simp) fr ((hbx.block _ hn0).trans hk)).mono ?_
  rintro e w4 ⟨v4, rfl, ho4, hb4⟩
  go_wp2_with fail
  go_ret
  rw [HE.out]
  exact ⟨_, rfl, ho4.more hbx.size, below_chain hbx hbx.size hb4⟩

set_option maxHeartbeats 1000000 in
theorem rsecret_any (v : Value) (seed : List UInt8) (key c : Nat) (w : World) (hv : Rd w w.heap.size v seed) (h1 : key ≤ 1000) (h2 : c ≤ 1000) (fr : TypeId × Nat × Nat) (hk : w.heap[1]? = some (.cells kVals fr.1 fr.2)) :
    Calls Tryd.prog 33 #[v, .int .i64 (key : Int), .int .i64 (c : Int)] w fun e w' => ∃ v', e = .returned v' ∧ Own w' w.heap.size v' (secretL seed key c) ∧ Below w.heap.size w w' := by
  have hn0 := blk_lt hk
  obtain ⟨lk, hlk'⟩ : ∃ l, l = be key 8 := ⟨_, rfl⟩
  obtain ⟨lc, hlc'⟩ : ∃ l, l = be c 8 := ⟨_, rfl⟩
  obtain ⟨A, cc, rfl⟩ := hv.form
  have HV := Lib.hid hv
  have N1 := Lib.hid (fun W : World => rn_any key W h1)
  have N2 := Lib.hid (fun W : World => rn_any c W h2)
  have HE : Hid (secretL seed key c = shaSum (formB (strBytes secretWord) ++ formBs [seed, lk, lc])) := Lib.hid (by rw [hlk', hlc']; rfl)
  rw [← hlk'] at N1
  rw [← hlc'] at N2
  clear hlk' hlc' hv
  go_enter Tryd.func33, Tryd.ntmps33
  go_wp2_with fail
  refine (N1.out _).mono ?_
  rintro e w1 ⟨v1, rfl, ho1, hb1⟩
  obtain ⟨A1, c1, rfl⟩ := ho1.form
  go_wp2_with fail
  refine (N2.out _).mono ?_
  rintro e w2 ⟨v2, rfl, ho2, hb2⟩
  obtain ⟨A2, c2, rfl⟩ := ho2.form
  have hq2 := below_chain hb1 hb1.size hb2
  have hr0 := HV.out.up (Nat.le_refl _) hq2
  have hr1 := ho1.rd.up (Nat.le_refl _) hb2
  have hr2 := ho2.rd
  clear hb1 hb2 ho1 ho2
  go_wp2_with fail
  have hp := partsOf3 w2 _ _ _ _ _ _ 22 hr0 hr1 hr2
  have hbx : Below w.heap.size w (w2.alloc (.cells #[.slice A seed.length cc, .slice A1 lk.length c1, .slice A2 lc.length c2] 22)) := hq2.alloc hq2.size _
  generalize w2.alloc (.cells #[.slice A seed.length cc, .slice A1 lk.length c1, .slice A2 lc.length c2] 22) = w3 at *
  refine (rtagged_any secretWord _ [seed, lk, lc] w3 hp (by unfold maxLen secretWord; decide) (by simp) fr ((hbx.block _ hn0).trans hk)).mono ?_
  rintro e w4 ⟨v4, rfl, ho4, hb4⟩
  go_wp2_with fail
  go_ret
  rw [HE.out]
  exact ⟨_, rfl, ho4.more hbx.size, below_chain hbx hbx.size hb4⟩

set_option maxHeartbeats 4000000 in
theorem walk_any (v : Value) (l : List UInt8) (c s t : Nat) (w : World) (B0 : Nat) (hv : RdS w B0 v l) (h1 : c ≤ 1000) (h2 : s ≤ 1000) (h3 : t ≤ 1000) (fr : TypeId × Nat × Nat) (hk : w.heap[0]? = some (.cells kVals fr.1 fr.2)) :
    Calls Tryd.prog 17 #[.int .i64 (c : Int), .int .i64 (s : Int), .int .i64 (t : Int), v] w fun e w' => ∃ v', e = .returned v' ∧ RdS w' B0 v' (walkL c s (t - s) l) ∧ Below w.heap.size w w' := by
  have hn0 := blk_lt hk
  have HK := Lib.hid hk
  have N1 := Lib.hid (fun W : World => number_any c W h1)
  clear hk
  go_enter Tryd.func17, Tryd.ntmps17
  go_wp2_with fail
  go_loopw [3, 9] (fun vv i wr => ∃ (k : Nat) (lv : List UInt8), k ≤ 1000 ∧ i = .int .i64 (k : Int) ∧ RdS wr B0 vv lv ∧ walkL c k (t - k) lv = walkL c s (t - s) l ∧ Below w.heap.size w wr)
    (fun _ i _ => t - (intOf i).toNat)
  case atStart => exact ⟨s, l, h2, rfl, hv, rfl, Below.refl _ _⟩
  case round =>
    obtain ⟨k, lv, hk1, rfl, hr, he, hb⟩ := hrel
    have HE := Lib.hid he
    clear he hv
    obtain ⟨A, cc, rfl⟩ := hr.1.form
    by_cases hlt : k < t
    · have i2 : (k : Int) < (t : Int) := by omega
      have N2 := Lib.hid (fun W : World => number_any k W hk1)
      obtain ⟨lc, hlc'⟩ : ∃ x, x = be c 8 := ⟨_, rfl⟩
      obtain ⟨lk, hlk'⟩ : ∃ x, x = be k 8 := ⟨_, rfl⟩
      have HS : Hid (stepL c k lv = shaSum (formB (strBytes stepWord) ++ formBs [lc, lk, lv])) := Lib.hid (by rw [hlk', hlc']; rfl)
      rw [← hlc'] at N1
      rw [← hlk'] at N2
      clear hlc' hlk'
      go_wp2_with fail
      refine (N1.out _).mono ?_
      rintro e w1 ⟨v1, rfl, ho1, hb1⟩
      obtain ⟨A1, c1, rfl⟩ := ho1.form
      go_wp2_with fail
      refine (N2.out _).mono ?_
      rintro e w2 ⟨v2, rfl, ho2, hb2⟩
      obtain ⟨A2, c2, rfl⟩ := ho2.form
      have hq1 := below_chain hb hb.size hb1
      have hq2 := below_chain hq1 hq1.size hb2
      have hr0 := (hr.1.up (Nat.le_refl _) hb1).up (Nat.le_refl _) hb2
      have hr1 := ho1.rd.up (Nat.le_refl _) hb2
      have hr2 := ho2.rd
      clear hb1 hb2 ho1 ho2 hq1 hr hb
      go_wp2_with fail
      have hp := partsOf3 w2 _ _ _ _ _ _ 22 hr1 hr2 hr0
      have hbx : Below w.heap.size w (w2.alloc (.cells #[.slice A1 lc.length c1, .slice A2 lk.length c2, .slice A lv.length cc] 22)) := hq2.alloc hq2.size _
      generalize w2.alloc (.cells #[.slice A1 lc.length c1, .slice A2 lk.length c2, .slice A lv.length cc] 22) = w3 at *
      refine (tagged_any stepWord _ [lc, lk, lv] w3 hp (by unfold maxLen stepWord; decide) (by simp) fr ((hbx.block _ hn0).trans HK.out)).mono ?_
      rintro e w4 ⟨v4, rfl, ho4, hb4⟩
      rw [← HS.out] at ho4
      have hq4 := below_chain hbx hbx.size hb4
      have hr4 : RdS w4 B0 v4 (stepL c k lv) := ho4.rdS
      have HW : Hid (walkL c (k + 1) (t - (k + 1)) (stepL c k lv) = walkL c s (t - s) l) := Lib.hid (by
        rw [← HE.out, show t - k = (t - (k + 1)) + 1 by omega]; rfl)
      clear hp hbx hb4 ho4 hr0 hr1 hr2 hq2
      go_wp2_with fail
      go_roundw
      case rel => exact ⟨k + 1, _, by omega, by go_num, hr4, HW.out, hq4⟩
      case measure => simp [intOf]; omega
    · have i2 : ¬ (k : Int) < (t : Int) := by omega
      have e0 : t - k = 0 := by omega
      go_wp2_with fail
      go_ret
      have h := HE.out
      rw [e0] at h
      rw [← h]
      exact ⟨_, rfl, hr, hb⟩

set_option maxHeartbeats 4000000 in
theorem along_any (v : Value) (l : List UInt8) (c s t : Nat) (w : World) (B0 : Nat) (hv : RdS w B0 v l) (h1 : c ≤ 1000) (h2 : s ≤ 1000) (h3 : t ≤ 1000) (fr : TypeId × Nat × Nat) (hk : w.heap[1]? = some (.cells kVals fr.1 fr.2)) :
    Calls Tryd.prog 28 #[.int .i64 (c : Int), .int .i64 (s : Int), .int .i64 (t : Int), v] w fun e w' => ∃ v', e = .returned v' ∧ RdS w' B0 v' (walkL c s (t - s) l) ∧ Below w.heap.size w w' := by
  have hn0 := blk_lt hk
  have HK := Lib.hid hk
  have N1 := Lib.hid (fun W : World => rn_any c W h1)
  clear hk
  go_enter Tryd.func28, Tryd.ntmps28
  go_wp2_with fail
  go_loopw [3, 9] (fun vv i wr => ∃ (k : Nat) (lv : List UInt8), k ≤ 1000 ∧ i = .int .i64 (k : Int) ∧ RdS wr B0 vv lv ∧ walkL c k (t - k) lv = walkL c s (t - s) l ∧ Below w.heap.size w wr)
    (fun _ i _ => t - (intOf i).toNat)
  case atStart => exact ⟨s, l, h2, rfl, hv, rfl, Below.refl _ _⟩
  case round =>
    obtain ⟨k, lv, hk1, rfl, hr, he, hb⟩ := hrel
    have HE := Lib.hid he
    clear he hv
    obtain ⟨A, cc, rfl⟩ := hr.1.form
    by_cases hlt : k < t
    · have i2 : (k : Int) < (t : Int) := by omega
      have N2 := Lib.hid (fun W : World => rn_any k W hk1)
      obtain ⟨lc, hlc'⟩ : ∃ x, x = be c 8 := ⟨_, rfl⟩
      obtain ⟨lk, hlk'⟩ : ∃ x, x = be k 8 := ⟨_, rfl⟩
      have HS : Hid (stepL c k lv = shaSum (formB (strBytes stepWord) ++ formBs [lc, lk, lv])) := Lib.hid (by rw [hlk', hlc']; rfl)
      rw [← hlc'] at N1
      rw [← hlk'] at N2
      clear hlc' hlk'
      go_wp2_with fail
      refine (N1.out _).mono ?_
      rintro e w1 ⟨v1, rfl, ho1, hb1⟩
      obtain ⟨A1, c1, rfl⟩ := ho1.form
      go_wp2_with fail
      refine (N2.out _).mono ?_
      rintro e w2 ⟨v2, rfl, ho2, hb2⟩
      obtain ⟨A2, c2, rfl⟩ := ho2.form
      have hq1 := below_chain hb hb.size hb1
      have hq2 := below_chain hq1 hq1.size hb2
      have hr0 := (hr.1.up (Nat.le_refl _) hb1).up (Nat.le_refl _) hb2
      have hr1 := ho1.rd.up (Nat.le_refl _) hb2
      have hr2 := ho2.rd
      clear hb1 hb2 ho1 ho2 hq1 hr hb
      go_wp2_with fail
      have hp := partsOf3 w2 _ _ _ _ _ _ 22 hr1 hr2 hr0
      have hbx : Below w.heap.size w (w2.alloc (.cells #[.slice A1 lc.length c1, .slice A2 lk.length c2, .slice A lv.length cc] 22)) := hq2.alloc hq2.size _
      generalize w2.alloc (.cells #[.slice A1 lc.length c1, .slice A2 lk.length c2, .slice A lv.length cc] 22) = w3 at *
      refine (rtagged_any stepWord _ [lc, lk, lv] w3 hp (by unfold maxLen stepWord; decide) (by simp) fr ((hbx.block _ hn0).trans HK.out)).mono ?_
      rintro e w4 ⟨v4, rfl, ho4, hb4⟩
      rw [← HS.out] at ho4
      have hq4 := below_chain hbx hbx.size hb4
      have hr4 : RdS w4 B0 v4 (stepL c k lv) := ho4.rdS
      have HW : Hid (walkL c (k + 1) (t - (k + 1)) (stepL c k lv) = walkL c s (t - s) l) := Lib.hid (by
        rw [← HE.out, show t - k = (t - (k + 1)) + 1 by omega]; rfl)
      clear hp hbx hb4 ho4 hr0 hr1 hr2 hq2
      go_wp2_with fail
      go_roundw
      case rel => exact ⟨k + 1, _, by omega, by go_num, hr4, HW.out, hq4⟩
      case measure => simp [intOf]; omega
    · have i2 : ¬ (k : Int) < (t : Int) := by omega
      have e0 : t - k = 0 := by omega
      go_wp2_with fail
      go_ret
      have h := HE.out
      rw [e0] at h
      rw [← h]
      exact ⟨_, rfl, hr, hb⟩

end Go.Proofs.YtgomhojaappbnaaDoor
