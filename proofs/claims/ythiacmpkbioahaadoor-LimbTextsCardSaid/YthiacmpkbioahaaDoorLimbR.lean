
/- The walks of package limb: decimal, Parse. -/
import Derived.Test.YthiacmpkbioahaaDoorLimbC
import Derived.Test.YthiacmpkbioahaaDoorLimbA0
namespace Go.Proofs.YthiacmpkbioahaaDoor
open Go Go.RowKit

/-- the number that digits are -/
def valF (a : Nat) (l : List UInt8) : Nat := l.foldl (fun a c => a * 10 + (c.toNat - 48)) a
theorem valF_ge (l : List UInt8) : ∀ a, a ≤ valF a l := by
  induction l with
  | nil => intro a; exact Nat.le_refl _
  | cons c l ih => intro a; have := ih (a * 10 + (c.toNat - 48)); unfold valF at *; simp only [List.foldl_cons]; omega
theorem valF_take (l : List UInt8) (k : Nat) : valF 0 (l.take k) ≤ valF 0 l := by
  have h := valF_ge (l.drop k) (valF 0 (l.take k))
  unfold valF at *
  rw [← List.foldl_append, List.take_append_drop] at h
  exact h
theorem valF_succ (l : List UInt8) (k : Nat) (h : k < l.length) : valF 0 (l.take (k + 1)) = valF 0 (l.take k) * 10 + (l[k].toNat - 48) := by
  unfold valF
  rw [List.take_succ_eq_append_getElem h, List.foldl_append]
  rfl
/-- what Parse answers where the text is digits -/
def parsed (l : List UInt8) : U4 × Int := if valF 0 l < top then (ofN (valF 0 l), 0) else (U4.zero, 10)

theorem dec_fix (w : World) : Calls Tryd.prog 39 #[.string ⟨#[49, 56, 52, 52, 54, 55, 52, 52, 48, 55, 51, 55, 48, 57, 53, 53, 49, 54, 49, 54]⟩] w fun e w' => e = .returned (.bool true) ∧ Below w.heap.size w w' := by
  have ht : ∀ W, Calls Tryd.prog 43 #[.string ⟨#[49, 56, 52, 52, 54, 55, 52, 52, 48, 55, 51, 55, 48, 57, 53, 53, 49, 54, 49, 54]⟩, .string ⟨#[48, 49, 50, 51, 52, 53, 54, 55, 56, 57]⟩] W fun e w' => e = .returned (.string ⟨#[]⟩) ∧ Below W.heap.size W w' := by
    intro W
    have := Any.strings_Trim_laid Tryd.lays160 (by kernel_rfl) ⟨#[49, 56, 52, 52, 54, 55, 52, 52, 48, 55, 51, 55, 48, 57, 53, 53, 49, 54, 49, 54]⟩ ⟨#[48, 49, 50, 51, 52, 53, 54, 55, 56, 57]⟩ W (by decide) (by decide) (ascii_of_all (by decide))
    rw [show Lib.trimS _ _ = ([] : List UInt8) from by decide +kernel] at this
    exact this
  have HT := Lib.hid ht
  clear ht
  go_enter Tryd.func39, Tryd.ntmps39
  go_wp2_with fail
  refine (HT.out _).mono ?_
  rintro e w1 ⟨rfl, hb⟩
  go_wp2_with fail
  go_ret
  exact ⟨rfl, hb⟩

theorem nat_small (d : Nat) : (U4.mk d 0 0 0).nat = d := by simp [U4.nat]
theorem add_yes {T : U4} {d : Nat} (h : true = (addU T ⟨d, 0, 0, 0⟩).2) : T.nat + d < top ∧ (addU T ⟨d, 0, 0, 0⟩).1 = ofN (T.nat + d) := by
  unfold addU at h ⊢
  rw [nat_small] at h ⊢
  by_cases hl : T.nat + d < top
  · rw [if_pos hl]; exact ⟨hl, rfl⟩
  · rw [if_neg hl] at h; cases h
theorem add_nope {T : U4} {d : Nat} (h : false = (addU T ⟨d, 0, 0, 0⟩).2) : top ≤ T.nat + d := by
  unfold addU at h
  rw [nat_small] at h
  by_cases hl : T.nat + d < top
  · rw [if_pos hl] at h; cases h
  · omega
theorem parsed_over {l : List UInt8} (h : top ≤ valF 0 l) : parsed l = (U4.zero, 10) := by unfold parsed; rw [if_neg (by omega)]
theorem digit_ok {d : Nat} (h : d ≤ 9) : U4.ok ⟨d, 0, 0, 0⟩ := ⟨show d < _ by omega, show 0 < 18446744073709551616 by decide, show 0 < 18446744073709551616 by decide, show 0 < 18446744073709551616 by decide⟩

set_option maxHeartbeats 2000000 in
theorem parse_any (s : ByteArray) (w : World) (hs : s.size ≤ maxLen) (hd : ∀ W, Calls Tryd.prog 39 #[.string s] W fun e w' => e = .returned (.bool true) ∧ Below W.heap.size W w')
    (hdig : ∀ k (h : k < s.size), 48 ≤ s[k].toNat ∧ s[k].toNat ≤ 57) :
    Calls Tryd.prog 24 #[.string s] w fun e w' => e = .returned (.tuple #[(parsed s.data.toList).1.val, .int .i64 (parsed s.data.toList).2]) ∧ Below w.heap.size w w' := by
  unfold maxLen at hs
  have HD := Lib.hid hd
  have HG := Lib.hid hdig
  have HZ := Lib.hid (Lib.size_eq s)
  clear hd hdig
  go_enter Tryd.func24, Tryd.ntmps24
  go_wp2_with fail
  refine (HD.out _).mono ?_
  rintro e w1 ⟨rfl, hb1⟩
  go_wp2_with fail
  have hbw : Below w.heap.size w w1 := below_chain ((Below.refl _ _).alloc (Nat.le_refl _) _) (by simp) hb1
  have hbR : LBlk w1 w.heap.size U4.zero.cells := LBlk.below (LBlk.new w U4.zero.cells) hb1 (by simp)
  have hRS : w.heap.size < w1.heap.size := by have := hb1.size; simp at this; omega
  clear hb1
  go_loopw [5] (fun i wr => ∃ (t : Nat) (A : U4), t ≤ s.size ∧ i = .int .i64 (t : Int) ∧ A.ok ∧ A.nat = valF 0 (s.data.toList.take t) ∧ LBlk wr w.heap.size U4.zero.cells ∧ LBlk wr w1.heap.size A.cells ∧ Below w.heap.size w wr) (fun i _ => s.size - (intOf i).toNat)
  case atStart => exact ⟨0, U4.zero, by omega, rfl, zero_ok, rfl, hbR.alloc _, LBlk.new w1 _, hbw.alloc (by omega) _⟩
  case round =>
    clear hbR hbw
    obtain ⟨t, A, ht, rfl, hA, hAn, hkR, hkS, hbe⟩ := hrel
    have HA := Lib.hid (And.intro hA hAn)
    obtain ⟨c0, c1, c2, c3⟩ := hkS.all
    obtain ⟨d0, d1, d2, d3⟩ := hkR.all
    have f0 := hkR.free 0
    have f1 := hkR.free 1
    have f2 := hkR.free 2
    have f3 := hkR.free 3
    have hbs := hbe.size
    by_cases hlt : t < s.size
    · have htl : t < s.data.toList.length := by have := HZ.out; omega
      have hv1 := valF_succ s.data.toList t htl
      rw [← hAn] at hv1
      have hle := valF_take s.data.toList (t + 1)
      have hsd : s.data.toList[t] = s[t] := rfl
      rw [hsd] at hv1
      obtain ⟨g1, g2⟩ := HG.out t hlt
      have HMU := (mul_any A 10 · hA (by decide))
      have i1 : (t : Int) < (s.size : Int) := by omega
      have i2 : (0 : Int) ≤ (t : Int) := by omega
      obtain ⟨dd, hdd⟩ : ∃ dd, dd = s[t].toNat - 48 := ⟨_, rfl⟩
      have e48 : (s[t].toNat : Int) - 48 = (dd : Int) := by omega
      have i3 : (48 : Int) ≤ (s[t].toNat : Int) := by omega
      have i4 : (dd : Int) ≤ 9 := by omega
      rw [← hdd] at hv1
      by_cases hf : A.nat * 10 < top
      · have hmu : mulU A 10 = (ofN (A.nat * 10), true) := by unfold mulU; rw [if_pos hf]
        rw [hmu] at HMU
        obtain ⟨T, hT⟩ : ∃ T, T = ofN (A.nat * 10) := ⟨_, rfl⟩
        rw [← hT] at HMU
        have hTk : T.ok := by rw [hT]; exact ofN_ok _
        have hTn : T.nat = A.nat * 10 := by rw [hT]; exact nat_ofN hf
        unfold U4.val U4.cells at HMU
        have HM := Lib.hid HMU
        have HT := Lib.hid (And.intro hTk hTn)
        have HV := Lib.hid (And.intro hv1 hle)
        have HKS := Lib.hid hkS
        have HKR := Lib.hid hkR
        have hlS := hkS.lt
        clear HMU hT hTk hTn hmu hf hv1 hle hA hAn hkS hkR hdd hsd
        go_wp2_with fail
        refine (HM.out _).mono ?_
        rintro e w2 ⟨rfl, hb2⟩
        have hkR2 := HKR.out.below hb2 HKR.out.lt
        have hkS2 := HKS.out.below hb2 HKS.out.lt
        have hbe2 := below_chain hbe hbs hb2
        have hbs2 := hb2.size
        clear hbe hb2 c0 c1 c2 c3 d0 d1 d2 d3 f0 f1 f2 f3
        have HK2 := Lib.hid (And.intro hkR2 (And.intro hkS2 hbe2))
        clear hkR2 hkS2 hbe2
        go_wp2_with fail
        have hk6 : LBlk (w2.alloc (.cells T.cells 24)) w2.heap.size T.cells := LBlk.new w2 _
        have hkR3 := HK2.out.1.alloc (.cells T.cells 24)
        have hkS3 := HK2.out.2.1.alloc (.cells T.cells 24)
        have hbe3 := HK2.out.2.2.alloc HK2.out.2.2.size (.cells T.cells 24)
        unfold U4.cells at hk6 hkR3 hkS3 hbe3
        have hg6 : w2.heap.size < (w2.alloc (.cells #[.int .u64 (T.a : Int), .int .u64 (T.b : Int), .int .u64 (T.c : Int), .int .u64 (T.d : Int)] 24)).heap.size := by simp
        have hne : w1.heap.size ≠ w2.heap.size := by omega
        generalize (w2.alloc (.cells #[.int .u64 (T.a : Int), .int .u64 (T.b : Int), .int .u64 (T.c : Int), .int .u64 (T.d : Int)] 24)) = w3 at *
        generalize w2.heap.size = g6 at *
        obtain ⟨e0, e1, e2, e3⟩ := (show LBlk w3 g6 T.cells from hk6).all
        have HADD := (add_any T ⟨dd, 0, 0, 0⟩ · HT.out.1 (digit_ok (by omega)))
        obtain ⟨U, hU⟩ : ∃ U, U = (addU T ⟨dd, 0, 0, 0⟩).1 := ⟨_, rfl⟩
        obtain ⟨fit, hfit⟩ : ∃ fit, fit = (addU T ⟨dd, 0, 0, 0⟩).2 := ⟨_, rfl⟩
        rw [← hU, ← hfit] at HADD
        unfold U4.val U4.cells at HADD
        have HAD := Lib.hid HADD
        have HUF := Lib.hid (And.intro hU hfit)
        have HOF := Lib.hid (of_any dd)
        have HK3 := Lib.hid (And.intro hkR3 (And.intro hkS3 hbe3))
        clear HADD hU hfit hk6 hkR3 hkS3 hbe3
        have hbe3s := HK3.out.2.2.size
        have y1 : IntKind.u8.wrap (dd : Int) = (dd : Int) := by simp [IntKind.wrap, IntKind.bits, IntKind.signed]; omega
        have y2 : IntKind.u64.wrap (dd : Int) = (dd : Int) := by simp [IntKind.wrap, IntKind.bits, IntKind.signed]; omega
        have y3 : IntKind.u8.wrap ((s[t].toNat : Int) - 48) = (dd : Int) := by rw [e48]; exact y1
        have hS3 := HK3.out.2.1.lt
        go_region_with (first
            | (go_at_call 23; refine (HOF.out _).mono ?_; rintro e w4 ⟨rfl, hb4⟩; have hg7 : g6 < w4.heap.size := Nat.lt_of_lt_of_le hg6 hb4.size; have a0 := (hb4.cell (p := ⟨g6, 0, none⟩) hg6).trans e0; have a1 := (hb4.cell (p := ⟨g6, 1, none⟩) hg6).trans e1; have a2 := (hb4.cell (p := ⟨g6, 2, none⟩) hg6).trans e2; have a3 := (hb4.cell (p := ⟨g6, 3, none⟩) hg6).trans e3; have hS4 := (show LBlk w3.drew w1.heap.size A.cells from HK3.out.2.1).below hb4 hS3)
            | (go_at_call 11; refine (HAD.out _).mono ?_; rintro e w5 ⟨rfl, hb5⟩; have hS5 := hS4.below hb5 hS4.lt; obtain ⟨p0, p1, p2, p3⟩ := hS5.all; have q0 := hS5.free 0; have q1 := hS5.free 1; have q2 := hS5.free 2; have q3 := hS5.free 3))
        all_goals
          have hR5 := ((show LBlk w3.drew w.heap.size U4.zero.cells from HK3.out.1).below hb4 HK3.out.1.lt).below hb5 (Nat.lt_of_lt_of_le HK3.out.1.lt hb4.size)
          have hbe5 : Below w.heap.size w w5 := below_chain (below_chain (show Below w.heap.size w w3.drew from below_drewN' HK3.out.2.2 1) hbe3s hb4) (Nat.le_trans hbe3s hb4.size) hb5
          have hS6 := hS5.set4 U
          have hR6 := (((hR5.far (show w.heap.size ≠ w1.heap.size by omega) 0 (.int .u64 (U.a : Int))).far (show w.heap.size ≠ w1.heap.size by omega) 1 (.int .u64 (U.b : Int))).far (show w.heap.size ≠ w1.heap.size by omega) 2 (.int .u64 (U.c : Int))).far (show w.heap.size ≠ w1.heap.size by omega) 3 (.int .u64 (U.d : Int))
          have hSw : w.heap.size ≤ w1.heap.size := by omega
          have hbe6 := (((hbe5.setCell (p := ⟨w1.heap.size, 0, none⟩) hSw (.int .u64 (U.a : Int))).setCell (p := ⟨w1.heap.size, 1, none⟩) hSw (.int .u64 (U.b : Int))).setCell (p := ⟨w1.heap.size, 2, none⟩) hSw (.int .u64 (U.c : Int))).setCell (p := ⟨w1.heap.size, 3, none⟩) hSw (.int .u64 (U.d : Int))
          have HF := Lib.hid (And.intro hS6 (And.intro hR6 hbe6))
          obtain ⟨d0, d1, d2, d3⟩ := hR6.all
          have f0 := hR6.free 0
          have f1 := hR6.free 1
          have f2 := hR6.free 2
          have f3 := hR6.free 3
          clear hS6 hR6 hbe6 hbe5 hR5 hS5 p0 p1 p2 p3 q0 q1 q2 q3 e0 e1 e2 e3 hb4 hb5
          generalize (((w5.setCell { block := w1.heap.size, off := 0 } (Value.int IntKind.u64 ↑U.a)).setCell { block := w1.heap.size, off := 1 } (Value.int IntKind.u64 ↑U.b)).setCell { block := w1.heap.size, off := 2 } (Value.int IntKind.u64 ↑U.c)).setCell { block := w1.heap.size, off := 3 } (Value.int IntKind.u64 ↑U.d) = w6 at *
          cases fit with
          | true =>
            go_wp2
            go_roundw
            case rel =>
              obtain ⟨y5, y6⟩ := add_yes HUF.out.2
              have y7 : U = ofN (T.nat + dd) := HUF.out.1.trans y6
              refine ⟨t + 1, U, by omega, by go_num, by rw [y7]; exact ofN_ok _, ?_, HF.out.2.1, HF.out.1, HF.out.2.2⟩
              rw [HV.out.1, y7, nat_ofN y5, HT.out.2]
            case measure => simp [intOf]; omega
          | false =>
            have y8 := add_nope HUF.out.2
            have hpo : parsed s.data.toList = (U4.zero, 10) := parsed_over (by have := HV.out.1; have := HV.out.2; have := HT.out.2; omega)
            have HPO := Lib.hid hpo
            clear y8 hpo
            go_wp2
            refine bodyPost_ret (v := .tuple #[.agg U4.zero.cells, .int .i64 10]) ?_ rfl ⟨?_, ?_⟩
            · simp [results, Tryd.results24, go_sem, U4.cells, U4.zero, d0, d1, d2, d3]
            · rw [HPO.out]; rfl
            · have hg : w.heap.size ≤ w.heap.size := Nat.le_refl _
              exact (((HF.out.2.2.setCell hg _).setCell hg _).setCell hg _).setCell hg _
      · have hmu : mulU A 10 = (U4.zero, false) := by unfold mulU; rw [if_neg hf]
        rw [hmu] at HMU
        have hpo : parsed s.data.toList = (U4.zero, 10) := parsed_over (by omega)
        unfold U4.val U4.cells at HMU
        replace HMU : ∀ W, Calls Tryd.prog 19 #[.agg #[.int .u64 (A.a : Int), .int .u64 (A.b : Int), .int .u64 (A.c : Int), .int .u64 (A.d : Int)], .int .u64 10] W fun e w' => e = .returned (.tuple #[.agg #[.int .u64 0, .int .u64 0, .int .u64 0, .int .u64 0], .bool false]) ∧ Below W.heap.size W w' := HMU
        have HM := Lib.hid HMU
        have HKS := Lib.hid hkS
        have HKR := Lib.hid hkR
        have HPO := Lib.hid hpo
        clear HMU hmu hf hv1 hle hA hAn hkS hkR hdd hsd hpo
        go_wp2_with fail
        refine (HM.out _).mono ?_
        rintro e w2 ⟨rfl, hb2⟩
        have hkR2 := HKR.out.below hb2 HKR.out.lt
        have hbe2 := below_chain hbe hbs hb2
        clear hbe hb2 c0 c1 c2 c3 d0 d1 d2 d3 f0 f1 f2 f3
        obtain ⟨d0, d1, d2, d3⟩ := hkR2.all
        have f0 := hkR2.free 0
        have f1 := hkR2.free 1
        have f2 := hkR2.free 2
        have f3 := hkR2.free 3
        have hlt2 := hkR2.lt
        have hz4 : LBlk (((((w2.setCell ⟨w.heap.size, 0, none⟩ (.int .u64 0)).setCell ⟨w.heap.size, 1, none⟩ (.int .u64 0)).setCell ⟨w.heap.size, 2, none⟩ (.int .u64 0)).setCell ⟨w.heap.size, 3, none⟩ (.int .u64 0)).alloc (.cells #[.int .u64 0, .int .u64 0, .int .u64 0, .int .u64 0] 24)) w.heap.size U4.zero.cells := (hkR2.set4 U4.zero).alloc _
        obtain ⟨z0, z1, z2, z3⟩ := hz4.all
        have hg : w.heap.size ≤ w.heap.size := Nat.le_refl _
        have hb4 := ((((hbe2.setCell (p := ⟨w.heap.size, 0, none⟩) hg (.int .u64 0)).setCell (p := ⟨w.heap.size, 1, none⟩) hg (.int .u64 0)).setCell (p := ⟨w.heap.size, 2, none⟩) hg (.int .u64 0)).setCell (p := ⟨w.heap.size, 3, none⟩) hg (.int .u64 0)).alloc (by have := hbe2.size; simpa using this) (.cells U4.zero.cells 24)
        have HB3 := Lib.hid hb4
        have HZ4 := Lib.hid (And.intro z0 (And.intro z1 (And.intro z2 z3)))
        clear hkR2 hbe2 hz4 hb4 z0 z1 z2 z3
        go_wp2_with fail
        refine bodyPost_ret (v := .tuple #[.agg U4.zero.cells, .int .i64 10]) ?_ rfl ⟨?_, ?_⟩
        · obtain ⟨z0, z1, z2, z3⟩ := HZ4.out
          simp [results, Tryd.results24, go_sem, U4.cells, U4.zero, z0, z1, z2, z3]
        · rw [HPO.out]; rfl
        · exact HB3.out
    · have hte : t = s.size := by omega
      have hpa : parsed s.data.toList = (A, 0) := by
        unfold parsed
        have e1 : valF 0 s.data.toList = A.nat := by rw [hAn, hte, List.take_of_length_le (by have := HZ.out; omega)]
        rw [e1, if_pos (nat_lt hA), ofN_nat hA]
      have HPO := Lib.hid hpa
      have i1 : ¬ (t : Int) < (s.size : Int) := by omega
      have HBE := Lib.hid hbe
      clear hpa hte hA hAn hkR hkS hbe
      go_wp2_with fail
      refine bodyPost_ret (v := .tuple #[.agg A.cells, .int .i64 0]) ?_ rfl ⟨?_, ?_⟩
      · simp [results, Tryd.results24, go_sem, U4.cells, d0, d1, d2, d3]
      · rw [HPO.out]; rfl
      · have hg : w.heap.size ≤ w.heap.size := Nat.le_refl _
        exact (((HBE.out.setCell hg _).setCell hg _).setCell hg _).setCell hg _
end Go.Proofs.YthiacmpkbioahaaDoor
