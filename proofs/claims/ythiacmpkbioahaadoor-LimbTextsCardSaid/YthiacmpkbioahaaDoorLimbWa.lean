
/- The walk of the document's Parse, of a text of one sign. -/
import Derived.Test.YthiacmpkbioahaaDoorLimbW
namespace Go.Proofs.YthiacmpkbioahaaDoor
open Go Go.RowKit
set_option linter.unusedVariables false

set_option maxRecDepth 100000 in
set_option maxHeartbeats 16000000 in
theorem rparse_a (s : ByteArray) (w : World) (hs : s.size ≤ maxLen) (c : UInt8) (r : List UInt8) (hl : s.data.toList = c :: r) (hz : zeroAhead (c :: r) = false) (hr : ¬ 1 < s.size) : Calls Tryd.prog 25 #[.string s] w fun e w' => e = .returned (.tuple #[(parseM (c :: r)).1.val, .int .i64 (parseM (c :: r)).2]) ∧ Below w.heap.size w w' := by
  have hbR : LBlk (w.alloc (.cells #[.int .u64 0, .int .u64 0, .int .u64 0, .int .u64 0] 24)) w.heap.size U4.zero.cells := LBlk.new w U4.zero.cells
  have hb0 : Below w.heap.size w (w.alloc (.cells #[.int .u64 0, .int .u64 0, .int .u64 0, .int .u64 0] 24)) := (Below.refl _ _).alloc (Nat.le_refl _) _
  have HR := Lib.hid (And.intro hbR hb0)
  unfold maxLen at hs
  have HSL := Lib.hid (show s.data.toList.length = s.size from Lib.size_eq s)
  clear hbR hb0
  obtain ⟨hne, hsz, h0, hc⟩ := str_some hl
  have i0 : (0 : Int) < (s.size : Int) := by omega
  have hcz : (s[0].toNat : Int) = (c.toNat : Int) := by rw [hc]
  rw [hl] at HSL
  have hget : ∀ (t : Nat) (h1 : t < s.size) (h2 : t < (c :: r).length), (c :: r)[t] = s[t] := fun t h1 h2 => by
    have : s.data.toList[t]'(by rw [hl]; exact h2) = s[t] := rfl
    rw [← this]
    simp only [hl]
  have HGE := Lib.hid hget
  have HC := Lib.hid hc
  clear hl hc hget
  have hdo : decOk (c :: r) = (c :: r).all digC := by unfold decOk; rw [hz]; simp
  have HDO := Lib.hid hdo
  have HSH := Lib.hid hr
  clear hz hdo
  have i1 : ¬ (1 : Int) < (s.size : Int) := by omega
  clear hr hcz
  have hs9 := hs
  go_enter Tryd.func25, Tryd.ntmps25
  go_wp2_with fail
  clear i1 hne
  go_loopw [4] (fun i wr => ∃ t : Nat, t ≤ s.size ∧ i = .int .i64 (t : Int) ∧ (∀ (k : Nat) (hk : k < (c :: r).length), k < t → digC (c :: r)[k] = true) ∧ LBlk wr w.heap.size U4.zero.cells ∧ Below w.heap.size w wr) (fun i _ => s.size - (intOf i).toNat)
  case atStart => exact ⟨0, by omega, rfl, fun k hk h => absurd h (by omega), HR.out.1, HR.out.2⟩
  case round =>
    obtain ⟨t, ht, rfl, hdig, hkR, hbe⟩ := hrel
    by_cases hlt : t < s.size
    · have htl : t < (c :: r).length := by rw [HSL.out]; exact hlt
      have hg := HGE.out t hlt htl
      have j1 : (t : Int) < (s.size : Int) := by omega
      have j2 : (0 : Int) ≤ (t : Int) := by omega
      have HDG := Lib.hid hdig
      have HKR := Lib.hid (And.intro hkR hbe)
      by_cases hdg : digC (c :: r)[t] = true
      · obtain ⟨g1, g2⟩ := digC_iff.1 hdg
        rw [hg] at g1 g2
        have j3 : ¬ (s[t].toNat : Int) < 48 := by omega
        have j4 : ¬ (57 : Int) < (s[t].toNat : Int) := by omega
        have HD2 := Lib.hid hdg
        clear hdig hdg hg g1 g2 hkR hbe
        go_wp2_with fail
        exact ⟨⟨t + 1, by omega, by simp, fun k hk h => (by
              by_cases e : k = t
              · subst e; exact HD2.out
              · exact HDG.out k hk (by omega)), HKR.out.1, HKR.out.2⟩, by (simp [intOf]; try omega)⟩
      · have hdo : decOk (c :: r) = false := by
          rw [HDO.out]
          exact List.all_eq_false.2 ⟨_, List.getElem_mem htl, hdg⟩
        have HPO : Hid (parseM (c :: r) = (U4.zero, 11)) := Lib.hid (by unfold parseM; rw [hdo]; rfl)
        have hd2 : s[t].toNat < 48 ∨ (¬ s[t].toNat < 48 ∧ 57 < s[t].toNat) := by
          rw [← hg]
          have : ¬ (48 ≤ (c :: r)[t].toNat ∧ (c :: r)[t].toNat ≤ 57) := fun h => hdg (digC_iff.2 h)
          omega
        obtain ⟨d0, d1, d2, d3⟩ := LBlk.all (s := U4.zero) hkR
        have f0 := (show LBlk _ _ U4.zero.cells from hkR).free 0
        have f1 := (show LBlk _ _ U4.zero.cells from hkR).free 1
        have f2 := (show LBlk _ _ U4.zero.cells from hkR).free 2
        have f3 := (show LBlk _ _ U4.zero.cells from hkR).free 3
        clear hdig hdg hg hkR hdo HDG HKR
        rcases hd2 with hd2 | ⟨hd2, hd3⟩
        · have j3 : (s[t].toNat : Int) < 48 := by omega
          clear hd2
          go_wp2_with fail
          refine bodyPost_ret (v := .tuple #[.agg U4.zero.cells, .int .i64 11]) ?_ rfl ⟨?_, ?_⟩
          · simp [results, Tryd.results25, go_sem, U4.cells, U4.zero, d0, d1, d2, d3]
          · rw [HPO.out]; rfl
          · have hg : w.heap.size ≤ w.heap.size := Nat.le_refl _
            first
              | exact hbe
              | exact (((hbe.setCell hg _).setCell hg _).setCell hg _).setCell hg _
        · have j3 : ¬ (s[t].toNat : Int) < 48 := by omega
          have j4 : (57 : Int) < (s[t].toNat : Int) := by omega
          clear hd2 hd3
          go_wp2_with fail
          refine bodyPost_ret (v := .tuple #[.agg U4.zero.cells, .int .i64 11]) ?_ rfl ⟨?_, ?_⟩
          · simp [results, Tryd.results25, go_sem, U4.cells, U4.zero, d0, d1, d2, d3]
          · rw [HPO.out]; rfl
          · have hg : w.heap.size ≤ w.heap.size := Nat.le_refl _
            first
              | exact hbe
              | exact (((hbe.setCell hg _).setCell hg _).setCell hg _).setCell hg _
    · have j1 : ¬ (t : Int) < (s.size : Int) := by omega
      have hall : decOk (c :: r) = true := by
        rw [HDO.out]
        exact List.all_eq_true.2 fun d hd => by
          obtain ⟨k, hk, rfl⟩ := List.getElem_of_mem hd
          exact hdig k hk (by rw [HSL.out] at hk; omega)
      have HAL := Lib.hid hall
      have HKR := Lib.hid (And.intro hkR hbe)
      clear hdig hall
      by_cases h78 : 78 < s.size
      · exact absurd h78 (by have := HSH.out; omega)
      · have j5 : ¬ (78 : Int) < (s.size : Int) := by omega
        clear hkR hbe
        go_wp2_with fail
        have hR1 := HKR.out.1.alloc (.cells U4.zero.cells 24)
        have hA1 : LBlk (wr.alloc (.cells U4.zero.cells 24)) wr.heap.size U4.zero.cells := LBlk.new wr _
        have hb1 := HKR.out.2.alloc HKR.out.2.size (.cells U4.zero.cells 24)
        have HNE : Hid (w.heap.size ≠ wr.heap.size) := Lib.hid (by have := HKR.out.1.lt; omega)
        have HLE : Hid (w.heap.size ≤ wr.heap.size) := Lib.hid HKR.out.2.size
        have H1A := Lib.hid (And.intro hR1 (And.intro hA1 hb1))
        clear hR1 hA1 hb1
        generalize hga : wr.heap.size = ga at *
        clear hga
        go_loopw [6] (fun i wq => ∃ (q : Nat) (A : U4), q ≤ s.size ∧ i = .int .i64 (q : Int) ∧ A.ok ∧ A.nat = valF 0 ((c :: r).take q) ∧ LBlk wq w.heap.size U4.zero.cells ∧ LBlk wq ga A.cells ∧ Below w.heap.size w wq) (fun i _ => s.size - (intOf i).toNat)
        case atStart => exact ⟨0, U4.zero, by omega, rfl, zero_ok, rfl, H1A.out.1, H1A.out.2.1, H1A.out.2.2⟩
        case round =>
          clear H1A
          obtain ⟨q, A, hq, rfl, hA, hAn, hkR2, hkS2, hbe2⟩ := hrel
          by_cases hlt2 : q < s.size
          · have hql : q < (c :: r).length := by rw [HSL.out]; exact hlt2
            have hg := HGE.out q hlt2 hql
            have hv1 := valF_succ (c :: r) q hql
            have hle := valF_take (c :: r) (q + 1)
            have hdd := decOk_all HAL.out _ (List.getElem_mem hql)
            obtain ⟨g1, g2⟩ := digC_iff.1 hdd
            rw [hg] at g1 g2 hv1
            rw [← hAn] at hv1
            obtain ⟨dd, hd⟩ : ∃ dd, dd = s[q].toNat - 48 := ⟨_, rfl⟩
            rw [← hd] at hv1
            have e48 : (s[q].toNat : Int) - 48 = (dd : Int) := by omega
            have hd9 : dd ≤ 9 := by omega
            have y1 : IntKind.u8.wrap (dd : Int) = (dd : Int) := by simp [IntKind.wrap, IntKind.bits, IntKind.signed]; omega
            have y2 : IntKind.u64.wrap (dd : Int) = (dd : Int) := by simp [IntKind.wrap, IntKind.bits, IntKind.signed]; omega
            have y3 : IntKind.u8.wrap ((s[q].toNat : Int) - 48) = (dd : Int) := by rw [e48]; exact y1
            have i1 : (q : Int) < (s.size : Int) := by omega
            have i2 : (0 : Int) ≤ (q : Int) := by omega
            have i3 : (48 : Int) ≤ (s[q].toNat : Int) := by omega
            have i4 : (dd : Int) ≤ 9 := by omega
            have hrs := rstep (d := dd) hA hd9
            have k1 := fun W => rmul_any A 10 W hA (by decide)
            obtain ⟨T, hT⟩ : ∃ T, T = (mulU A 10).1 := ⟨_, rfl⟩
            obtain ⟨mf, hmf⟩ : ∃ b, b = (mulU A 10).2 := ⟨_, rfl⟩
            rw [← hT, ← hmf] at k1 hrs
            have k2 := fun W => radd_any T ⟨dd, 0, 0, 0⟩ W hrs.1 (digit_ok hd9)
            obtain ⟨P, hP⟩ : ∃ P, P = (addU T ⟨dd, 0, 0, 0⟩).1 := ⟨_, rfl⟩
            obtain ⟨af, haf⟩ : ∃ b, b = (addU T ⟨dd, 0, 0, 0⟩).2 := ⟨_, rfl⟩
            rw [← hP, ← haf] at k2 hrs
            have hPk : (mf = true ∧ af = true) → P.ok := fun h => by rw [(hrs.2.1 h).2]; exact ofN_ok _
            unfold U4.val U4.cells at k1 k2
            dsimp only at k1 k2
            have K1 := Lib.hid k1
            have H2 := Lib.hid k2
            have HRS := Lib.hid (And.intro hrs.2 hPk)
            have HV := Lib.hid (And.intro hv1 hle)
            have HK := Lib.hid (And.intro hkR2 (And.intro hkS2 hbe2))
            obtain ⟨c0, c1, c2, c3⟩ := LBlk.all (s := A) hkS2
            clear hrs hPk k1 k2 hT hmf hP haf hd hdd g1 g2 hg hv1 hle hkR2 hkS2 hbe2 hA hAn hs hs9
            go_wp2_with fail
            refine (K1.out _).mono ?_
            rintro e w2 ⟨rfl, hb2⟩
            have hR3 := (HK.out.1.below hb2 HK.out.1.lt).alloc (.cells #[.int .u64 (T.a : Int), .int .u64 (T.b : Int), .int .u64 (T.c : Int), .int .u64 (T.d : Int)] 24)
            have hS3 := (HK.out.2.1.below hb2 HK.out.2.1.lt).alloc (.cells #[.int .u64 (T.a : Int), .int .u64 (T.b : Int), .int .u64 (T.c : Int), .int .u64 (T.d : Int)] 24)
            have hT3 : LBlk (w2.alloc (.cells #[.int .u64 (T.a : Int), .int .u64 (T.b : Int), .int .u64 (T.c : Int), .int .u64 (T.d : Int)] 24)) w2.heap.size T.cells := LBlk.new w2 T.cells
            have hb3 := (HK.out.2.2.trans (hb2.mono HK.out.2.2.size))
            replace hb3 := hb3.alloc hb3.size (.cells #[.int .u64 (T.a : Int), .int .u64 (T.b : Int), .int .u64 (T.c : Int), .int .u64 (T.d : Int)] 24)
            have HN7 : Hid (w2.heap.size ≠ ga ∧ w2.heap.size ≠ w.heap.size) := Lib.hid (by have h1 := (HK.out.2.1.below hb2 HK.out.2.1.lt).lt; have h2 := (HK.out.1.below hb2 HK.out.1.lt).lt; omega)
            have H3 := Lib.hid (And.intro hR3 (And.intro hS3 hb3))
            clear c0 c1 c2 c3 hb2 hR3 hS3 hb3 HK K1
            go_wp2_with fail
            generalize w2.alloc (.cells #[.int .u64 (T.a : Int), .int .u64 (T.b : Int), .int .u64 (T.c : Int), .int .u64 (T.d : Int)] 24) = w3 at *
            generalize w2.heap.size = g7 at *
            have hq3 : Below w3.heap.size w3 w3 := Below.refl _ _
            have HW : Hid (∀ Z, Below w3.heap.size w3 Z → Below w3.heap.size w3 Z ∧ (Z.cell? ⟨g7, 0, none⟩ = some (.int .u64 (T.a : Int)) ∧ Z.cell? ⟨g7, 1, none⟩ = some (.int .u64 (T.b : Int)) ∧ Z.cell? ⟨g7, 2, none⟩ = some (.int .u64 (T.c : Int)) ∧ Z.cell? ⟨g7, 3, none⟩ = some (.int .u64 (T.d : Int)))) := Lib.hid fun Z hz => ⟨hz, LBlk.all (s := T) (hT3.below hz hT3.lt)⟩
            have H1 : Hid (∀ Z, Below w3.heap.size w3 Z → Calls Tryd.prog 40 #[.int .u64 (dd : Int)] Z fun e w' => e = .returned (.agg #[.int .u64 (dd : Int), .int .u64 0, .int .u64 0, .int .u64 0]) ∧ Below Z.heap.size Z w') := Lib.hid fun Z _ => rof_any dd Z
            clear hT3
            have hd5 := hq3.drew
            have he5 := (hq3.alloc hq3.size (.cells #[.int .u64 0, .int .u64 0, .int .u64 0, .int .u64 0] 24)).drew
            have HZ5 : Hid (LBlk (w3.alloc (.cells #[.int .u64 0, .int .u64 0, .int .u64 0, .int .u64 0] 24)).drew w3.heap.size U4.zero.cells) := Lib.hid (LBlk.new w3 U4.zero.cells).drew
            go_region_held_law (fun W => W.cell? ⟨g7, 0, none⟩ = some (.int .u64 (T.a : Int)) ∧ W.cell? ⟨g7, 1, none⟩ = some (.int .u64 (T.b : Int)) ∧ W.cell? ⟨g7, 2, none⟩ = some (.int .u64 (T.c : Int)) ∧ W.cell? ⟨g7, 3, none⟩ = some (.int .u64 (T.d : Int)))
              (with_reducible first | exact (HW.out _ (Below.set4U (hb5.alloc hb5.size _) hb5.size _ _ _ _)).2 | exact (HW.out _ (Below.set4U hb5 (by first | exact ha5.size | exact hq3.size) _ _ _ _)).2 | exact (HW.out _ (hb5.alloc hb5.size _)).2 | exact (HW.out _ hb5).2 | exact (HW.out _ (ha5.alloc ha5.size _)).2 | exact (HW.out _ ha5).2 | exact (HW.out _ he5).2 | exact (HW.out _ hd5).2)
              (first
                | (go_at_call 40; first
                    | (refine (H1.out _ (HW.out _ hd5).1).mono ?_; rintro e wa5 ⟨rfl, hba5⟩
                       have ha5 := below_chain hd5 hd5.size hba5)
                    | (refine (H1.out _ (HW.out _ he5).1).mono ?_; rintro e wa5 ⟨rfl, hba5⟩
                       have ha5 := below_chain he5 he5.size hba5
                       have hfr5 := LBlk.below (cs := U4.zero.cells) HZ5.out hba5 (blk_lt HZ5.out)
                       obtain ⟨z0, z1, z2, z3⟩ := LBlk.all (s := U4.zero) hfr5
                       have f0 := hfr5.free 0
                       have f1 := hfr5.free 1
                       have f2 := hfr5.free 2
                       have f3 := hfr5.free 3))
                | (go_at_call 12; have hq' := ha5; refine (H2.out _).mono ?_; rintro e wb5 ⟨rfl, hbb5⟩; first
                    | (have hx := hfr5; have hb5 := below_chain ha5 ha5.size hbb5
                       have hfs5 := LBlk.below (cs := U4.zero.cells) hx hbb5 (blk_lt hx)
                       obtain ⟨z0, z1, z2, z3⟩ := LBlk.all (s := U4.zero) hfs5
                       have f0 := hfs5.free 0
                       have f1 := hfs5.free 1
                       have f2 := hfs5.free 2
                       have f3 := hfs5.free 3)
                    | (have hb5 := below_chain ha5 ha5.size hbb5)
                    | (have hya := ha5.alloc ha5.size (.cells #[.int .u64 0, .int .u64 0, .int .u64 0, .int .u64 0] 24)
                       have hb5 := below_chain hya hya.size hbb5
                       have hfs5 := LBlk.below (cs := U4.zero.cells) (LBlk.new _ _) hbb5 (by simp)
                       obtain ⟨z0, z1, z2, z3⟩ := LBlk.all (s := U4.zero) hfs5
                       have f0 := hfs5.free 0
                       have f1 := hfs5.free 1
                       have f2 := hfs5.free 2
                       have f3 := hfs5.free 3)))
            all_goals
              have hl31 := H3.out.1.lt
              have hl32 := H3.out.2.1.lt
              have hl33 := H3.out.2.2.size
              first
                | (have hx := hfr5
                   have hW5 := Below.set4U (g := w3.heap.size) hb5 (Nat.le_trans (Nat.le_refl _) hq3.size) (.int .u64 (P.a : Int)) (.int .u64 (P.b : Int)) (.int .u64 (P.c : Int)) (.int .u64 (P.d : Int))
                   have hU5 := LBlk.set4 (s := U4.zero) hfs5 P
                   generalize ((((wb5.setCell ⟨w3.heap.size, 0, none⟩ (.int .u64 (P.a : Int))).setCell ⟨w3.heap.size, 1, none⟩ (.int .u64 (P.b : Int))).setCell ⟨w3.heap.size, 2, none⟩ (.int .u64 (P.c : Int))).setCell ⟨w3.heap.size, 3, none⟩ (.int .u64 (P.d : Int))) = W5 at *
                   generalize w3.heap.size = g5 at *)
                | (have hx := hfs5
                   have hW5 := Below.set4U (g := wa5.heap.size) hb5 ha5.size (.int .u64 (P.a : Int)) (.int .u64 (P.b : Int)) (.int .u64 (P.c : Int)) (.int .u64 (P.d : Int))
                   have hU5 := LBlk.set4 (s := U4.zero) hfs5 P
                   generalize ((((wb5.setCell ⟨wa5.heap.size, 0, none⟩ (.int .u64 (P.a : Int))).setCell ⟨wa5.heap.size, 1, none⟩ (.int .u64 (P.b : Int))).setCell ⟨wa5.heap.size, 2, none⟩ (.int .u64 (P.c : Int))).setCell ⟨wa5.heap.size, 3, none⟩ (.int .u64 (P.d : Int))) = W5 at *
                   generalize wa5.heap.size = g5 at *)
                | (have hW5 := hb5.alloc hb5.size (.cells #[.int .u64 (P.a : Int), .int .u64 (P.b : Int), .int .u64 (P.c : Int), .int .u64 (P.d : Int)] 24)
                   have hU5 : LBlk (wb5.alloc (.cells #[.int .u64 (P.a : Int), .int .u64 (P.b : Int), .int .u64 (P.c : Int), .int .u64 (P.d : Int)] 24)) wb5.heap.size P.cells := LBlk.new wb5 P.cells
                   generalize wb5.alloc (.cells #[.int .u64 (P.a : Int), .int .u64 (P.b : Int), .int .u64 (P.c : Int), .int .u64 (P.d : Int)] 24) = W5 at *
                   generalize wb5.heap.size = g5 at *)
              have hR5 := H3.out.1.below hW5 hl31
              have hS5 := H3.out.2.1.below hW5 hl32
              have hb5' := H3.out.2.2.trans (hW5.mono hl33)
              clear hl31 hl32 hl33
              have H5 := Lib.hid (And.intro hR5 (And.intro hS5 (And.intro hb5' hU5)))
              cases mf with
              | false =>
                have HPO : Hid (parseM (c :: r) = (U4.zero, 10)) := Lib.hid (by
                  have h1 := HRS.out.1.2 (.inl rfl)
                  unfold parseM; rw [if_pos HAL.out]; exact parsed_over (by have := HV.out.1; have := HV.out.2; omega))
                obtain ⟨d0, d1, d2, d3⟩ := LBlk.all (s := U4.zero) hR5
                have f0 := (show LBlk _ _ U4.zero.cells from hR5).free 0
                have f1 := (show LBlk _ _ U4.zero.cells from hR5).free 1
                have f2 := (show LBlk _ _ U4.zero.cells from hR5).free 2
                have f3 := (show LBlk _ _ U4.zero.cells from hR5).free 3
                clear hR5 hS5 hU5 hW5
                go_wp2_with fail
                refine bodyPost_ret (v := .tuple #[.agg U4.zero.cells, .int .i64 10]) ?_ rfl ⟨?_, ?_⟩
                · simp [results, Tryd.results25, go_sem, U4.cells, U4.zero, d0, d1, d2, d3]
                · rw [HPO.out]; rfl
                · have hg : w.heap.size ≤ w.heap.size := Nat.le_refl _
                  first
                    | exact hb5'
                    | exact (((hb5'.setCell hg _).setCell hg _).setCell hg _).setCell hg _
              | true =>
                cases af with
                | false =>
                  have HPO : Hid (parseM (c :: r) = (U4.zero, 10)) := Lib.hid (by
                    have h1 := HRS.out.1.2 (.inr rfl)
                    unfold parseM; rw [if_pos HAL.out]; exact parsed_over (by have := HV.out.1; have := HV.out.2; omega))
                  obtain ⟨d0, d1, d2, d3⟩ := LBlk.all (s := U4.zero) hR5
                  have f0 := (show LBlk _ _ U4.zero.cells from hR5).free 0
                  have f1 := (show LBlk _ _ U4.zero.cells from hR5).free 1
                  have f2 := (show LBlk _ _ U4.zero.cells from hR5).free 2
                  have f3 := (show LBlk _ _ U4.zero.cells from hR5).free 3
                  clear hR5 hS5 hU5 hW5
                  go_wp2_with fail
                  refine bodyPost_ret (v := .tuple #[.agg U4.zero.cells, .int .i64 10]) ?_ rfl ⟨?_, ?_⟩
                  · simp [results, Tryd.results25, go_sem, U4.cells, U4.zero, d0, d1, d2, d3]
                  · rw [HPO.out]; rfl
                  · have hg : w.heap.size ≤ w.heap.size := Nat.le_refl _
                    first
                      | exact hb5'
                      | exact (((hb5'.setCell hg _).setCell hg _).setCell hg _).setCell hg _
                | true =>
                  obtain ⟨y5, y6⟩ := HRS.out.1.1 ⟨rfl, rfl⟩
                  have HY := Lib.hid (And.intro y5 y6)
                  obtain ⟨d0, d1, d2, d3⟩ := LBlk.all (s := P) hU5
                  obtain ⟨e0, e1, e2, e3⟩ := LBlk.all (s := A) hS5
                  have f0 := (show LBlk _ _ A.cells from hS5).free 0
                  have f1 := (show LBlk _ _ A.cells from hS5).free 1
                  have f2 := (show LBlk _ _ A.cells from hS5).free 2
                  have f3 := (show LBlk _ _ A.cells from hS5).free 3
                  have hS6 := (show LBlk _ _ A.cells from hS5).putU P
                  have hR6 := LBlk.farU hR5 HNE.out (.int .u64 (P.a : Int)) (.int .u64 (P.b : Int)) (.int .u64 (P.c : Int)) (.int .u64 (P.d : Int))
                  have hb6 := Below.setU hb5' HLE.out (.int .u64 (P.a : Int)) (.int .u64 (P.b : Int)) (.int .u64 (P.c : Int)) (.int .u64 (P.d : Int))
                  have H6 := Lib.hid (And.intro hR6 (And.intro hS6 hb6))
                  clear hR5 hS5 hb5' hU5 hW5 hS6 hR6 hb6 y5 y6 H5
                  go_wp2_with fail
                  exact ⟨⟨q + 1, P, by omega, by simp, HRS.out.2 ⟨rfl, rfl⟩, (by rw [HV.out.1, HY.out.2, nat_ofN HY.out.1]), H6.out.1, H6.out.2.1, H6.out.2.2⟩, by (simp [intOf]; try omega)⟩
          · have hte : q = s.size := by omega
            have hpa : parseM (c :: r) = (A, 0) := by
              unfold parseM parsed
              have e1 : valF 0 (c :: r) = A.nat := by rw [hAn, hte, List.take_of_length_le (by rw [HSL.out]; omega)]
              rw [if_pos HAL.out, e1, if_pos (nat_lt hA), ofN_nat hA]
            have HPO := Lib.hid hpa
            have i1 : ¬ (q : Int) < (s.size : Int) := by omega
            obtain ⟨c0, c1, c2, c3⟩ := LBlk.all (s := A) hkS2
            obtain ⟨d0, d1, d2, d3⟩ := LBlk.all (s := U4.zero) hkR2
            have f0 := (show LBlk _ _ U4.zero.cells from hkR2).free 0
            have f1 := (show LBlk _ _ U4.zero.cells from hkR2).free 1
            have f2 := (show LBlk _ _ U4.zero.cells from hkR2).free 2
            have f3 := (show LBlk _ _ U4.zero.cells from hkR2).free 3
            clear hpa hte hA hAn hkS2 hkR2 hs9 hs
            go_wp2_with fail
            refine bodyPost_ret (v := .tuple #[.agg A.cells, .int .i64 0]) ?_ rfl ⟨?_, ?_⟩
            · simp [results, Tryd.results25, go_sem, U4.cells, d0, d1, d2, d3]
            · rw [HPO.out]; rfl
            · have hg : w.heap.size ≤ w.heap.size := Nat.le_refl _
              exact (((hbe2.setCell hg _).setCell hg _).setCell hg _).setCell hg _
end Go.Proofs.YthiacmpkbioahaaDoor
