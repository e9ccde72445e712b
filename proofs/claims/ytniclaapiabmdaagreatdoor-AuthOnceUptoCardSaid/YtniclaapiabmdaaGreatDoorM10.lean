/- Texts joined: BankE. -/
import Derived.Test.YtniclaapiabmdaaGreatDoorM09
namespace Go.Proofs.YtniclaapiabmdaaGreatDoor
set_option maxRecDepth 100000
open Go Go.RowKit
set_option linter.unusedVariables false

set_option maxHeartbeats 8000000 in
theorem send_any {w : World} {y : Lyr} {l : List Lyr} {R : List Pr} (h : PileS w (y :: l)) (hs : SeenL ⟨#[]⟩ (y :: l) R) (hn : y.n + 2 ≤ maxLen) (a b d : ByteArray) (x : U4) (hx : x.ok) (ha : a.size ≤ 100000000) (hb : b.size ≤ 100000000) (hd : d.size ≤ 100000000) :
    Calls Tryz.prog 36 #[.pointer (some ⟨y.b, 0, none⟩), .string a, .string b, .string d, x.val] w fun e w' => e = .returned (.int .i64 (sendM R a b d x).1) ∧ BankS w y l (sendM R a b d x).2 2 w' := by
  have HR := Lib.hid (fun W => right_any a d x W (by unfold maxLen; omega) (by unfold maxLen; omega))
  have HG : Hid (∀ W, Below w.heap.size w W → BankS w y l R 0 W) := Lib.hid fun W hb => (BankS.refl h hs).up hb (Nat.le_refl 0)
  have HW := Lib.hid (boxU w x)
  have HN := Lib.hid (show y.n + 0 < maxLen ∧ y.n + (0 + 1) < maxLen by omega)
  have HI : Hid (∀ W, Calls Tryz.prog 43 #[.string b] W fun e w' => e = .returned (.bool (identB b)) ∧ W = w') := Lib.hid (fun W => ident_any b W (by unfold maxLen; omega))
  by_cases e0 : rightM a d x = 0
  · obtain ⟨hia, hdd, -⟩ := rightM_zero e0
    have HQ : Hid ((identB b = false → sendM R a b d x = (40, R)) ∧ (identB b = true → (subU (balM R a d) x).2 = false → sendM R a b d x = (71, R)) ∧ (identB b = true → (subU (balM R a d) x).2 = true → a = b → sendM R a b d x = (0, R)) ∧
        (identB b = true → (subU (balM R a d) x).2 = true → a ≠ b → (addU (balM R b d) x).2 = false → sendM R a b d x = (10, R)) ∧
        (identB b = true → (subU (balM R a d) x).2 = true → a ≠ b → (addU (balM R b d) x).2 = true → sendM R a b d x = (0, keepL (kBal b d) (addU (balM R b d) x).1 (keepL (kBal a d) (subU (balM R a d) x).1 R)))) := Lib.hid (by
      unfold sendM
      rw [if_pos e0]
      refine ⟨fun h1 => by simp [h1], fun h1 h2 => by simp [h1, h2], fun h1 h2 h3 => by subst h3; simp [h1, h2], fun h1 h2 h3 h4 => by simp [h1, h2, h3, h4], fun h1 h2 h3 h4 => by simp [h1, h2, h3, h4]⟩)
    rw [e0] at HR
    have HLa : Hid (∀ W, Below w.heap.size w W → Calls Tryz.prog 12 #[.pointer (some ⟨y.b, 0, none⟩), .string a, .string d] W fun e w' => e = .returned (balM R a d).val ∧ Below W.heap.size W w') := Lib.hid fun W hb => by
      rw [← balV_seen hs a d]; exact bal_any (h.up hb) a d ha hd
    have HLb : Hid (∀ W, Below w.heap.size w W → Calls Tryz.prog 12 #[.pointer (some ⟨y.b, 0, none⟩), .string b, .string d] W fun e w' => e = .returned (balM R b d).val ∧ Below W.heap.size W w') := Lib.hid fun W hw => by
      rw [← balV_seen hs b d]; exact bal_any (h.up hw) b d hb hd
    have HK1 := Lib.hid (fun W => (balKey_any a d W ha hd).mono fun e w' ⟨h1, h2⟩ => (⟨h1, h2.symm⟩ : _ ∧ w' = W))
    have HK2 := Lib.hid (fun W => (balKey_any b d W hb hd).mono fun e w' ⟨h1, h2⟩ => (⟨h1, h2.symm⟩ : _ ∧ w' = W))
    have HA := Lib.hid (fun W => sub_any (balM R a d) x W (balM_ok R a d) hx)
    have HB := Lib.hid (fun W => add_any (balM R b d) x W (balM_ok R b d) hx)
    have HPo := Lib.hid (subU_ok' (balM R a d) x)
    have HQo := Lib.hid (addU_ok' (balM R b d) x)
    have HF1 := Lib.hid (kBal_fits hia hdd)
    have HF2 : Hid (identB b = true → keyB (kBal b d) = true) := Lib.hid fun hib => kBal_fits hib hdd
    clear h hs hn hx e0 hia hdd ha hb hd
    generalize balM R a d = S at *
    generalize balM R b d = B at *
    generalize subU S x = P at *
    generalize addU B x = Q at *
    obtain ⟨P, p2⟩ := P
    obtain ⟨Q, q2⟩ := Q
    generalize sendM R a b d x = q at *
    generalize identB b = ib at *
    dsimp only at HA HB HPo HQo HQ
    unfold U4.val U4.cells at *
    go_enter Tryz.func36, Tryz.ntmps36
    go_wp2_with fail
    generalize w.alloc (.cells #[.int .u64 (x.a : Int), .int .u64 (x.b : Int), .int .u64 (x.c : Int), .int .u64 (x.d : Int)] 25) = W0 at *
    generalize w.heap.size = g0 at *
    refine (HR.out _).mono ?_
    rintro e w1 ⟨rfl, hq1⟩
    go_wp2_with fail
    refine (HI.out _).mono ?_
    rintro e w2 ⟨rfl, rfl⟩
    cases ib
    · have gg := HG.out _ (HW.out _ hq1).1
      go_wp2_with fail
      go_ret
      rw [HQ.out.1 (by trivial)]
      exact ⟨rfl, gg.up (Below.refl _ _) (by omega)⟩
    · have HF3 := Lib.hid (HF2.out rfl)
      clear HF2
      go_wp2_with fail
      have hd1 := hq1.drew
      have he1 := (hq1.alloc hq1.size (.cells #[.int .u64 0, .int .u64 0, .int .u64 0, .int .u64 0] 25)).drew
      have HZ1 : Hid (LBlk (w1.alloc (.cells #[.int .u64 0, .int .u64 0, .int .u64 0, .int .u64 0] 25)).drew w1.heap.size U4.zero.cells) := Lib.hid (LBlk.new w1 U4.zero.cells).drew
      go_region_held_law (fun W => W.cell? ⟨g0, 0, none⟩ = some (.int .u64 (x.a : Int)) ∧ W.cell? ⟨g0, 1, none⟩ = some (.int .u64 (x.b : Int)) ∧ W.cell? ⟨g0, 2, none⟩ = some (.int .u64 (x.c : Int)) ∧ W.cell? ⟨g0, 3, none⟩ = some (.int .u64 (x.d : Int)))
        (with_reducible first | exact (HW.out _ (Below.set4U (hb1.alloc hb1.size _) hb1.size _ _ _ _)).2 | exact (HW.out _ (Below.set4U hb1 (by first | exact ha1.size | exact hq1.size) _ _ _ _)).2 | exact (HW.out _ (hb1.alloc hb1.size _)).2 | exact (HW.out _ hb1).2 | exact (HW.out _ (ha1.alloc ha1.size _)).2 | exact (HW.out _ ha1).2 | exact (HW.out _ he1).2 | exact (HW.out _ hd1).2)
        (first
          | (go_at_call 12; first
              | (refine (HLa.out _ (HW.out _ hd1).1).mono ?_; rintro e wa1 ⟨rfl, hba1⟩
                 have ha1 := below_chain hd1 hd1.size hba1)
              | (refine (HLa.out _ (HW.out _ he1).1).mono ?_; rintro e wa1 ⟨rfl, hba1⟩
                 have ha1 := below_chain he1 he1.size hba1
                 have hfr1 := LBlk.below (cs := U4.zero.cells) HZ1.out hba1 (blk_lt HZ1.out)
                 obtain ⟨z0, z1, z2, z3⟩ := LBlk.all (s := U4.zero) hfr1
                 have f0 := hfr1.free 0
                 have f1 := hfr1.free 1
                 have f2 := hfr1.free 2
                 have f3 := hfr1.free 3))
          | (go_at_call 88; have hq' := ha1; refine (HA.out _).mono ?_; rintro e wb1 ⟨rfl, hbb1⟩; first
              | (have hx := hfr1; have hb1 := below_chain ha1 ha1.size hbb1
                 have hfs1 := LBlk.below (cs := U4.zero.cells) hx hbb1 (blk_lt hx)
                 obtain ⟨z0, z1, z2, z3⟩ := LBlk.all (s := U4.zero) hfs1
                 have f0 := hfs1.free 0
                 have f1 := hfs1.free 1
                 have f2 := hfs1.free 2
                 have f3 := hfs1.free 3)
              | (have hb1 := below_chain ha1 ha1.size hbb1)
              | (have hya := ha1.alloc ha1.size (.cells #[.int .u64 0, .int .u64 0, .int .u64 0, .int .u64 0] 25)
                 have hb1 := below_chain hya hya.size hbb1
                 have hfs1 := LBlk.below (cs := U4.zero.cells) (LBlk.new _ _) hbb1 (by simp)
                 obtain ⟨z0, z1, z2, z3⟩ := LBlk.all (s := U4.zero) hfs1
                 have f0 := hfs1.free 0
                 have f1 := hfs1.free 1
                 have f2 := hfs1.free 2
                 have f3 := hfs1.free 3)))
      all_goals
        first
          | (have hx := hfr1
             have hW1 := Below.set4U (g := w1.heap.size) hb1 (Nat.le_trans (Nat.le_refl _) hq1.size) (.int .u64 (P.a : Int)) (.int .u64 (P.b : Int)) (.int .u64 (P.c : Int)) (.int .u64 (P.d : Int))
             have hU1 := LBlk.set4 (s := U4.zero) hfs1 P
             generalize ((((wb1.setCell ⟨w1.heap.size, 0, none⟩ (.int .u64 (P.a : Int))).setCell ⟨w1.heap.size, 1, none⟩ (.int .u64 (P.b : Int))).setCell ⟨w1.heap.size, 2, none⟩ (.int .u64 (P.c : Int))).setCell ⟨w1.heap.size, 3, none⟩ (.int .u64 (P.d : Int))) = W1 at *
             generalize w1.heap.size = g1 at *)
          | (have hx := hfs1
             have hW1 := Below.set4U (g := wa1.heap.size) hb1 ha1.size (.int .u64 (P.a : Int)) (.int .u64 (P.b : Int)) (.int .u64 (P.c : Int)) (.int .u64 (P.d : Int))
             have hU1 := LBlk.set4 (s := U4.zero) hfs1 P
             generalize ((((wb1.setCell ⟨wa1.heap.size, 0, none⟩ (.int .u64 (P.a : Int))).setCell ⟨wa1.heap.size, 1, none⟩ (.int .u64 (P.b : Int))).setCell ⟨wa1.heap.size, 2, none⟩ (.int .u64 (P.c : Int))).setCell ⟨wa1.heap.size, 3, none⟩ (.int .u64 (P.d : Int))) = W1 at *
             generalize wa1.heap.size = g1 at *)
          | (have hW1 := hb1.alloc hb1.size (.cells #[.int .u64 (P.a : Int), .int .u64 (P.b : Int), .int .u64 (P.c : Int), .int .u64 (P.d : Int)] 25)
             have hU1 : LBlk (wb1.alloc (.cells #[.int .u64 (P.a : Int), .int .u64 (P.b : Int), .int .u64 (P.c : Int), .int .u64 (P.d : Int)] 25)) wb1.heap.size P.cells := LBlk.new wb1 P.cells
             generalize wb1.alloc (.cells #[.int .u64 (P.a : Int), .int .u64 (P.b : Int), .int .u64 (P.c : Int), .int .u64 (P.d : Int)] 25) = W1 at *
             generalize wb1.heap.size = g1 at *)
        have HX1 : Hid (∀ W, Below W1.heap.size W1 W → Below g0 w W ∧ W.cell? ⟨g0, 0, none⟩ = some (.int .u64 (x.a : Int)) ∧ W.cell? ⟨g0, 1, none⟩ = some (.int .u64 (x.b : Int)) ∧ W.cell? ⟨g0, 2, none⟩ = some (.int .u64 (x.c : Int)) ∧ W.cell? ⟨g0, 3, none⟩ = some (.int .u64 (x.d : Int)) ∧ W.cell? ⟨g1, 0, none⟩ = some (.int .u64 (P.a : Int)) ∧ W.cell? ⟨g1, 1, none⟩ = some (.int .u64 (P.b : Int)) ∧ W.cell? ⟨g1, 2, none⟩ = some (.int .u64 (P.c : Int)) ∧ W.cell? ⟨g1, 3, none⟩ = some (.int .u64 (P.d : Int))) := Lib.hid fun W hb => by
          obtain ⟨q1, q2, q3, q4, q5⟩ := HW.out _ (below_chain hW1 hW1.size hb)
          obtain ⟨r1, r2, r3, r4⟩ := LBlk.all (s := P) (LBlk.below hU1 hb (blk_lt hU1))
          exact ⟨q1, q2, q3, q4, q5, r1, r2, r3, r4⟩
        have hq2 := Below.refl W1.heap.size W1
        clear hU1 hW1
        cases p2
        · have gg := HG.out _ (HX1.out _ hq2).1
          go_wp2_with fail
          go_ret
          rw [HQ.out.2.1 (by trivial) (by trivial)]
          exact ⟨rfl, gg.up (Below.refl _ _) (by omega)⟩
        · by_cases eab : a = b
          · have HE := Lib.hid eab
            have gg := HG.out _ (HX1.out _ hq2).1
            subst eab
            go_wp2_with fail
            go_ret
            rw [HQ.out.2.2.1 (by trivial) (by trivial) HE.out]
            exact ⟨rfl, gg.up (Below.refl _ _) (by omega)⟩
          · have HE := Lib.hid eab
            have hbe : (a.toList == b.toList) = false := beq_toList_ne eab
            go_wp2_with fail
            have hd2 := hq2.drew
            have he2 := (hq2.alloc hq2.size (.cells #[.int .u64 0, .int .u64 0, .int .u64 0, .int .u64 0] 25)).drew
            have HZ2 : Hid (LBlk (W1.alloc (.cells #[.int .u64 0, .int .u64 0, .int .u64 0, .int .u64 0] 25)).drew W1.heap.size U4.zero.cells) := Lib.hid (LBlk.new W1 U4.zero.cells).drew
            go_region_held_law (fun W => W.cell? ⟨g0, 0, none⟩ = some (.int .u64 (x.a : Int)) ∧ W.cell? ⟨g0, 1, none⟩ = some (.int .u64 (x.b : Int)) ∧ W.cell? ⟨g0, 2, none⟩ = some (.int .u64 (x.c : Int)) ∧ W.cell? ⟨g0, 3, none⟩ = some (.int .u64 (x.d : Int)) ∧ W.cell? ⟨g1, 0, none⟩ = some (.int .u64 (P.a : Int)) ∧ W.cell? ⟨g1, 1, none⟩ = some (.int .u64 (P.b : Int)) ∧ W.cell? ⟨g1, 2, none⟩ = some (.int .u64 (P.c : Int)) ∧ W.cell? ⟨g1, 3, none⟩ = some (.int .u64 (P.d : Int)))
              (with_reducible first | exact (HX1.out _ (Below.set4U (hb2.alloc hb2.size _) hb2.size _ _ _ _)).2 | exact (HX1.out _ (Below.set4U hb2 (by first | exact ha2.size | exact hq2.size) _ _ _ _)).2 | exact (HX1.out _ (hb2.alloc hb2.size _)).2 | exact (HX1.out _ hb2).2 | exact (HX1.out _ (ha2.alloc ha2.size _)).2 | exact (HX1.out _ ha2).2 | exact (HX1.out _ he2).2 | exact (HX1.out _ hd2).2)
              (first
                | (go_at_call 12; first
                    | (refine (HLb.out _ (HX1.out _ hd2).1).mono ?_; rintro e wa2 ⟨rfl, hba2⟩
                       have ha2 := below_chain hd2 hd2.size hba2)
                    | (refine (HLb.out _ (HX1.out _ he2).1).mono ?_; rintro e wa2 ⟨rfl, hba2⟩
                       have ha2 := below_chain he2 he2.size hba2
                       have hfr2 := LBlk.below (cs := U4.zero.cells) HZ2.out hba2 (blk_lt HZ2.out)
                       obtain ⟨z0, z1, z2, z3⟩ := LBlk.all (s := U4.zero) hfr2
                       have f0 := hfr2.free 0
                       have f1 := hfr2.free 1
                       have f2 := hfr2.free 2
                       have f3 := hfr2.free 3))
                | (go_at_call 89; have hq' := ha2; refine (HB.out _).mono ?_; rintro e wb2 ⟨rfl, hbb2⟩; first
                    | (have hx := hfr2; have hb2 := below_chain ha2 ha2.size hbb2
                       have hfs2 := LBlk.below (cs := U4.zero.cells) hx hbb2 (blk_lt hx)
                       obtain ⟨z0, z1, z2, z3⟩ := LBlk.all (s := U4.zero) hfs2
                       have f0 := hfs2.free 0
                       have f1 := hfs2.free 1
                       have f2 := hfs2.free 2
                       have f3 := hfs2.free 3)
                    | (have hb2 := below_chain ha2 ha2.size hbb2)
                    | (have hya := ha2.alloc ha2.size (.cells #[.int .u64 0, .int .u64 0, .int .u64 0, .int .u64 0] 25)
                       have hb2 := below_chain hya hya.size hbb2
                       have hfs2 := LBlk.below (cs := U4.zero.cells) (LBlk.new _ _) hbb2 (by simp)
                       obtain ⟨z0, z1, z2, z3⟩ := LBlk.all (s := U4.zero) hfs2
                       have f0 := hfs2.free 0
                       have f1 := hfs2.free 1
                       have f2 := hfs2.free 2
                       have f3 := hfs2.free 3)))
            all_goals
              first
                | (have hx := hfr2
                   have hW2 := Below.set4U (g := W1.heap.size) hb2 (Nat.le_trans (Nat.le_refl _) hq2.size) (.int .u64 (Q.a : Int)) (.int .u64 (Q.b : Int)) (.int .u64 (Q.c : Int)) (.int .u64 (Q.d : Int))
                   have hU2 := LBlk.set4 (s := U4.zero) hfs2 Q
                   generalize ((((wb2.setCell ⟨W1.heap.size, 0, none⟩ (.int .u64 (Q.a : Int))).setCell ⟨W1.heap.size, 1, none⟩ (.int .u64 (Q.b : Int))).setCell ⟨W1.heap.size, 2, none⟩ (.int .u64 (Q.c : Int))).setCell ⟨W1.heap.size, 3, none⟩ (.int .u64 (Q.d : Int))) = W2 at *
                   generalize W1.heap.size = g2 at *)
                | (have hx := hfs2
                   have hW2 := Below.set4U (g := wa2.heap.size) hb2 ha2.size (.int .u64 (Q.a : Int)) (.int .u64 (Q.b : Int)) (.int .u64 (Q.c : Int)) (.int .u64 (Q.d : Int))
                   have hU2 := LBlk.set4 (s := U4.zero) hfs2 Q
                   generalize ((((wb2.setCell ⟨wa2.heap.size, 0, none⟩ (.int .u64 (Q.a : Int))).setCell ⟨wa2.heap.size, 1, none⟩ (.int .u64 (Q.b : Int))).setCell ⟨wa2.heap.size, 2, none⟩ (.int .u64 (Q.c : Int))).setCell ⟨wa2.heap.size, 3, none⟩ (.int .u64 (Q.d : Int))) = W2 at *
                   generalize wa2.heap.size = g2 at *)
                | (have hW2 := hb2.alloc hb2.size (.cells #[.int .u64 (Q.a : Int), .int .u64 (Q.b : Int), .int .u64 (Q.c : Int), .int .u64 (Q.d : Int)] 25)
                   have hU2 : LBlk (wb2.alloc (.cells #[.int .u64 (Q.a : Int), .int .u64 (Q.b : Int), .int .u64 (Q.c : Int), .int .u64 (Q.d : Int)] 25)) wb2.heap.size Q.cells := LBlk.new wb2 Q.cells
                   generalize wb2.alloc (.cells #[.int .u64 (Q.a : Int), .int .u64 (Q.b : Int), .int .u64 (Q.c : Int), .int .u64 (Q.d : Int)] 25) = W2 at *
                   generalize wb2.heap.size = g2 at *)
              obtain ⟨q1, -, -, -, -, r0, r1, r2, r3⟩ := HX1.out _ hW2
              obtain ⟨s0, s1, s2, s3⟩ := LBlk.all (s := Q) hU2
              have gg := HG.out _ q1
              clear q1 hW2 hU2 HX1
              cases q2
              · go_wp2_with fail
                go_ret
                rw [HQ.out.2.2.2.1 (by trivial) (by trivial) HE.out (by trivial)]
                exact ⟨rfl, gg.up (Below.refl _ _) (by omega)⟩
              · go_wp2_with fail
                refine wp_region_still_tail 5 (by kernel_rfl) (by kernel_rfl) ?_
                simp only [List.take_succ_cons, List.take_zero, List.drop_succ_cons, List.drop_zero]
                still_step
                still_step
                still_step
                still_call (HK1.out _)
                still_step
                refine wpStill_nil ?_
                change wpList _ _ _ _ _ W2.drew
                go_wp2_with fail
                have ggd := gg.up (Below.drew (Below.refl _ _)) (Nat.le_refl 0)
                refine (ggd.keep_any HN.out.1 HF1.out HPo.out).mono ?_
                rintro e w7 ⟨rfl, g1, hkp⟩
                replace s0 := hkp.cell s0
                replace s1 := hkp.cell s1
                replace s2 := hkp.cell s2
                replace s3 := hkp.cell s3
                clear r0 r1 r2 r3 hkp
                go_wp2_with fail
                refine wp_region_still_tail 5 (by kernel_rfl) (by kernel_rfl) ?_
                simp only [List.take_succ_cons, List.take_zero, List.drop_succ_cons, List.drop_zero]
                still_step
                still_step
                still_step
                still_call (HK2.out _)
                still_step
                refine wpStill_nil ?_
                change wpList _ _ _ _ _ w7.drew
                go_wp2_with fail
                have g1d := g1.up (Below.drew (Below.refl _ _)) (Nat.le_refl _)
                refine (g1d.keep_any HN.out.2 HF3.out HQo.out).mono ?_
                rintro e w9 ⟨rfl, g2, -⟩
                go_wp2_with fail
                go_ret
                rw [HQ.out.2.2.2.2 (by trivial) (by trivial) HE.out (by trivial)]
                exact ⟨rfl, g2⟩
  · have HQ : Hid (sendM R a b d x = (rightM a d x, R)) := Lib.hid (by unfold sendM; rw [if_neg e0])
    have HE := Lib.hid e0
    clear h hs hn hx e0
    generalize sendM R a b d x = q at *
    generalize rightM a d x = r at *
    unfold U4.val U4.cells at *
    go_enter Tryz.func36, Tryz.ntmps36
    go_wp2_with fail
    refine (HR.out _).mono ?_
    rintro e w1 ⟨rfl, hq1⟩
    have g0 := HG.out _ (HW.out _ hq1).1
    have hne2 := HE.out
    go_wp2_with fail
    go_ret
    rw [HQ.out]
    exact ⟨rfl, g0.up (Below.refl _ _) (by omega)⟩
end Go.Proofs.YtniclaapiabmdaaGreatDoor
