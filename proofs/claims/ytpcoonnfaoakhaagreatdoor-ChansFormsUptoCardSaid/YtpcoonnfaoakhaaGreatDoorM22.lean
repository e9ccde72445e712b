/- Texts joined: RChn. -/
import Derived.Test.YtpcoonnfaoakhaaGreatDoorM20
import Derived.Test.YtpcoonnfaoakhaaGreatDoorM21
namespace Go.Proofs.YtpcoonnfaoakhaaGreatDoor
set_option maxRecDepth 100000
open Go Go.RowKit
set_option linter.unusedVariables false

theorem Doc.rget {w W : World} {b N : Nat} {R : List Pr} (h : Doc w b R N W) (hN : N ≤ 100000000) : RGet W b R := RGet.of h.s (Nat.le_trans h.n hN) h.v
set_option maxHeartbeats 4000000 in
theorem ropen16_any {w : World} {b : Nat} {R : List Pr} (h : RGet w b R) (via : ByteArray) (hv : via.size ≤ 100000000) :
    Calls Tryz.prog 90 #[.pointer (some ⟨b, 0, none⟩), .string via] w fun e w' => e = .returned (.tuple #[(openV R via).val, .int .i64 (openE R via)]) ∧ Below w.heap.size w w' := by
  have hk0 := heap_alloc_new w (.cells #[.int .u64 0, .string ⟨#[]⟩, .string ⟨#[]⟩, .string ⟨#[]⟩] 133)
  have ha0 : Below w.heap.size w (w.alloc (.cells #[.int .u64 0, .string ⟨#[]⟩, .string ⟨#[]⟩, .string ⟨#[]⟩] 133)) := (Below.refl _ _).alloc (Nat.le_refl _) _
  have HG := Lib.hid (rcnget_any (h.up ha0) via hv)
  generalize hW0 : w.alloc (.cells #[.int .u64 0, .string ⟨#[]⟩, .string ⟨#[]⟩, .string ⟨#[]⟩] 133) = w0 at *
  obtain ⟨B, hB⟩ : ∃ B : Addr, B = ⟨b, 0, none⟩ := ⟨_, rfl⟩
  rw [← hB] at HG ⊢
  clear hB h
  obtain ⟨V, hV⟩ : ∃ V, V = (Value.tuple #[(openV R via).val, .int .i64 (openE R via)]) := ⟨_, rfl⟩
  rw [← hV]
  unfold openV openE at hV
  generalize getCn R via = o at *
  have HO := Lib.hid hV
  clear hV
  go_enter Tryz.func90, Tryz.ntmps90
  cases o with
  | none =>
    have hv : V = .tuple #[CnV.none.val, .int .i64 110] := by rw [HO.out]; rfl
    unfold cnV CnV.val CnV.none at HG
    dsimp only at HG
    clear HO
    go_wp2_with fail
    try rw [hW0]
    clear hW0
    refine HG.out.mono ?_
    rintro e w1 ⟨rfl, hb1⟩
    have q1' := below_chain ha0 ha0.size hb1
    have k1 := (hb1.block _ (blk_lt hk0)).trans hk0
    have q2' := q1'.alloc q1'.size (.cells #[.int .u64 0, .string ⟨#[]⟩, .string ⟨#[]⟩, .string ⟨#[]⟩] 133)
    replace k1 := (Below.heap_alloc w1 (.cells #[.int .u64 0, .string ⟨#[]⟩, .string ⟨#[]⟩, .string ⟨#[]⟩] 133) _ (blk_lt k1)).trans k1
    clear HG hk0 ha0 hb1 q1'
    have r0 := blk_cell k1 0
    have q0 := blk_free k1 0
    have r1 := blk_cell k1 1
    have q1 := blk_free k1 1
    have r2 := blk_cell k1 2
    have q2 := blk_free k1 2
    have r3 := blk_cell k1 3
    have q3 := blk_free k1 3
    have hk7 := set4P k1 (.int .u64 0) (.string ⟨#[]⟩) (.string ⟨#[]⟩) (.string ⟨#[]⟩)
    have hb7 := below_set4P q2' (Nat.le_refl _) (.int .u64 0) (.string ⟨#[]⟩) (.string ⟨#[]⟩) (.string ⟨#[]⟩)
    have HD := Lib.hid (And.intro (blk_cell hk7 0) (And.intro (blk_cell hk7 1) (And.intro (blk_cell hk7 2) (blk_cell hk7 3))))
    have HVV := Lib.hid hv
    clear hk7 hv
    go_wp2_with fail
    obtain ⟨d0, d1, d2, d3⟩ := HD.out
    refine bodyPost_ret (v := V) ?_ rfl ⟨rfl, hb7⟩
    rw [HVV.out]
    simp at d0 d1 d2 d3
    simp [results, Tryz.results90, go_sem, d0, d1, d2, d3, CnV.val, CnV.none]
  | some c =>
    obtain ⟨st, cl, cc, ct⟩ := c
    unfold cnV CnV.val at HG
    dsimp only at HG
    go_wp2_with fail
    try rw [hW0]
    clear hW0
    refine HG.out.mono ?_
    rintro e w1 ⟨rfl, hb1⟩
    have q1' := below_chain ha0 ha0.size hb1
    have k1 := (hb1.block _ (blk_lt hk0)).trans hk0
    have q2' := q1'.alloc q1'.size (.cells #[.int .u64 (st : Int), .string cl, .string cc, .string ct] 133)
    replace k1 := (Below.heap_alloc w1 (.cells #[.int .u64 (st : Int), .string cl, .string cc, .string ct] 133) _ (blk_lt k1)).trans k1
    have m1 := heap_alloc_new w1 (.cells #[.int .u64 (st : Int), .string cl, .string cc, .string ct] 133)
    clear HG hk0 ha0 hb1 q1'
    have r0 := blk_cell k1 0
    have q0 := blk_free k1 0
    have r1 := blk_cell k1 1
    have q1 := blk_free k1 1
    have r2 := blk_cell k1 2
    have q2 := blk_free k1 2
    have r3 := blk_cell k1 3
    have q3 := blk_free k1 3
    have s0 := blk_cell m1 0
    have s1 := blk_cell m1 1
    have s2 := blk_cell m1 2
    have s3 := blk_cell m1 3
    by_cases h3 : st = 3
    · have hv : V = .tuple #[.agg #[.int .u64 (st : Int), .string cl, .string cc, .string ct], .int .i64 0] := by
        rw [HO.out]
        simp only [if_pos h3]
        rfl
      have hne : ((st : Int) == 3) = true := by
        simp
        omega
      clear HO h3
      have hk7 := set4P k1 (.int .u64 (st : Int)) (.string cl) (.string cc) (.string ct)
      have hb7 := below_set4P q2' (Nat.le_refl _) (.int .u64 (st : Int)) (.string cl) (.string cc) (.string ct)
      have HD := Lib.hid (And.intro (blk_cell hk7 0) (And.intro (blk_cell hk7 1) (And.intro (blk_cell hk7 2) (blk_cell hk7 3))))
      have HVV := Lib.hid hv
      clear hk7 hv
      go_wp2_with fail
      obtain ⟨d0, d1, d2, d3⟩ := HD.out
      refine bodyPost_ret (v := V) ?_ rfl ⟨rfl, hb7⟩
      rw [HVV.out]
      simp at d0 d1 d2 d3
      simp [results, Tryz.results90, go_sem, d0, d1, d2, d3, CnV.val, CnV.none]
    · have hv : V = .tuple #[CnV.none.val, .int .i64 111] := by
        rw [HO.out]
        simp only [if_neg h3]
        rfl
      have hne : ((st : Int) == 3) = false := by
        simp
        omega
      clear HO h3
      have hk7 := set4P k1 (.int .u64 0) (.string ⟨#[]⟩) (.string ⟨#[]⟩) (.string ⟨#[]⟩)
      have hb7 := below_set4P q2' (Nat.le_refl _) (.int .u64 0) (.string ⟨#[]⟩) (.string ⟨#[]⟩) (.string ⟨#[]⟩)
      have HD := Lib.hid (And.intro (blk_cell hk7 0) (And.intro (blk_cell hk7 1) (And.intro (blk_cell hk7 2) (blk_cell hk7 3))))
      have HVV := Lib.hid hv
      clear hk7 hv
      go_wp2_with fail
      obtain ⟨d0, d1, d2, d3⟩ := HD.out
      refine bodyPost_ret (v := V) ?_ rfl ⟨rfl, hb7⟩
      rw [HVV.out]
      simp at d0 d1 d2 d3
      simp [results, Tryz.results90, go_sem, d0, d1, d2, d3, CnV.val, CnV.none]
theorem belowDN {B : Nat} {w w' : World} (h : Below B w w') : ∀ k, Below B w (w'.drewN k)
  | 0 => by rw [World.drewN_zero]; exact h
  | k + 1 => by
    have ih := belowDN h k
    exact ⟨ih.os, ih.tape, ih.output, ih.size, ih.block⟩
theorem nTC : ¬ sTransfer = sControl := by decide +kernel
theorem nTH : ¬ sTransfer = sHost := by decide +kernel
theorem nCT : ¬ sControl = sTransfer := by decide +kernel
theorem nCH : ¬ sControl = sHost := by decide +kernel
theorem nHT : ¬ sHost = sTransfer := by decide +kernel
theorem nHC : ¬ sHost = sControl := by decide +kernel
set_option maxHeartbeats 4000000 in
theorem rform16_any (st : Nat) (od : Bool) (po cp cn cc ve : ByteArray) (bg : Bool) (w : World) (hv : ve.size ≤ 100000000) :
    Calls Tryz.prog 91 #[.agg #[.int .u64 (st : Int), .bool od, .string po, .string cp, .string cn, .string cc, .string ve], .bool bg] w fun e w' => e = .returned (.int .i64 (if bg = true then formM po cp od ve else formM cp po od ve)) ∧ Below w.heap.size w w' := by
  have HI : Hid (∀ Z : World, Calls Tryz.prog 94 #[.string ve] Z fun e w' => e = .returned (.bool (identB ve)) ∧ Z = w') := Lib.hid fun Z => rident_any ve Z (by unfold maxLen; omega)
  have hbox := heap_alloc_new w (.cells #[.int .u64 (st : Int), .bool od, .string po, .string cp, .string cn, .string cc, .string ve] 71)
  have ha0 : Below w.heap.size w (w.alloc (.cells #[.int .u64 (st : Int), .bool od, .string po, .string cp, .string cn, .string cc, .string ve] 71)) := (Below.refl _ _).alloc (Nat.le_refl _) _
  have c1 := blk_cell hbox 1
  have c2 := blk_cell hbox 2
  have c3 := blk_cell hbox 3
  have c6 := blk_cell hbox 6
  obtain ⟨E, hE⟩ : ∃ E, E = (if bg = true then formM po cp od ve else formM cp po od ve) := ⟨_, rfl⟩
  rw [← hE]
  unfold formM at hE
  generalize identB ve = bi at *
  have HE := Lib.hid hE
  clear hbox hv hE
  cases bg
  · go_enter Tryz.func91, Tryz.ntmps91
    go_wp2_with fail
    go_quiet (fail)
    go_wp2_with fail
    go_quiet (fail)
    by_cases hpT : po = sTransfer
    · skip
      have epT : (po.toList == [116, 114, 97, 110, 115, 102, 101, 114]) = true := by rw [hpT]; decide +kernel
      have epC : (po.toList == [99, 111, 110, 116, 114, 111, 108]) = false := by rw [hpT]; decide +kernel
      have epH : (po.toList == [104, 111, 115, 116]) = false := by rw [hpT]; decide +kernel
      by_cases hcT : cp = sTransfer
      · skip
        have ecT : (cp.toList == [116, 114, 97, 110, 115, 102, 101, 114]) = true := by rw [hcT]; decide +kernel
        have ecC : (cp.toList == [99, 111, 110, 116, 114, 111, 108]) = false := by rw [hcT]; decide +kernel
        have ecH : (cp.toList == [104, 111, 115, 116]) = false := by rw [hcT]; decide +kernel
        cases od
        · skip
          by_cases hvI : ve = sIcs20
          · skip
            have evI : (ve.toList == [105, 99, 115, 50, 48]) = true := by rw [hvI]; decide +kernel
            have hE' : E = 0 := by rw [HE.out]; simp [hpT, hcT, hvI, nTC, nTH, nCT, nCH, nHT, nHC]
            clear hpT hcT hvI HE
            subst hE'
            go_wp2_with fail
            go_ret
            exact ⟨rfl, belowDN ha0 _⟩
          · skip
            have evI : (ve.toList == [105, 99, 115, 50, 48]) = false := ne_lit hvI (by decide +kernel)
            have hE' : E = 123 := by rw [HE.out]; simp [hpT, hcT, hvI, nTC, nTH, nCT, nCH, nHT, nHC]
            clear hpT hcT hvI HE
            subst hE'
            go_wp2_with fail
            go_ret
            exact ⟨rfl, belowDN ha0 _⟩
        · skip
          have hE' : E = 122 := by rw [HE.out]; simp [hpT, hcT, nTC, nTH, nCT, nCH, nHT, nHC]
          clear hpT hcT HE
          subst hE'
          go_wp2_with fail
          go_ret
          exact ⟨rfl, belowDN ha0 _⟩
      · skip
        have ecT : (cp.toList == [116, 114, 97, 110, 115, 102, 101, 114]) = false := ne_lit hcT (by decide +kernel)
        by_cases hcC : cp = sControl
        · skip
          have ecC : (cp.toList == [99, 111, 110, 116, 114, 111, 108]) = true := by rw [hcC]; decide +kernel
          have ecT : (cp.toList == [116, 114, 97, 110, 115, 102, 101, 114]) = false := by rw [hcC]; decide +kernel
          have ecH : (cp.toList == [104, 111, 115, 116]) = false := by rw [hcC]; decide +kernel
          have hE' : E = 121 := by rw [HE.out]; simp [hpT, hcT, hcC, nTC, nTH, nCT, nCH, nHT, nHC]
          clear hpT hcT hcC HE
          subst hE'
          go_wp2_with fail
          go_ret
          exact ⟨rfl, belowDN ha0 _⟩
        · skip
          have ecC : (cp.toList == [99, 111, 110, 116, 114, 111, 108]) = false := ne_lit hcC (by decide +kernel)
          have hE' : E = 121 := by rw [HE.out]; simp [hpT, hcT, hcC, nTC, nTH, nCT, nCH, nHT, nHC]
          clear hpT hcT hcC HE
          subst hE'
          go_wp2_with fail
          go_ret
          exact ⟨rfl, belowDN ha0 _⟩
    · skip
      have epT : (po.toList == [116, 114, 97, 110, 115, 102, 101, 114]) = false := ne_lit hpT (by decide +kernel)
      by_cases hcC : cp = sControl
      · skip
        have ecC : (cp.toList == [99, 111, 110, 116, 114, 111, 108]) = true := by rw [hcC]; decide +kernel
        have ecT : (cp.toList == [116, 114, 97, 110, 115, 102, 101, 114]) = false := by rw [hcC]; decide +kernel
        have ecH : (cp.toList == [104, 111, 115, 116]) = false := by rw [hcC]; decide +kernel
        by_cases hpH : po = sHost
        · skip
          have epH : (po.toList == [104, 111, 115, 116]) = true := by rw [hpH]; decide +kernel
          have epT : (po.toList == [116, 114, 97, 110, 115, 102, 101, 114]) = false := by rw [hpH]; decide +kernel
          have epC : (po.toList == [99, 111, 110, 116, 114, 111, 108]) = false := by rw [hpH]; decide +kernel
          cases od
          · skip
            have hE' : E = 122 := by rw [HE.out]; simp [hpT, hcC, hpH, nTC, nTH, nCT, nCH, nHT, nHC]
            clear hpT hcC hpH HE
            subst hE'
            go_wp2_with fail
            go_ret
            exact ⟨rfl, belowDN ha0 _⟩
          · skip
            replace HE : Hid (E = if bi = true then 0 else 123) := Lib.hid (by rw [HE.out]; simp [hpT, hcC, hpH, nTC, nTH, nCT, nCH, nHT, nHC])
            clear hpT hcC hpH
            go_wp2_with fail
            refine (HI.out _).mono ?_
            rintro e w' ⟨rfl, rfl⟩
            cases bi
            · skip
              have hE' : E = 123 := by rw [HE.out]; simp
              clear HE
              subst hE'
              go_wp2_with fail
              go_ret
              exact ⟨rfl, belowDN ha0 _⟩
            · skip
              have hE' : E = 0 := by rw [HE.out]; simp
              clear HE
              subst hE'
              go_wp2_with fail
              go_ret
              exact ⟨rfl, belowDN ha0 _⟩
        · skip
          have epH : (po.toList == [104, 111, 115, 116]) = false := ne_lit hpH (by decide +kernel)
          have hE' : E = 121 := by rw [HE.out]; simp [hpT, hcC, hpH, nTC, nTH, nCT, nCH, nHT, nHC]
          clear hpT hcC hpH HE
          subst hE'
          go_wp2_with fail
          go_ret
          exact ⟨rfl, belowDN ha0 _⟩
      · skip
        have ecC : (cp.toList == [99, 111, 110, 116, 114, 111, 108]) = false := ne_lit hcC (by decide +kernel)
        have hE' : E = 121 := by rw [HE.out]; simp [hpT, hcC, nTC, nTH, nCT, nCH, nHT, nHC]
        clear hpT hcC HE
        subst hE'
        go_wp2_with fail
        go_ret
        exact ⟨rfl, belowDN ha0 _⟩
  · go_enter Tryz.func91, Tryz.ntmps91
    go_wp2_with fail
    go_quiet (fail)
    by_cases hpT : po = sTransfer
    · skip
      have epT : (po.toList == [116, 114, 97, 110, 115, 102, 101, 114]) = true := by rw [hpT]; decide +kernel
      have epC : (po.toList == [99, 111, 110, 116, 114, 111, 108]) = false := by rw [hpT]; decide +kernel
      have epH : (po.toList == [104, 111, 115, 116]) = false := by rw [hpT]; decide +kernel
      by_cases hcT : cp = sTransfer
      · skip
        have ecT : (cp.toList == [116, 114, 97, 110, 115, 102, 101, 114]) = true := by rw [hcT]; decide +kernel
        have ecC : (cp.toList == [99, 111, 110, 116, 114, 111, 108]) = false := by rw [hcT]; decide +kernel
        have ecH : (cp.toList == [104, 111, 115, 116]) = false := by rw [hcT]; decide +kernel
        cases od
        · skip
          by_cases hvI : ve = sIcs20
          · skip
            have evI : (ve.toList == [105, 99, 115, 50, 48]) = true := by rw [hvI]; decide +kernel
            have hE' : E = 0 := by rw [HE.out]; simp [hpT, hcT, hvI, nTC, nTH, nCT, nCH, nHT, nHC]
            clear hpT hcT hvI HE
            subst hE'
            go_wp2_with fail
            go_ret
            exact ⟨rfl, belowDN ha0 _⟩
          · skip
            have evI : (ve.toList == [105, 99, 115, 50, 48]) = false := ne_lit hvI (by decide +kernel)
            have hE' : E = 123 := by rw [HE.out]; simp [hpT, hcT, hvI, nTC, nTH, nCT, nCH, nHT, nHC]
            clear hpT hcT hvI HE
            subst hE'
            go_wp2_with fail
            go_ret
            exact ⟨rfl, belowDN ha0 _⟩
        · skip
          have hE' : E = 122 := by rw [HE.out]; simp [hpT, hcT, nTC, nTH, nCT, nCH, nHT, nHC]
          clear hpT hcT HE
          subst hE'
          go_wp2_with fail
          go_ret
          exact ⟨rfl, belowDN ha0 _⟩
      · skip
        have ecT : (cp.toList == [116, 114, 97, 110, 115, 102, 101, 114]) = false := ne_lit hcT (by decide +kernel)
        have hE' : E = 121 := by rw [HE.out]; simp [hpT, hcT, nTC, nTH, nCT, nCH, nHT, nHC]
        clear hpT hcT HE
        subst hE'
        go_wp2_with fail
        go_ret
        exact ⟨rfl, belowDN ha0 _⟩
    · skip
      have epT : (po.toList == [116, 114, 97, 110, 115, 102, 101, 114]) = false := ne_lit hpT (by decide +kernel)
      by_cases hpC : po = sControl
      · skip
        have epC : (po.toList == [99, 111, 110, 116, 114, 111, 108]) = true := by rw [hpC]; decide +kernel
        have epT : (po.toList == [116, 114, 97, 110, 115, 102, 101, 114]) = false := by rw [hpC]; decide +kernel
        have epH : (po.toList == [104, 111, 115, 116]) = false := by rw [hpC]; decide +kernel
        by_cases hcH : cp = sHost
        · skip
          have ecH : (cp.toList == [104, 111, 115, 116]) = true := by rw [hcH]; decide +kernel
          have ecT : (cp.toList == [116, 114, 97, 110, 115, 102, 101, 114]) = false := by rw [hcH]; decide +kernel
          have ecC : (cp.toList == [99, 111, 110, 116, 114, 111, 108]) = false := by rw [hcH]; decide +kernel
          cases od
          · skip
            have hE' : E = 122 := by rw [HE.out]; simp [hpT, hpC, hcH, nTC, nTH, nCT, nCH, nHT, nHC]
            clear hpT hpC hcH HE
            subst hE'
            go_wp2_with fail
            go_ret
            exact ⟨rfl, belowDN ha0 _⟩
          · skip
            replace HE : Hid (E = if bi = true then 0 else 123) := Lib.hid (by rw [HE.out]; simp [hpT, hpC, hcH, nTC, nTH, nCT, nCH, nHT, nHC])
            clear hpT hpC hcH
            go_wp2_with fail
            refine (HI.out _).mono ?_
            rintro e w' ⟨rfl, rfl⟩
            cases bi
            · skip
              have hE' : E = 123 := by rw [HE.out]; simp
              clear HE
              subst hE'
              go_wp2_with fail
              go_ret
              exact ⟨rfl, belowDN ha0 _⟩
            · skip
              have hE' : E = 0 := by rw [HE.out]; simp
              clear HE
              subst hE'
              go_wp2_with fail
              go_ret
              exact ⟨rfl, belowDN ha0 _⟩
        · skip
          have ecH : (cp.toList == [104, 111, 115, 116]) = false := ne_lit hcH (by decide +kernel)
          have hE' : E = 121 := by rw [HE.out]; simp [hpT, hpC, hcH, nTC, nTH, nCT, nCH, nHT, nHC]
          clear hpT hpC hcH HE
          subst hE'
          go_wp2_with fail
          go_ret
          exact ⟨rfl, belowDN ha0 _⟩
      · skip
        have epC : (po.toList == [99, 111, 110, 116, 114, 111, 108]) = false := ne_lit hpC (by decide +kernel)
        have hE' : E = 121 := by rw [HE.out]; simp [hpT, hpC, nTC, nTH, nCT, nCH, nHT, nHC]
        clear hpT hpC HE
        subst hE'
        go_wp2_with fail
        go_ret
        exact ⟨rfl, belowDN ha0 _⟩
theorem rchnext_any (a : ByteArray) (w : World) (ha : a.size ≤ 100000000) : Calls Tryz.prog 37 #[.string a] w fun e w' => e = .returned (.string (nextP ++ a)) ∧ w = w' := by
  have s1 : nextP.size ≤ 10 := by decide
  have h1 := fun W => txt_add nextP a (by omega) W
  unfold nextP at *
  go_enter Tryz.func37, Tryz.ntmps37
  go_wp2
  go_ret
  exact ⟨rfl, rfl⟩
theorem rchrecv_any (a : ByteArray) (w : World) (ha : a.size ≤ 100000000) : Calls Tryz.prog 39 #[.string a] w fun e w' => e = .returned (.string (recvP ++ a)) ∧ w = w' := by
  have s1 : recvP.size ≤ 10 := by decide
  have h1 := fun W => txt_add recvP a (by omega) W
  unfold recvP at *
  go_enter Tryz.func39, Tryz.ntmps39
  go_wp2
  go_ret
  exact ⟨rfl, rfl⟩
theorem rchacked_any (a : ByteArray) (w : World) (ha : a.size ≤ 100000000) : Calls Tryz.prog 41 #[.string a] w fun e w' => e = .returned (.string (ackedP ++ a)) ∧ w = w' := by
  have s1 : ackedP.size ≤ 10 := by decide
  have h1 := fun W => txt_add ackedP a (by omega) W
  unfold ackedP at *
  go_enter Tryz.func41, Tryz.ntmps41
  go_wp2
  go_ret
  exact ⟨rfl, rfl⟩
theorem chB_lenD (c : ChV) : (chB c).length ≤ 2000000 := by
  have l1 : (encS c.po).length ≤ 65539 := encB_lenP (strBytes c.po)
  have l2 : (encS c.cp).length ≤ 65539 := encB_lenP (strBytes c.cp)
  have l3 : (encS c.cn).length ≤ 65539 := encB_lenP (strBytes c.cn)
  have l4 : (encS c.cc).length ≤ 65539 := encB_lenP (strBytes c.cc)
  have l5 : (encS c.ve).length ≤ 65539 := encB_lenP (strBytes c.ve)
  unfold chB
  simp only [List.length_append, be_length, List.length_cons, List.length_nil]
  omega
set_option maxHeartbeats 4000000 in
theorem rchput_any {w0 w : World} {b N : Nat} {R : List Pr} (h : Doc w0 b R N w) (hN : N + 1 ≤ 100000000) (id : ByteArray) (hid : id.size ≤ 100000000) (c : ChV) (h_st : c.st < 18446744073709551616) (h_po : c.po.size ≤ maxLen) (h_cp : c.cp.size ≤ maxLen) (h_cn : c.cn.size ≤ maxLen) (h_cc : c.cc.size ≤ maxLen) (h_ve : c.ve.size ≤ maxLen) :
    Calls Tryz.prog 153 #[.pointer (some ⟨b, 0, none⟩), .string id, c.val] w fun e w' => e = .returned (.tuple #[]) ∧ Doc w0 b (setL (kChn id) (chB c) R) (N + 1) w' ∧ Chg w w' (fun k => k = b) := by
  have z1 := kChn_size id
  have HB : Hid (∀ Z : World, Calls Tryz.prog 33 #[c.val] Z fun e w' => ∃ v', e = .returned v' ∧ Own w' Z.heap.size v' (chB c) ∧ Below Z.heap.size Z w') := Lib.hid fun Z => rchbytes_any c Z h_st h_po h_cp h_cn h_cc h_ve
  have HK : Hid (∀ Z : World, Calls Tryz.prog 35 #[.string id] Z fun e w' => e = .returned (.string (kChn id)) ∧ Z = w') := Lib.hid fun Z => rchkey_any id Z hid
  have hlB : (chB c).length ≤ 2000000 := chB_lenD c
  have hbox := heap_alloc_new w (.cells #[.int .u64 (c.st : Int), .bool c.od, .string c.po, .string c.cp, .string c.cn, .string c.cc, .string c.ve] 71)
  have ha0 : Below w.heap.size w (w.alloc (.cells #[.int .u64 (c.st : Int), .bool c.od, .string c.po, .string c.cp, .string c.cn, .string c.cc, .string c.ve] 71)) := (Below.refl _ _).alloc (Nat.le_refl _) _
  have A0 := h.up ha0
  generalize hW0 : w.alloc (.cells #[.int .u64 (c.st : Int), .bool c.od, .string c.po, .string c.cp, .string c.cn, .string c.cc, .string c.ve] 71) = W0 at *
  have hgl := blk_lt hbox
  have hnb : ¬ w.heap.size = b := DocS.ne_cell A0.s (blk_cell hbox 0) (by simp) (by simp)
  have HS : Hid (∀ (Z : World) (hz : Below W0.heap.size W0 Z) (v : Value) (B : Nat) (ho : Own Z B v (chB c)), Calls Tryz.prog 79 #[.pointer (some ⟨b, 0, none⟩), .string (kChn id), v] Z fun e w' => (∃ c, e = .returned (.int .i64 c)) ∧ Doc w0 b (setL (kChn id) (chB c) R) (N + 1) w' ∧ Chg Z w' (fun k => k = b)) :=
    Lib.hid fun Z hz v B ho => (A0.up hz).setAny hN (kChn id) (by rw [z1]; unfold maxLen; omega) v _ ho.rd hlB
  have hcW : Chg w W0 (fun k => k = b) := Chg.of_below ha0 _
  generalize hgg : w.heap.size = g0 at *
  have HC : Hid (∀ Z, Chg W0 Z (fun k => k = b) → Z.cell? ⟨g0, 0, none⟩ = some (.int .u64 (c.st : Int)) ∧ Z.cell? ⟨g0, 1, none⟩ = some (.bool c.od) ∧ Z.cell? ⟨g0, 2, none⟩ = some (.string c.po) ∧ Z.cell? ⟨g0, 3, none⟩ = some (.string c.cp) ∧ Z.cell? ⟨g0, 4, none⟩ = some (.string c.cn) ∧ Z.cell? ⟨g0, 5, none⟩ = some (.string c.cc) ∧ Z.cell? ⟨g0, 6, none⟩ = some (.string c.ve)) := Lib.hid fun Z hz => ⟨blk_cell ((hz.block _ hgl hnb).trans hbox) 0, blk_cell ((hz.block _ hgl hnb).trans hbox) 1, blk_cell ((hz.block _ hgl hnb).trans hbox) 2, blk_cell ((hz.block _ hgl hnb).trans hbox) 3, blk_cell ((hz.block _ hgl hnb).trans hbox) 4, blk_cell ((hz.block _ hgl hnb).trans hbox) 5, blk_cell ((hz.block _ hgl hnb).trans hbox) 6⟩
  have HC0 : Hid (∀ Z, Below W0.heap.size W0 Z → Chg W0 Z (fun k => k = b)) := Lib.hid fun Z hz => .of_below hz _
  have hkD : Below W0.heap.size W0 W0.drew := Below.drew (Below.refl _ _)
  obtain ⟨st, od, po, cp, cn, cc, ve⟩ := c
  unfold ChV.val at *
  dsimp only at *
  generalize setL (kChn id) (chB ⟨st, od, po, cp, cn, cc, ve⟩) R = R2 at *
  generalize chB ⟨st, od, po, cp, cn, cc, ve⟩ = L1 at *
  generalize kChn id = key at *
  clear hbox h A0 z1 hlB hnb
  go_enter Tryz.func153, Tryz.ntmps153
  go_wp2_with fail
  try rw [hW0]
  clear hW0
  try rw [hgg]
  go_region_held_law (fun Z => Z.cell? ⟨g0, 0, none⟩ = some (.int .u64 (st : Int)) ∧ Z.cell? ⟨g0, 1, none⟩ = some (.bool od) ∧ Z.cell? ⟨g0, 2, none⟩ = some (.string po) ∧ Z.cell? ⟨g0, 3, none⟩ = some (.string cp) ∧ Z.cell? ⟨g0, 4, none⟩ = some (.string cn) ∧ Z.cell? ⟨g0, 5, none⟩ = some (.string cc) ∧ Z.cell? ⟨g0, 6, none⟩ = some (.string ve))
    (with_reducible first | exact HC.out _ hkF | exact HC.out _ (HC0.out _ hk1) | exact HC.out _ (HC0.out _ hkD))
    ((first
      | (go_at_call 35; refine (HK.out _).mono ?_; rintro e w9 ⟨rfl, rfl⟩)
      | (go_at_call 33; refine (HB.out _).mono ?_; rintro e w1 ⟨v1, rfl, ho1, hb1⟩; have hk1 := below_chain hkD hkD.size hb1)
      | (go_at_call 79; refine (HS.out _ hk1 _ _ ho1).mono ?_; rintro e w2 ⟨⟨c2, rfl⟩, AS, hkS⟩; have hkF := (HC0.out _ hk1).trans' hkS)))
  all_goals
    have hfin := hcW.trans' hkF
    go_wp2_with fail
    go_end0
    exact ⟨rfl, AS, hfin⟩
set_option maxHeartbeats 4000000 in
theorem ralive_any {w : World} {b : Nat} {R : List Pr} (h : RGet w b R) (id : ByteArray) (hid : id.size ≤ 100000000) :
    Calls Tryz.prog 225 #[.pointer (some ⟨b, 0, none⟩), .string id] w fun e w' => e = .returned (.tuple #[(aliveV R id).val, .int .i64 (aliveE R id)]) ∧ Below w.heap.size w w' := by
  have hk0 := heap_alloc_new w (.cells #[.string ⟨#[]⟩, .int .u64 0, .int .u64 0, .bool false] 282)
  have ha0 : Below w.heap.size w (w.alloc (.cells #[.string ⟨#[]⟩, .int .u64 0, .int .u64 0, .bool false] 282)) := (Below.refl _ _).alloc (Nat.le_refl _) _
  have HG := Lib.hid (rclget_any (h.up ha0) id hid)
  generalize hW0 : w.alloc (.cells #[.string ⟨#[]⟩, .int .u64 0, .int .u64 0, .bool false] 282) = w0 at *
  obtain ⟨B, hB⟩ : ∃ B : Addr, B = ⟨b, 0, none⟩ := ⟨_, rfl⟩
  rw [← hB] at HG ⊢
  clear hB h
  obtain ⟨V, hV⟩ : ∃ V, V = (Value.tuple #[(aliveV R id).val, .int .i64 (aliveE R id)]) := ⟨_, rfl⟩
  rw [← hV]
  unfold aliveV aliveE at hV
  generalize getCl R id = o at *
  have HO := Lib.hid hV
  clear hV
  cases o with
  | none =>
    have hv : V = .tuple #[ClV.none.val, .int .i64 100] := by rw [HO.out]
    unfold clV ClV.val ClV.none at HG
    dsimp only at HG
    clear HO
    go_enter Tryz.func225, Tryz.ntmps225
    go_wp2_with fail
    try rw [hW0]
    clear hW0
    refine HG.out.mono ?_
    rintro e w1 ⟨rfl, hb1⟩
    have q1' := below_chain ha0 ha0.size hb1
    have k1 := (hb1.block _ (blk_lt hk0)).trans hk0
    have q2' := q1'.alloc q1'.size (.cells #[.string ⟨#[]⟩, .int .u64 0, .int .u64 0, .bool false] 282)
    replace k1 := (Below.heap_alloc w1 (.cells #[.string ⟨#[]⟩, .int .u64 0, .int .u64 0, .bool false] 282) _ (blk_lt k1)).trans k1
    clear HG hk0 ha0 hb1 q1'
    have r0 := blk_cell k1 0
    have q0 := blk_free k1 0
    have r1 := blk_cell k1 1
    have q1 := blk_free k1 1
    have r2 := blk_cell k1 2
    have q2 := blk_free k1 2
    have r3 := blk_cell k1 3
    have q3 := blk_free k1 3
    have hk7 := set4P k1 (.string ⟨#[]⟩) (.int .u64 0) (.int .u64 0) (.bool false)
    have hb7 := below_set4P q2' (Nat.le_refl _) (.string ⟨#[]⟩) (.int .u64 0) (.int .u64 0) (.bool false)
    have HD := Lib.hid (And.intro (blk_cell hk7 0) (And.intro (blk_cell hk7 1) (And.intro (blk_cell hk7 2) (blk_cell hk7 3))))
    have HVV := Lib.hid hv
    clear hk7 hv
    go_wp2_with fail
    obtain ⟨d0, d1, d2, d3⟩ := HD.out
    refine bodyPost_ret (v := V) ?_ rfl ⟨rfl, hb7⟩
    rw [HVV.out]
    simp at d0 d1 d2 d3
    simp [results, Tryz.results225, go_sem, d0, d1, d2, d3, ClV.val, ClV.none]
  | some c =>
    obtain ⟨ch, la, pe, fr⟩ := c
    cases fr with
    | true =>
      unfold clV ClV.val at HG
      dsimp only at HG
      have hv : V = .tuple #[ClV.none.val, .int .i64 102] := by rw [HO.out]; rfl
      clear HO
      go_enter Tryz.func225, Tryz.ntmps225
      go_wp2_with fail
      try rw [hW0]
      clear hW0
      refine HG.out.mono ?_
      rintro e w1 ⟨rfl, hb1⟩
      have q1' := below_chain ha0 ha0.size hb1
      have k1 := (hb1.block _ (blk_lt hk0)).trans hk0
      have q2' := q1'.alloc q1'.size (.cells #[.string ch, .int .u64 (la : Int), .int .u64 (pe : Int), .bool true] 282)
      replace k1 := (Below.heap_alloc w1 (.cells #[.string ch, .int .u64 (la : Int), .int .u64 (pe : Int), .bool true] 282) _ (blk_lt k1)).trans k1
      have m1 := heap_alloc_new w1 (.cells #[.string ch, .int .u64 (la : Int), .int .u64 (pe : Int), .bool true] 282)
      clear HG hk0 ha0 hb1 q1'
      have r0 := blk_cell k1 0
      have q0 := blk_free k1 0
      have r1 := blk_cell k1 1
      have q1 := blk_free k1 1
      have r2 := blk_cell k1 2
      have q2 := blk_free k1 2
      have r3 := blk_cell k1 3
      have q3 := blk_free k1 3
      have s0 := blk_cell m1 0
      have s1 := blk_cell m1 1
      have s2 := blk_cell m1 2
      have s3 := blk_cell m1 3
      have hk7 := set4P k1 (.string ⟨#[]⟩) (.int .u64 0) (.int .u64 0) (.bool false)
      have hb7 := below_set4P q2' (Nat.le_refl _) (.string ⟨#[]⟩) (.int .u64 0) (.int .u64 0) (.bool false)
      have HD := Lib.hid (And.intro (blk_cell hk7 0) (And.intro (blk_cell hk7 1) (And.intro (blk_cell hk7 2) (blk_cell hk7 3))))
      have HVV := Lib.hid hv
      clear hk7 hv
      go_wp2_with fail
      obtain ⟨d0, d1, d2, d3⟩ := HD.out
      refine bodyPost_ret (v := V) ?_ rfl ⟨rfl, hb7⟩
      rw [HVV.out]
      simp at d0 d1 d2 d3
      simp [results, Tryz.results225, go_sem, d0, d1, d2, d3, ClV.val, ClV.none]
    | false =>
      unfold clV ClV.val at HG
      dsimp only at HG
      have hv : V = .tuple #[.agg #[.string ch, .int .u64 (la : Int), .int .u64 (pe : Int), .bool false], .int .i64 0] := by rw [HO.out]; rfl
      clear HO
      go_enter Tryz.func225, Tryz.ntmps225
      go_wp2_with fail
      try rw [hW0]
      clear hW0
      refine HG.out.mono ?_
      rintro e w1 ⟨rfl, hb1⟩
      have q1' := below_chain ha0 ha0.size hb1
      have k1 := (hb1.block _ (blk_lt hk0)).trans hk0
      have q2' := q1'.alloc q1'.size (.cells #[.string ch, .int .u64 (la : Int), .int .u64 (pe : Int), .bool false] 282)
      replace k1 := (Below.heap_alloc w1 (.cells #[.string ch, .int .u64 (la : Int), .int .u64 (pe : Int), .bool false] 282) _ (blk_lt k1)).trans k1
      have m1 := heap_alloc_new w1 (.cells #[.string ch, .int .u64 (la : Int), .int .u64 (pe : Int), .bool false] 282)
      clear HG hk0 ha0 hb1 q1'
      have r0 := blk_cell k1 0
      have q0 := blk_free k1 0
      have r1 := blk_cell k1 1
      have q1 := blk_free k1 1
      have r2 := blk_cell k1 2
      have q2 := blk_free k1 2
      have r3 := blk_cell k1 3
      have q3 := blk_free k1 3
      have s0 := blk_cell m1 0
      have s1 := blk_cell m1 1
      have s2 := blk_cell m1 2
      have s3 := blk_cell m1 3
      have hk7 := set4P k1 (.string ch) (.int .u64 (la : Int)) (.int .u64 (pe : Int)) (.bool false)
      have hb7 := below_set4P q2' (Nat.le_refl _) (.string ch) (.int .u64 (la : Int)) (.int .u64 (pe : Int)) (.bool false)
      have HD := Lib.hid (And.intro (blk_cell hk7 0) (And.intro (blk_cell hk7 1) (And.intro (blk_cell hk7 2) (blk_cell hk7 3))))
      have HVV := Lib.hid hv
      clear hk7 hv
      go_wp2_with fail
      obtain ⟨d0, d1, d2, d3⟩ := HD.out
      refine bodyPost_ret (v := V) ?_ rfl ⟨rfl, hb7⟩
      rw [HVV.out]
      simp at d0 d1 d2 d3
      simp [results, Tryz.results225, go_sem, d0, d1, d2, d3, ClV.val, ClV.none]
set_option maxHeartbeats 4000000 in
theorem rusable_no {w : World} {b : Nat} {R : List Pr} (h : RGet w b R) (id : ByteArray) (ht now : Nat) (hid : id.size ≤ 100000000) (he : aliveE R id ≠ 0) :
    Calls Tryz.prog 194 #[.pointer (some ⟨b, 0, none⟩), .string id, .int .u64 (ht : Int), .int .u64 (now : Int)] w fun e w' => e = .returned (.tuple #[.agg #[.int .u64 0, .slice none 0 0, .slice none 0 0], .int .i64 (aliveE R id)]) ∧ Below w.heap.size w w' := by
  have hk0 := heap_alloc_new w (.cells #[.int .u64 0, .slice none 0 0, .slice none 0 0] 253)
  have ha0 : Below w.heap.size w (w.alloc (.cells #[.int .u64 0, .slice none 0 0, .slice none 0 0] 253)) := (Below.refl _ _).alloc (Nat.le_refl _) _
  have HA := Lib.hid (ralive_any (h.up ha0) id hid)
  generalize hW0 : w.alloc (.cells #[.int .u64 0, .slice none 0 0, .slice none 0 0] 253) = w0 at *
  obtain ⟨B, hB⟩ : ∃ B : Addr, B = ⟨b, 0, none⟩ := ⟨_, rfl⟩
  rw [← hB] at HA ⊢
  clear hB h
  generalize aliveV R id = V at *
  generalize aliveE R id = E at *
  obtain ⟨ch, la, pe, fr⟩ := V
  unfold ClV.val at HA
  dsimp only at HA
  have he' : (E != 0) = true := by simpa using he
  clear he
  go_enter Tryz.func194, Tryz.ntmps194
  go_wp2_with fail
  try rw [hW0]
  clear hW0
  refine HA.out.mono ?_
  rintro e w1 ⟨rfl, hb1⟩
  have q1' := below_chain ha0 ha0.size hb1
  have k1 := (hb1.block _ (blk_lt hk0)).trans hk0
  have q2' := q1'.alloc q1'.size (.cells #[.string ch, .int .u64 (la : Int), .int .u64 (pe : Int), .bool fr] 282)
  replace k1 := (Below.heap_alloc w1 (.cells #[.string ch, .int .u64 (la : Int), .int .u64 (pe : Int), .bool fr] 282) _ (blk_lt k1)).trans k1
  clear HA hk0 ha0 hb1 q1'
  have r0 := blk_cell k1 0
  have q0 := blk_free k1 0
  have r1 := blk_cell k1 1
  have q1 := blk_free k1 1
  have r2 := blk_cell k1 2
  have q2 := blk_free k1 2
  have hk7 := set3P k1 (.int .u64 0) (.slice none 0 0) (.slice none 0 0)
  have hb7 := below_set3P q2' (Nat.le_refl _) (.int .u64 0) (.slice none 0 0) (.slice none 0 0)
  have HD := Lib.hid (And.intro (blk_cell hk7 0) (And.intro (blk_cell hk7 1) (blk_cell hk7 2)))
  clear hk7
  go_wp2_with fail
  obtain ⟨d0, d1, d2⟩ := HD.out
  refine bodyPost_ret (v := .tuple #[.agg #[.int .u64 0, .slice none 0 0, .slice none 0 0], .int .i64 E]) ?_ rfl ⟨rfl, hb7⟩
  simp at d0 d1 d2
  simp [results, Tryz.results194, go_sem, d0, d1, d2]
set_option maxHeartbeats 4000000 in
theorem rclverify_no {w : World} {b : Nat} {R : List Pr} (h : RGet w b R) (id : ByteArray) (ht now : Nat) (hid : id.size ≤ 100000000) (he : aliveE R id ≠ 0) (key : ByteArray) (vv : Value) (hvv : ∃ A n c, vv = .slice A n c) (pn : Int) (A : Option Addr) (m c : Nat) :
    Calls Tryz.prog 156 #[.pointer (some ⟨b, 0, none⟩), .string id, .int .u64 (ht : Int), .string key, vv, .agg #[.int .i64 pn, .slice A m c], .int .u64 (now : Int)] w fun e w' => e = .returned (.int .i64 (aliveE R id)) ∧ Below w.heap.size w w' := by
  have HA := Lib.hid (fun (Z : World) (hz : Below w.heap.size w Z) => rusable_no (h.up hz) id ht now hid he)
  obtain ⟨A1, n1, c1, rfl⟩ := hvv
  have hb0 : Below w.heap.size w w := Below.refl _ _
  have hb0' : Below w.heap.size w (w.alloc (.cells #[.int .i64 pn, .slice A m c] 69)) := (Below.refl _ _).alloc (Nat.le_refl _) _
  generalize aliveE R id = E at *
  have he' : (E != 0) = true := by simpa using he
  clear he h
  go_enter Tryz.func156, Tryz.ntmps156
  go_wp2_with fail
  first
    | refine (HA.out _ hb0).mono ?_
    | refine (HA.out _ hb0').mono ?_
  rintro e w1 ⟨rfl, hb1⟩
  have q1 : Below w.heap.size w w1 := by first | exact hb1 | exact below_chain hb0' hb0'.size hb1
  have q2 := q1.alloc q1.size (.cells #[.int .u64 0, .slice none 0 0, .slice none 0 0] 253)
  go_wp2_with fail
  go_ret
  first | exact ⟨rfl, q2⟩ | exact ⟨rfl, q1⟩
theorem Own.forms {w : World} {B : Nat} {v : Value} {l : List UInt8} (h : Own w B v l) : ∃ A n c, v = .slice A n c := by obtain ⟨A, c, e⟩ := h.form; exact ⟨A, _, c, e⟩
set_option maxHeartbeats 16000000 in
theorem rshown16_no {w : World} {b : Nat} {R : List Pr} (h : RGet w b R) (id : ByteArray) (hid : id.size ≤ 1048576) (st sn : Nat) (od : Bool) (po cp cn cc ve : ByteArray) (h_sn : sn < 18446744073709551616) (h_po : po.size ≤ 1048576) (h_cp : cp.size ≤ 1048576) (h_cn : cn.size ≤ 1048576) (h_cc : cc.size ≤ 1048576) (h_ve : ve.size ≤ 1048576) (ht now : Nat)
    (n : Int) (A : Option Addr) (m c : Nat) (hO0 : openE R cn = 0) (hvs : (openV R cn).cl.size ≤ 1048576 ∧ (openV R cn).ct.size ≤ 1048576) (hal : aliveE R (openV R cn).cl ≠ 0) :
    Calls Tryz.prog 95 #[.pointer (some ⟨b, 0, none⟩), .agg #[.int .u64 (st : Int), .bool od, .string po, .string cp, .string cn, .string cc, .string ve], .string id, .int .u64 (sn : Int), .int .u64 (ht : Int), .agg #[.int .i64 n, .slice A m c], .int .u64 (now : Int)] w fun e w' => e = .returned (.int .i64 (aliveE R (openV R cn).cl)) ∧ Below w.heap.size w w' := by
  have hb1 : Below w.heap.size w (w.alloc (.cells #[.int .u64 (st : Int), .bool od, .string po, .string cp, .string cn, .string cc, .string ve] 71)) := (Below.refl _ _).alloc (Nat.le_refl _) _
  have ha0 := hb1.alloc hb1.size (.cells #[.int .i64 n, .slice A m c] 69)
  have q1 := heap_alloc_new w (.cells #[.int .u64 (st : Int), .bool od, .string po, .string cp, .string cn, .string cc, .string ve] 71)
  have q2 := heap_alloc_new (w.alloc (.cells #[.int .u64 (st : Int), .bool od, .string po, .string cp, .string cn, .string cc, .string ve] 71)) (.cells #[.int .i64 n, .slice A m c] 69)
  replace q1 := (Below.heap_alloc (w.alloc (.cells #[.int .u64 (st : Int), .bool od, .string po, .string cp, .string cn, .string cc, .string ve] 71)) (.cells #[.int .i64 n, .slice A m c] 69) _ (blk_lt q1)).trans q1
  rw [show (w.alloc (.cells #[.int .u64 (st : Int), .bool od, .string po, .string cp, .string cn, .string cc, .string ve] 71)).heap.size = w.heap.size + 1 by simp] at q2
  clear hb1
  have hO := ropen16_any (h.up ha0) cn (by omega)
  obtain ⟨V, hV⟩ : ∃ v, v = openV R cn := ⟨_, rfl⟩
  obtain ⟨O, hOE⟩ : ∃ e, e = openE R cn := ⟨_, rfl⟩
  rw [← hV, ← hOE] at hO
  rw [← hV] at hvs hal ⊢
  have hz : O = 0 := hOE.trans hO0
  obtain ⟨vst, vcl, vcc, vct⟩ := V
  obtain ⟨o2, o4⟩ := hvs
  unfold CnV.val at hO
  dsimp only at hO o2 o4 hal ⊢
  have HO := Lib.hid hO
  obtain ⟨E, hE⟩ : ∃ e, e = aliveE R vcl := ⟨_, rfl⟩
  rw [← hE]
  have HKY : Hid (∀ Z : World, Calls Tryz.prog 35 #[.string cc] Z fun e w' => e = .returned (.string (kChn cc)) ∧ Z = w') := Lib.hid fun Z => rchkey_any _ Z (by omega)
  have HBY : Hid (∀ Z : World, Calls Tryz.prog 33 #[.agg #[.int .u64 (sn : Int), .bool od, .string cp, .string po, .string vct, .string id, .string ve]] Z fun e w' => ∃ v', e = .returned v' ∧ Own w' Z.heap.size v' (chB ⟨sn, od, cp, po, vct, id, ve⟩) ∧ Below Z.heap.size Z w') := Lib.hid fun Z => rchbytes_any ⟨sn, od, cp, po, vct, id, ve⟩ Z (by show sn < _; exact h_sn) (by show ByteArray.size cp ≤ _; unfold maxLen; omega) (by show ByteArray.size po ≤ _; unfold maxLen; omega) (by show ByteArray.size vct ≤ _; unfold maxLen; omega) (by show ByteArray.size id ≤ _; unfold maxLen; omega) (by show ByteArray.size ve ≤ _; unfold maxLen; omega)
  have HVE : Hid (∀ (Z : World) (hz : Below w.heap.size w Z) (v : Value) (B : Nat) (ho : Own Z B v (chB ⟨sn, od, cp, po, vct, id, ve⟩)), Calls Tryz.prog 156 #[.pointer (some ⟨b, 0, none⟩), .string vcl, .int .u64 (ht : Int), .string (kChn cc), v, .agg #[.int .i64 n, .slice A m c], .int .u64 (now : Int)] Z fun e w' => e = .returned (.int .i64 E) ∧ Below Z.heap.size Z w') :=
    Lib.hid fun Z hz v B ho => by
      have := rclverify_no (h.up hz) vcl ht now (by omega) hal (kChn cc) v ho.forms n A m c
      rw [← hE] at this
      exact this
  generalize chB ⟨sn, od, cp, po, vct, id, ve⟩ = L1 at *
  generalize kChn cc = key at *
  generalize hW0 : (w.alloc (.cells #[.int .u64 (st : Int), .bool od, .string po, .string cp, .string cn, .string cc, .string ve] 71)).alloc (.cells #[.int .i64 n, .slice A m c] 69) = W0 at *
  have HW : Hid (∀ Z, Below W0.heap.size W0 Z → Below w.heap.size w Z) := Lib.hid fun Z hz => below_chain ha0 ha0.size hz
  generalize hgg : w.heap.size = g0 at *
  have HC0 : Hid (∀ Z, Below W0.heap.size W0 Z → Z.heap[g0]? = some (.cells #[.int .u64 (st : Int), .bool od, .string po, .string cp, .string cn, .string cc, .string ve] 71 (0, 0))) := Lib.hid fun Z hz => (hz.block _ (blk_lt q1)).trans q1
  have HP0 : Hid (∀ Z, Below W0.heap.size W0 Z → Z.heap[g0 + 1]? = some (.cells #[.int .i64 n, .slice A m c] 69 (0, 0))) := Lib.hid fun Z hz => (hz.block _ (blk_lt q2)).trans q2
  have HKP : Hid (∀ Z, Below g0 w Z → Kept w Z) := Lib.hid fun Z hz => Kept.of_belowX (by rw [hgg]; exact hz)
  have HG0 : Hid (g0 ≤ W0.heap.size) := Lib.hid (by rw [← hgg]; exact ha0.size)
  clear h hid h_sn h_po h_cp h_cn h_cc h_ve hE hV hOE q1 q2 ha0 o2 o4 hal hO0
  subst hz
  have m0 := HC0.out _ (Below.refl _ _)
  have c4 := blk_cell m0 4
  go_enter Tryz.func95, Tryz.ntmps95
  go_wp2_with fail
  try rw [hW0]
  clear hW0
  try rw [hgg]
  refine HO.out.mono ?_
  rintro e w1 ⟨rfl, hb1⟩
  have b2 := hb1.alloc hb1.size (.cells #[.int .u64 (vst : Int), .string vcl, .string vcc, .string vct] 133)
  have mN := heap_alloc_new w1 (.cells #[.int .u64 (vst : Int), .string vcl, .string vcc, .string vct] 133)
  clear c4 m0 HO hb1
  have m2 := HC0.out _ b2
  have c1 := blk_cell m2 1
  have c2 := blk_cell m2 2
  have c3 := blk_cell m2 3
  have c4 := blk_cell m2 4
  have c5 := blk_cell m2 5
  have c6 := blk_cell m2 6
  have v3 := blk_cell mN 3
  have HMN : Hid (∀ Z, Below (w1.alloc (.cells #[.int .u64 (vst : Int), .string vcl, .string vcc, .string vct] 133)).heap.size (w1.alloc (.cells #[.int .u64 (vst : Int), .string vcl, .string vcc, .string vct] 133)) Z → Z.heap[w1.heap.size]? = some (.cells #[.int .u64 (vst : Int), .string vcl, .string vcc, .string vct] 133 (0, 0))) := Lib.hid fun Z hz => (hz.block _ (blk_lt mN)).trans mN
  have hs2 : (w1.alloc (.cells #[.int .u64 (vst : Int), .string vcl, .string vcc, .string vct] 133)).heap.size = w1.heap.size + 1 := by simp
  have HS2 := Lib.hid hs2
  clear mN m2 hs2
  go_wp2_with fail
  clear c1 c2 c3 c4 c5 c6 v3
  generalize w1.alloc (.cells #[.int .u64 (vst : Int), .string vcl, .string vcc, .string vct] 133) = w2 at *
  generalize w1.heap.size = gN at *
  have b3 := b2.alloc b2.size (.cells #[.int .u64 (sn : Int), .bool od, .string cp, .string po, .string vct, .string id, .string ve] 71)
  have mO := heap_alloc_new w2 (.cells #[.int .u64 (sn : Int), .bool od, .string cp, .string po, .string vct, .string id, .string ve] 71)
  have hb23 : Below w2.heap.size w2 (w2.alloc (.cells #[.int .u64 (sn : Int), .bool od, .string cp, .string po, .string vct, .string id, .string ve] 71)) := (Below.refl _ _).alloc (Nat.le_refl _) _
  rw [HS2.out] at mO
  generalize w2.alloc (.cells #[.int .u64 (sn : Int), .bool od, .string cp, .string po, .string vct, .string id, .string ve] 71) = w3 at *
  have HC : Hid (∀ Z, Below w3.heap.size w3 Z → Z.cell? ⟨g0, 5, none⟩ = some (.string cc) ∧ Z.cell? ⟨g0 + 1, 0, none⟩ = some (.int .i64 n) ∧ Z.cell? ⟨g0 + 1, 1, none⟩ = some (.slice A m c) ∧ Z.cell? ⟨gN, 1, none⟩ = some (.string vcl) ∧ Z.cell? ⟨gN + 1, 0, none⟩ = some (.int .u64 (sn : Int)) ∧ Z.cell? ⟨gN + 1, 1, none⟩ = some (.bool od) ∧ Z.cell? ⟨gN + 1, 2, none⟩ = some (.string cp) ∧ Z.cell? ⟨gN + 1, 3, none⟩ = some (.string po) ∧ Z.cell? ⟨gN + 1, 4, none⟩ = some (.string vct) ∧ Z.cell? ⟨gN + 1, 5, none⟩ = some (.string id) ∧ Z.cell? ⟨gN + 1, 6, none⟩ = some (.string ve)) := Lib.hid fun Z hz => by
    have e1 := HC0.out Z (b3.trans (hz.mono b3.size))
    have e2 := HP0.out Z (b3.trans (hz.mono b3.size))
    have e3 := HMN.out Z (hb23.trans (hz.mono hb23.size))
    have e4 := (hz.block _ (blk_lt mO)).trans mO
    exact ⟨blk_cell e1 5, blk_cell e2 0, blk_cell e2 1, blk_cell e3 1, blk_cell e4 0, blk_cell e4 1, blk_cell e4 2, blk_cell e4 3, blk_cell e4 4, blk_cell e4 5, blk_cell e4 6⟩
  have hkD : Below w3.heap.size w3 w3.drew := Below.drew (Below.refl _ _)
  have HVE2 := Lib.hid (fun (Z : World) (hz : Below w3.heap.size w3 Z) (v : Value) (B : Nat) (ho : Own Z B v L1) => HVE.out Z (HW.out _ (b3.trans (hz.mono b3.size))) v B ho)
  have B3 := Lib.hid b3
  clear mO b3 b2 hb23 HMN HC0 HP0 HVE HS2
  go_region_held_law (fun Z => Z.cell? ⟨g0, 5, none⟩ = some (.string cc) ∧ Z.cell? ⟨g0 + 1, 0, none⟩ = some (.int .i64 n) ∧ Z.cell? ⟨g0 + 1, 1, none⟩ = some (.slice A m c) ∧ Z.cell? ⟨gN, 1, none⟩ = some (.string vcl) ∧ Z.cell? ⟨gN + 1, 0, none⟩ = some (.int .u64 (sn : Int)) ∧ Z.cell? ⟨gN + 1, 1, none⟩ = some (.bool od) ∧ Z.cell? ⟨gN + 1, 2, none⟩ = some (.string cp) ∧ Z.cell? ⟨gN + 1, 3, none⟩ = some (.string po) ∧ Z.cell? ⟨gN + 1, 4, none⟩ = some (.string vct) ∧ Z.cell? ⟨gN + 1, 5, none⟩ = some (.string id) ∧ Z.cell? ⟨gN + 1, 6, none⟩ = some (.string ve))
    (with_reducible first | exact HC.out _ hk2 | exact HC.out _ hk1 | exact HC.out _ hkD)
    ((first
      | (go_at_call 35; refine (HKY.out _).mono ?_; rintro e w9 ⟨rfl, rfl⟩)
      | (go_at_call 33; refine (HBY.out _).mono ?_; rintro e w4 ⟨v4, rfl, ho4, hb4⟩; have hk1 := below_chain hkD hkD.size hb4)
      | (go_at_call 156; refine (HVE2.out _ hk1 _ _ ho4).mono ?_; rintro e w5 ⟨rfl, hb5⟩; have hk2 := below_chain hk1 hk1.size hb5)))
  all_goals
    have hfin := HW.out _ (B3.out.trans (hk2.mono B3.out.size))
    go_wp2_with fail
    go_ret
    exact ⟨rfl, by first | exact hfin | (rw [hgg]; exact hfin)⟩
end Go.Proofs.YtpcoonnfaoakhaaGreatDoor
