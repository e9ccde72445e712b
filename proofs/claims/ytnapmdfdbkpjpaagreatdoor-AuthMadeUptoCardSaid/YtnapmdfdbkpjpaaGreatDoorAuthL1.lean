
/- The walk of the law: an account is made once. -/
import Derived.Test.YtnapmdfdbkpjpaaGreatDoorAuthG
import Derived.Test.YtnapmdfdbkpjpaaGreatDoorSto1
namespace Go.Proofs.YtnapmdfdbkpjpaaGreatDoor
set_option maxRecDepth 100000
open Go Go.RowKit
set_option linter.unusedVariables false

set_option maxHeartbeats 8000000 in
theorem made_law (w : World) (v : Value) (ps : List Pr) (hps : RdP w w.heap.size v ps) (hnl : ∀ p ∈ ps, p.1.size ≤ maxLen) (hlen : ps.length ≤ 2000000) (a : ByteArray) (ha : a.size ≤ 100000000) (rv : Value) (r : List UInt8) (hr : Rd w w.heap.size rv r) :
    Calls Tryz.prog 4 #[v, .string a, rv] w fun e w' => e = .returned (.bool true) ∧ Below w.heap.size w w' := by
  have s1 := kAcc_size a
  obtain ⟨K, hK⟩ : ∃ K, K = kAcc a := ⟨_, rfl⟩
  have hadd : ∀ W, (Op.stringOp .add ⟨#[97, 99, 99, 47]⟩ a).run Tryz.prog W = .ok (.string K) W := fun W => by
    rw [hK]
    exact txt_add accP a (by rw [show accP.size = 4 from rfl]; omega) W
  have hKs : K.size ≤ maxLen := by rw [hK]; unfold maxLen; omega
  have HKK := Lib.hid hK
  clear hK s1
  have HN := Lib.hid (new_any w v ps hps hnl)
  have HP := Lib.hid hps
  have HR := Lib.hid hr
  obtain ⟨SR, hSR⟩ : ∃ SR : ByteArray, SR = ⟨r.toArray⟩ := ⟨_, rfl⟩
  have HCS : Hid (∀ (Z : World) (v : Value), Rd Z Z.heap.size v r → (convert 23 9 v).run Tryz.prog Z = .ok (.string SR) Z) := Lib.hid fun Z v h => by rw [hSR]; exact run_str Tryz.underlying23 Tryz.underlying5 Tryz.isString h
  clear hSR
  obtain ⟨A, c, rfl⟩ : ∃ A c, v = .slice A ps.length c := by obtain ⟨A, c, h, _⟩ := hps; exact ⟨A, c, h⟩
  obtain ⟨Ar, cr, rfl⟩ := hr.form
  clear hps hr
  obtain ⟨n, hn⟩ : ∃ n, n = ps.length := ⟨_, rfl⟩
  obtain ⟨m, hm⟩ : ∃ m, m = r.length := ⟨_, rfl⟩
  rw [← hn] at HN HP hlen ⊢
  rw [← hm] at HR ⊢
  have HNM := Lib.hid (And.intro hn hm)
  clear hn hm
  go_enter Tryz.func4, Tryz.ntmps4
  go_wp2_with fail
  refine HN.out.mono ?_
  rintro e w1 ⟨⟨-, rfl⟩ | ⟨-, y, rfl, hyb, hym, hyn, hly, hri, hp1⟩, hb1⟩
  · go_wp2_with fail
    refine (afixed_any _).mono ?_
    rintro e w2 ⟨rfl, hb2⟩
    have hq2 := below_chain hb1 hb1.size hb2
    go_wp2_with fail
    refine (afixed_any _).mono ?_
    rintro e w3 ⟨rfl, hb3⟩
    have hq3 := below_chain hq2 hq2.size hb3
    go_wp2_with fail
    go_ret
    exact ⟨rfl, hq3⟩
  · have A1 := Acc.made hp1 hly hri hnl
    have HRI := Lib.hid hri
    have HYN := Lib.hid (show y.n = n from hyn)
    have HB1 := Lib.hid hb1
    have hW1 := hb1.size
    obtain ⟨yb, ym, yn, yf⟩ := y
    dsimp only at hym HYN ⊢
    clear hyb hyn hly hri hp1 HN
    go_wp2_with fail
    refine (afixed_any _).mono ?_
    rintro e w2 ⟨rfl, hb2⟩
    have A2 := A1.up hb2
    have hq2 := below_chain hb1 hb1.size hb2
    have HG := Lib.hid (A2.get K hKs)
    clear A1 hb2 hb1
    go_wp2_with fail
    refine HG.out.mono ?_
    rintro e w3 ⟨v3, rfl, ho3, hb3⟩
    obtain ⟨A3s, c3, rfl⟩ := ho3.form
    generalize ((getL ps K).getD []).length = n3 at *
    have A3 := A2.up hb3
    have hq3 := below_chain hq2 hq2.size hb3
    have hk3 := Kept.of_below hq3
    have HCr := Lib.hid (acreate_any A3 (show yn + 0 < maxLen by have := HYN.out; unfold maxLen; omega) a ha (.slice Ar m cr) r (hk3.rd HR.out))
    obtain ⟨os, hos⟩ : ∃ os, os = (getL ps K).isSome := ⟨_, rfl⟩
    rw [← hos]
    have HOS := Lib.hid (show os = (getL ps (kAcc a)).isSome by rw [hos, HKK.out])
    obtain ⟨q, hq⟩ : ∃ q, q = createM ps a r := ⟨_, rfl⟩
    rw [← hq] at HCr
    have HQ := Lib.hid hq
    clear hos hq ho3 hq2 HG A2 A3 hb3
    go_wp2_with fail
    refine HCr.out.mono ?_
    rintro e w4 ⟨rfl, A4, hk4⟩
    have hk04 := hk3.trans hk4
    have HG2 := Lib.hid (aget_any A4 a ha)
    clear HCr hk3 hk4 hq3
    go_wp2_with fail
    refine HG2.out.mono ?_
    by_cases e0 : q.1 = 0
    · obtain ⟨q1, q2, q3, q4⟩ := create_yes (by rw [← HQ.out]; exact e0)
      have hosf : os = false := by rw [HOS.out, q3]; rfl
      have hq2 : q.2 = putA ps a r 0 0 := by rw [HQ.out, q4]
      have hga2 : getA q.2 a = some (r, 0, 0) := by rw [hq2]; exact getA_put (by omega) (by omega) (by omega)
      have hl2 : q.2.length = n + 1 := by
        rw [hq2]; unfold putA
        rw [putL_len HRI.out, q3, HNM.out.1]
        rfl
      have htw : createM q.2 a r = (111, q.2) := by
        have h := create_twice (R := ps) (a := a) (r := r) (by rw [← HQ.out]; exact e0)
        rw [← HQ.out] at h
        exact h
      obtain rfl : m = 32 := by rw [HNM.out.2]; exact q2
      rintro e w5 ⟨⟨v5, r5, b5, s5, hga, rfl, ho5⟩ | ⟨hga, -⟩, hb5⟩
      rotate_left
      · rw [hga2] at hga; cases hga
      rw [hga2] at hga
      injection hga with e1
      injection e1 with e1 e2
      injection e2 with e2 e3
      subst e1
      have hb0 : ((b5 : Int) == 0) = true := by simp [← e2]
      have hs0 : ((s5 : Int) == 0) = true := by simp [← e3]
      have ho5' := ho5
      obtain ⟨A5, c5, rfl⟩ := ho5.form' q2
      have hk6 := heap_alloc_new w5 (.cells #[.slice A5 32 c5, .int .u64 (b5 : Int), .int .u64 (s5 : Int)] 31)
      have hal : Below w5.heap.size w5 (w5.alloc (.cells #[.slice A5 32 c5, .int .u64 (b5 : Int), .int .u64 (s5 : Int)] 31)) := (Below.refl _ _).alloc (Nat.le_refl _) _
      have z0 := blk_cell hk6 0
      have z1 := blk_cell hk6 1
      have z2 := blk_cell hk6 2
      simp at z0 z1 z2
      have t0 := HCS.out _ _ (ho5'.rd.up (Nat.le_refl _) hal)
      have hb6 := below_chain hb5 hb5.size hal
      have A6 := A4.up hb6
      have hk06 := hk04.trans (Kept.of_below hb6)
      have t1 := HCS.out _ _ (hk06.rd HR.out)
      have HPa := Lib.hid (A6.pairs (show yn + (0 + 1) ≤ 1000000000 by have := HYN.out; omega) ⟨#[]⟩ (by decide +kernel))
      rw [filter_all] at HPa
      have hw : IntKind.i64.wrap ((n : Int) + 1) = (n : Int) + 1 := by rw [IntKind.wrap_i64]; omega
      have HCr2 : Hid (∀ Z, Below (w5.alloc (.cells #[.slice A5 32 c5, .int .u64 (b5 : Int), .int .u64 (s5 : Int)] 31)).heap.size (w5.alloc (.cells #[.slice A5 32 c5, .int .u64 (b5 : Int), .int .u64 (s5 : Int)] 31)) Z → Calls Tryz.prog 12 #[.pointer (some ⟨yb, 0, none⟩), .string a, .slice Ar 32 cr] Z fun e w' => e = .returned (.int .i64 111) ∧ Below w.heap.size w w') := Lib.hid fun Z hz => by
        have h := acreate_any (A6.up hz) (show yn + (0 + 1) < maxLen by have := HYN.out; unfold maxLen; omega) a ha (.slice Ar 32 cr) r ((hk06.trans (Kept.of_below hz)).rd HR.out)
        rw [htw] at h
        refine h.mono ?_
        rintro e w' ⟨h1, h2, h3⟩
        exact ⟨h1, HB1.out.trans (h2.below hym hW1)⟩
      obtain ⟨q1', q2'⟩ := q
      dsimp only at e0 hl2 HPa
      subst e0
      subst hosf
      clear HOS HQ HRI A4 hk04 HG2 q1 q2 q3 q4 hq2 hga2 htw e2 e3 ho5 ho5' hk6 hal hb5 hb6 A6 hk06 HYN HKK
      have HL2 := Lib.hid hl2
      clear hl2 hnl hadd hKs
      clear z0 z1 z2
      go_wp2_with fail
      refine HPa.out.mono ?_
      rintro e w7 ⟨v7, rfl, ho7, hb7⟩
      obtain ⟨A7, c7, rfl⟩ := ho7.form
      rw [HL2.out]
      have HC3 := Lib.hid (HCr2.out _ hb7)
      clear HPa HCr2 ho7
      go_wp2_with fail
      refine HC3.out.mono ?_
      rintro e w8 ⟨rfl, hq8⟩
      go_wp2_with fail
      go_ret
      exact ⟨rfl, hq8⟩
    · obtain ⟨q2, q3⟩ := create_no (by rw [← HQ.out]; exact e0)
      have hqr : q.2 = ps := by rw [HQ.out, q2]
      rw [← HOS.out, ← HNM.out.2, ← HQ.out] at q3
      obtain ⟨z, R2⟩ := q
      dsimp only at hqr q3 e0 A4 ⊢
      subst hqr
      have hne : (z != 0) = true := by simpa using e0
      rintro e w5 ⟨hee, hb5⟩
      have HQ3 := Lib.hid q3
      clear q3 q2 HQ HOS HG2 e0 hnl hadd hKs
      rcases hee with ⟨v5, r5, b5, s5, -, rfl, ho5⟩ | ⟨-, rfl⟩
      · obtain ⟨A5, c5, rfl⟩ := ho5.form
        generalize r5.length = n5 at *
        clear ho5
        have hb6 := hb5.alloc hb5.size (.cells #[.slice A5 n5 c5, .int .u64 (b5 : Int), .int .u64 (s5 : Int)] 31)
        have A6 := A4.up hb6
        have hk6 := hk04.trans (Kept.of_below hb6)
        have HPa := Lib.hid (A6.pairs (show yn + (0 + 1) ≤ 1000000000 by have := HYN.out; omega) ⟨#[]⟩ (by decide +kernel))
        rw [filter_all] at HPa
        have HF : Hid (∀ Z, Below (w5.alloc (.cells #[.slice A5 n5 c5, .int .u64 (b5 : Int), .int .u64 (s5 : Int)] 31)).heap.size (w5.alloc (.cells #[.slice A5 n5 c5, .int .u64 (b5 : Int), .int .u64 (s5 : Int)] 31)) Z → Below w.heap.size w Z) := Lib.hid fun Z hz => HB1.out.trans ((A6.up hz).below hym hW1)
        clear A4 A6 hb5 hb6 hk04 HCS HKK HRI HYN
        go_wp2_with fail
        refine HPa.out.mono ?_
        rintro e w7 ⟨v7, rfl, ho7, hb7⟩
        have HSA := Lib.hid (samePs_any w7 v7 (.slice A n c) _ _ ho7.rdP (HP.out.kept (hk6.trans (Kept.of_below hb7))))
        obtain ⟨A7, c7, rfl⟩ := ho7.form
        clear ho7 HPa
        go_wp2_with fail
        refine HSA.out.mono ?_
        rintro e w8 ⟨rfl, hb8⟩
        have hq8 := HF.out _ (below_chain hb7 hb7.size hb8)
        simp only [decide_true]
        clear HSA hb7 hb8 HF hk6
        rcases HQ3.out with q3 | q3 | q3
        · subst q3
          go_wp2_with fail
          go_ret
          exact ⟨rfl, hq8⟩
        · have hm : ((m : Int) != 32) = true := by simp; omega
          cases os
          · go_wp2_with fail
            go_ret
            exact ⟨rfl, hq8⟩
          · go_wp2_with fail
            go_ret
            exact ⟨rfl, hq8⟩
        · subst q3
          cases os
          · by_cases hm : m = 32
            · subst hm
              go_wp2_with fail
              go_ret
              exact ⟨rfl, hq8⟩
            · have hm' : ((m : Int) != 32) = true := by simp; omega
              go_wp2_with fail
              go_ret
              exact ⟨rfl, hq8⟩
          · go_wp2_with fail
            go_ret
            exact ⟨rfl, hq8⟩
      · skip
        have hb6 := hb5.alloc hb5.size (.cells #[.slice none 0 0, .int .u64 0, .int .u64 0] 31)
        have A6 := A4.up hb6
        have hk6 := hk04.trans (Kept.of_below hb6)
        have HPa := Lib.hid (A6.pairs (show yn + (0 + 1) ≤ 1000000000 by have := HYN.out; omega) ⟨#[]⟩ (by decide +kernel))
        rw [filter_all] at HPa
        have HF : Hid (∀ Z, Below (w5.alloc (.cells #[.slice none 0 0, .int .u64 0, .int .u64 0] 31)).heap.size (w5.alloc (.cells #[.slice none 0 0, .int .u64 0, .int .u64 0] 31)) Z → Below w.heap.size w Z) := Lib.hid fun Z hz => HB1.out.trans ((A6.up hz).below hym hW1)
        clear A4 A6 hb5 hb6 hk04 HCS HKK HRI HYN
        go_wp2_with fail
        refine HPa.out.mono ?_
        rintro e w7 ⟨v7, rfl, ho7, hb7⟩
        have HSA := Lib.hid (samePs_any w7 v7 (.slice A n c) _ _ ho7.rdP (HP.out.kept (hk6.trans (Kept.of_below hb7))))
        obtain ⟨A7, c7, rfl⟩ := ho7.form
        clear ho7 HPa
        go_wp2_with fail
        refine HSA.out.mono ?_
        rintro e w8 ⟨rfl, hb8⟩
        have hq8 := HF.out _ (below_chain hb7 hb7.size hb8)
        simp only [decide_true]
        clear HSA hb7 hb8 HF hk6
        rcases HQ3.out with q3 | q3 | q3
        · subst q3
          go_wp2_with fail
          go_ret
          exact ⟨rfl, hq8⟩
        · have hm : ((m : Int) != 32) = true := by simp; omega
          cases os
          · go_wp2_with fail
            go_ret
            exact ⟨rfl, hq8⟩
          · go_wp2_with fail
            go_ret
            exact ⟨rfl, hq8⟩
        · subst q3
          cases os
          · by_cases hm : m = 32
            · subst hm
              go_wp2_with fail
              go_ret
              exact ⟨rfl, hq8⟩
            · have hm' : ((m : Int) != 32) = true := by simp; omega
              go_wp2_with fail
              go_ret
              exact ⟨rfl, hq8⟩
          · go_wp2_with fail
            go_ret
            exact ⟨rfl, hq8⟩
end Go.Proofs.YtnapmdfdbkpjpaaGreatDoor
