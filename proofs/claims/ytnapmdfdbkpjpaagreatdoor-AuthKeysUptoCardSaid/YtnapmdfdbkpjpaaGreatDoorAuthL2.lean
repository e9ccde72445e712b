
/- The walk of the law: other keys are good from the next transaction on. -/
import Derived.Test.YtnapmdfdbkpjpaaGreatDoorAuthG
import Derived.Test.YtnapmdfdbkpjpaaGreatDoorSto1
namespace Go.Proofs.YtnapmdfdbkpjpaaGreatDoor
set_option maxRecDepth 100000
open Go Go.RowKit
set_option linter.unusedVariables false

theorem rekey_none {R : List Pr} {a : ByteArray} {r : List UInt8} (h : getA R a = none) : rekeyM R a r = (80, R) := by
  unfold rekeyM; rw [h]
theorem rekey_short {R : List Pr} {a : ByteArray} {r r0 : List UInt8} {b s : Nat} (h : getA R a = some (r0, b, s)) (hr : r.length ≠ 32) : rekeyM R a r = (31, R) := by
  unfold rekeyM; rw [h]; simp [hr]
theorem rekey_yes {R : List Pr} {a : ByteArray} {r r0 : List UInt8} {b s : Nat} (h : getA R a = some (r0, b, s)) (hr : r.length = 32) : rekeyM R a r = (0, putA R a r s s) := by
  unfold rekeyM; rw [h]; simp [hr]

set_option maxHeartbeats 8000000 in
theorem keys_law (w : World) (v : Value) (ps : List Pr) (hps : RdP w w.heap.size v ps) (hnl : ∀ p ∈ ps, p.1.size ≤ maxLen) (hlen : ps.length ≤ 2000000) (a : ByteArray) (ha : a.size ≤ 100000000) (rv : Value) (r : List UInt8) (hr : Rd w w.heap.size rv r) :
    Calls Tryz.prog 3 #[v, .string a, rv] w fun e w' => e = .returned (.bool true) ∧ Below w.heap.size w w' := by
  have HN := Lib.hid (new_any w v ps hps hnl)
  have HP := Lib.hid hps
  have HR := Lib.hid hr
  obtain ⟨SR, hSR⟩ : ∃ SR : ByteArray, SR = ⟨r.toArray⟩ := ⟨_, rfl⟩
  have HCS : Hid (∀ (Z : World) (v : Value), Rd Z Z.heap.size v r → (convert 23 9 v).run Tryz.prog Z = .ok (.string SR) Z) := Lib.hid fun Z v h => by rw [hSR]; exact run_str Tryz.underlying23 Tryz.underlying5 Tryz.isString h
  clear hSR
  obtain ⟨A, c, rfl⟩ : ∃ A c, v = .slice A ps.length c := by obtain ⟨A, c, h, _⟩ := hps; exact ⟨A, c, h⟩
  obtain ⟨Ar, cr, rfl⟩ := hr.form
  clear hps hr
  obtain ⟨n, hn⟩ : ∃ n, n = ps.length := ⟨_, rfl⟩
  obtain ⟨m, hm⟩ : ∃ m, m = r.length := ⟨_, rfl⟩
  rw [← hn] at HN HP hlen ⊢
  rw [← hm] at HR ⊢
  have HNM := Lib.hid (And.intro hn hm)
  clear hn hm
  go_enter Tryz.func3, Tryz.ntmps3
  go_wp2_with fail
  refine HN.out.mono ?_
  rintro e w1 ⟨⟨-, rfl⟩ | ⟨-, y, rfl, hyb, hym, hyn, hly, hri, hp1⟩, hb1⟩
  · go_wp2_with fail
    refine (afixed_any _).mono ?_
    rintro e w2 ⟨rfl, hb2⟩
    have hq2 := below_chain hb1 hb1.size hb2
    go_wp2_with fail
    refine (afixed_any _).mono ?_
    rintro e w3 ⟨rfl, hb3⟩
    have hq3 := below_chain hq2 hq2.size hb3
    go_wp2_with fail
    go_ret
    exact ⟨rfl, hq3⟩
  · have A1 := Acc.made hp1 hly hri hnl
    have HRI := Lib.hid hri
    have HYN := Lib.hid (show y.n = n from hyn)
    have HB1 := Lib.hid hb1
    have hW1 := hb1.size
    obtain ⟨yb, ym, yn, yf⟩ := y
    dsimp only at hym HYN ⊢
    clear hyb hyn hly hri hp1 HN hnl
    go_wp2_with fail
    refine (afixed_any _).mono ?_
    rintro e w2 ⟨rfl, hb2⟩
    have A2 := A1.up hb2
    have hq2 := below_chain hb1 hb1.size hb2
    have HG := Lib.hid (aget_any A2 a ha)
    clear A1 hb2 hb1
    go_wp2_with fail
    refine HG.out.mono ?_
    rintro e w3 ⟨hee, hb3⟩
    clear HG
    rcases hee with ⟨v0, r0, b0, s0, hga, rfl, ho0⟩ | ⟨hga, rfl⟩
    · skip
      obtain ⟨A0, c0, rfl⟩ := ho0.form
      generalize r0.length = n0 at *
      have hk0 := heap_alloc_new w3 (.cells #[.slice A0 n0 c0, .int .u64 (b0 : Int), .int .u64 (s0 : Int)] 31)
      have hb3' := hb3.alloc hb3.size (.cells #[.slice A0 n0 c0, .int .u64 (b0 : Int), .int .u64 (s0 : Int)] 31)
      have A3 := A2.up hb3'
      have hk3 := Kept.of_below (below_chain hq2 hq2.size hb3')
      have HCr := Lib.hid (arekey_any A3 (show yn + 0 < maxLen by have := HYN.out; unfold maxLen; omega) a ha (.slice Ar m cr) r (hk3.rd HR.out))
      have HC2 := Lib.hid (fun (Z : World) (hz : Kept (w3.alloc (.cells #[.slice A0 n0 c0, .int .u64 (b0 : Int), .int .u64 (s0 : Int)] 31)) Z) => hz.cell (blk_cell hk0 2))
      clear hb3 hb3' A2 A3 hq2 hk0
      by_cases hm : r.length = 32
      · skip
        obtain ⟨l0, g1, -, -, g4⟩ := getA_ok hga
        have hq := rekey_yes (r := r) hga hm
        rw [hq] at HCr
        have hga2 : getA (putA ps a r s0 s0) a = some (r, s0, s0) := getA_put (by omega) g4 g4
        have hl2 : (putA ps a r s0 s0).length = n := by
          unfold putA
          rw [putL_len HRI.out, g1, HNM.out.1]
          rfl
        have hm32 := hm
        rw [← HNM.out.2] at hm
        subst hm
        have HH := Lib.hid (And.intro hga2 (And.intro hl2 hm32))
        generalize putA ps a r s0 s0 = R2 at *
        dsimp only at HCr
        clear hga2 hl2 hm32 hq g1 g4 hga ho0
        go_wp2_with fail
        generalize w3.alloc (.cells #[.slice A0 n0 c0, .int .u64 (b0 : Int), .int .u64 (s0 : Int)] 31) = w3' at *
        generalize w3.heap.size = g3 at *
        refine HCr.out.mono ?_
        rintro e w4 ⟨rfl, A4, hk4⟩
        have hk04 := hk3.trans hk4
        have HG2 := Lib.hid (aget_any A4 a ha)
        clear HCr hk3
        go_wp2_with fail
        refine HG2.out.mono ?_
        rintro e w5 ⟨⟨v5, r5, b5, s5, hga, rfl, ho5⟩ | ⟨hga, -⟩, hb5⟩
        rotate_left
        · rw [HH.out.1] at hga; cases hga
        rw [HH.out.1] at hga
        injection hga with e1
        injection e1 with e1 e2
        injection e2 with e2 e3
        subst e1
        subst e2
        subst e3
        obtain ⟨A5, c5, rfl⟩ := (id ho5).form' HH.out.2.2
        have hal : Below w5.heap.size w5 (w5.alloc (.cells #[.slice A5 32 c5, .int .u64 (s0 : Int), .int .u64 (s0 : Int)] 31)) := (Below.refl _ _).alloc (Nat.le_refl _) _
        have t0 := HCS.out _ _ (ho5.rd.up (Nat.le_refl _) hal)
        have hb6 := below_chain hb5 hb5.size hal
        have A6 := A4.up hb6
        have hk06 := hk04.trans (Kept.of_below hb6)
        have t1 := HCS.out _ _ (hk06.rd HR.out)
        have x2 : (w5.alloc (.cells #[.slice A5 32 c5, .int .u64 (s0 : Int), .int .u64 (s0 : Int)] 31)).cell? ⟨g3, 2, none⟩ = some (.int .u64 (s0 : Int)) := HC2.out _ (hk4.trans (Kept.of_below hb6))
        have HPa := Lib.hid (A6.pairs (show yn + (0 + 1) ≤ 1000000000 by have := HYN.out; omega) ⟨#[]⟩ (by decide +kernel))
        rw [filter_all] at HPa
        have HF : Hid (∀ Z, Below (w5.alloc (.cells #[.slice A5 32 c5, .int .u64 (s0 : Int), .int .u64 (s0 : Int)] 31)).heap.size (w5.alloc (.cells #[.slice A5 32 c5, .int .u64 (s0 : Int), .int .u64 (s0 : Int)] 31)) Z → Below w.heap.size w Z) := Lib.hid fun Z hz => HB1.out.trans ((A6.up hz).below hym hW1)
        clear HRI A4 hk04 hk4 HG2 ho5 hal hb5 hb6 A6 hk06 HYN HC2
        go_wp2_with fail
        refine HPa.out.mono ?_
        rintro e w7 ⟨v7, rfl, ho7, hb7⟩
        obtain ⟨A7, c7, rfl⟩ := ho7.form
        rw [HH.out.2.1]
        have hq7 := HF.out _ hb7
        clear HPa ho7
        go_wp2_with fail
        go_ret
        exact ⟨rfl, hq7⟩
      · have hq := rekey_short (r := r) hga hm
        rw [hq] at HCr
        rw [← HNM.out.2] at hm
        have hm' : ((m : Int) != 32) = true := by simp; omega
        dsimp only at HCr
        clear hq hga ho0 hm
        go_wp2_with fail
        generalize w3.alloc (.cells #[.slice A0 n0 c0, .int .u64 (b0 : Int), .int .u64 (s0 : Int)] 31) = w3' at *
        refine HCr.out.mono ?_
        rintro e w4 ⟨rfl, A4, hk4⟩
        have hk04 := hk3.trans hk4
        have HG2 := Lib.hid (aget_any A4 a ha)
        clear HCr hk3 hk4
        go_wp2_with fail
        refine HG2.out.mono ?_
        rintro e w5 ⟨hee, hb5⟩
        clear HG2
        rcases hee with ⟨v5, r5, b5, s5, -, rfl, ho5⟩ | ⟨-, rfl⟩
        · obtain ⟨A5, c5, rfl⟩ := ho5.form
          generalize r5.length = n5 at *
          clear ho5
          have hb6 := hb5.alloc hb5.size (.cells #[.slice A5 n5 c5, .int .u64 (b5 : Int), .int .u64 (s5 : Int)] 31)
          have A6 := A4.up hb6
          have hk6 := hk04.trans (Kept.of_below hb6)
          have HPa := Lib.hid (A6.pairs (show yn + (0 + 1) ≤ 1000000000 by have := HYN.out; omega) ⟨#[]⟩ (by decide +kernel))
          rw [filter_all] at HPa
          have HF : Hid (∀ Z, Below (w5.alloc (.cells #[.slice A5 n5 c5, .int .u64 (b5 : Int), .int .u64 (s5 : Int)] 31)).heap.size (w5.alloc (.cells #[.slice A5 n5 c5, .int .u64 (b5 : Int), .int .u64 (s5 : Int)] 31)) Z → Below w.heap.size w Z) := Lib.hid fun Z hz => HB1.out.trans ((A6.up hz).below hym hW1)
          clear A4 A6 hb5 hb6 hk04 HCS HRI HYN HC2
          go_wp2_with fail
          refine HPa.out.mono ?_
          rintro e w7 ⟨v7, rfl, ho7, hb7⟩
          have HSA := Lib.hid (samePs_any w7 v7 (.slice A n c) _ _ ho7.rdP (HP.out.kept (hk6.trans (Kept.of_below hb7))))
          obtain ⟨A7, c7, rfl⟩ := ho7.form
          clear ho7 HPa
          go_wp2_with fail
          refine HSA.out.mono ?_
          rintro e w8 ⟨rfl, hb8⟩
          have hq8 := HF.out _ (below_chain hb7 hb7.size hb8)
          simp only [decide_true]
          clear HSA hb7 hb8 HF hk6
          go_wp2_with fail
          go_ret
          exact ⟨rfl, hq8⟩
        · skip
          have hb6 := hb5.alloc hb5.size (.cells #[.slice none 0 0, .int .u64 0, .int .u64 0] 31)
          have A6 := A4.up hb6
          have hk6 := hk04.trans (Kept.of_below hb6)
          have HPa := Lib.hid (A6.pairs (show yn + (0 + 1) ≤ 1000000000 by have := HYN.out; omega) ⟨#[]⟩ (by decide +kernel))
          rw [filter_all] at HPa
          have HF : Hid (∀ Z, Below (w5.alloc (.cells #[.slice none 0 0, .int .u64 0, .int .u64 0] 31)).heap.size (w5.alloc (.cells #[.slice none 0 0, .int .u64 0, .int .u64 0] 31)) Z → Below w.heap.size w Z) := Lib.hid fun Z hz => HB1.out.trans ((A6.up hz).below hym hW1)
          clear A4 A6 hb5 hb6 hk04 HCS HRI HYN HC2
          go_wp2_with fail
          refine HPa.out.mono ?_
          rintro e w7 ⟨v7, rfl, ho7, hb7⟩
          have HSA := Lib.hid (samePs_any w7 v7 (.slice A n c) _ _ ho7.rdP (HP.out.kept (hk6.trans (Kept.of_below hb7))))
          obtain ⟨A7, c7, rfl⟩ := ho7.form
          clear ho7 HPa
          go_wp2_with fail
          refine HSA.out.mono ?_
          rintro e w8 ⟨rfl, hb8⟩
          have hq8 := HF.out _ (below_chain hb7 hb7.size hb8)
          simp only [decide_true]
          clear HSA hb7 hb8 HF hk6
          go_wp2_with fail
          go_ret
          exact ⟨rfl, hq8⟩
    · skip
      have hk0 := heap_alloc_new w3 (.cells #[.slice none 0 0, .int .u64 0, .int .u64 0] 31)
      have hb3' := hb3.alloc hb3.size (.cells #[.slice none 0 0, .int .u64 0, .int .u64 0] 31)
      have A3 := A2.up hb3'
      have hk3 := Kept.of_below (below_chain hq2 hq2.size hb3')
      have HCr := Lib.hid (arekey_any A3 (show yn + 0 < maxLen by have := HYN.out; unfold maxLen; omega) a ha (.slice Ar m cr) r (hk3.rd HR.out))
      have HC2 := Lib.hid (fun (Z : World) (hz : Kept (w3.alloc (.cells #[.slice none 0 0, .int .u64 0, .int .u64 0] 31)) Z) => hz.cell (blk_cell hk0 2))
      clear hb3 hb3' A2 A3 hq2 hk0
      have hq := rekey_none (r := r) hga
      rw [hq] at HCr
      dsimp only at HCr
      clear hq hga
      go_wp2_with fail
      generalize w3.alloc (.cells #[.slice none 0 0, .int .u64 0, .int .u64 0] 31) = w3' at *
      refine HCr.out.mono ?_
      rintro e w4 ⟨rfl, A4, hk4⟩
      have hk04 := hk3.trans hk4
      have HG2 := Lib.hid (aget_any A4 a ha)
      clear HCr hk3 hk4
      go_wp2_with fail
      refine HG2.out.mono ?_
      rintro e w5 ⟨hee, hb5⟩
      clear HG2
      rcases hee with ⟨v5, r5, b5, s5, -, rfl, ho5⟩ | ⟨-, rfl⟩
      · obtain ⟨A5, c5, rfl⟩ := ho5.form
        generalize r5.length = n5 at *
        clear ho5
        have hb6 := hb5.alloc hb5.size (.cells #[.slice A5 n5 c5, .int .u64 (b5 : Int), .int .u64 (s5 : Int)] 31)
        have A6 := A4.up hb6
        have hk6 := hk04.trans (Kept.of_below hb6)
        have HPa := Lib.hid (A6.pairs (show yn + (0 + 1) ≤ 1000000000 by have := HYN.out; omega) ⟨#[]⟩ (by decide +kernel))
        rw [filter_all] at HPa
        have HF : Hid (∀ Z, Below (w5.alloc (.cells #[.slice A5 n5 c5, .int .u64 (b5 : Int), .int .u64 (s5 : Int)] 31)).heap.size (w5.alloc (.cells #[.slice A5 n5 c5, .int .u64 (b5 : Int), .int .u64 (s5 : Int)] 31)) Z → Below w.heap.size w Z) := Lib.hid fun Z hz => HB1.out.trans ((A6.up hz).below hym hW1)
        clear A4 A6 hb5 hb6 hk04 HCS HRI HYN HC2
        go_wp2_with fail
        refine HPa.out.mono ?_
        rintro e w7 ⟨v7, rfl, ho7, hb7⟩
        have HSA := Lib.hid (samePs_any w7 v7 (.slice A n c) _ _ ho7.rdP (HP.out.kept (hk6.trans (Kept.of_below hb7))))
        obtain ⟨A7, c7, rfl⟩ := ho7.form
        clear ho7 HPa
        go_wp2_with fail
        refine HSA.out.mono ?_
        rintro e w8 ⟨rfl, hb8⟩
        have hq8 := HF.out _ (below_chain hb7 hb7.size hb8)
        simp only [decide_true]
        clear HSA hb7 hb8 HF hk6
        go_wp2_with fail
        go_ret
        exact ⟨rfl, hq8⟩
      · skip
        have hb6 := hb5.alloc hb5.size (.cells #[.slice none 0 0, .int .u64 0, .int .u64 0] 31)
        have A6 := A4.up hb6
        have hk6 := hk04.trans (Kept.of_below hb6)
        have HPa := Lib.hid (A6.pairs (show yn + (0 + 1) ≤ 1000000000 by have := HYN.out; omega) ⟨#[]⟩ (by decide +kernel))
        rw [filter_all] at HPa
        have HF : Hid (∀ Z, Below (w5.alloc (.cells #[.slice none 0 0, .int .u64 0, .int .u64 0] 31)).heap.size (w5.alloc (.cells #[.slice none 0 0, .int .u64 0, .int .u64 0] 31)) Z → Below w.heap.size w Z) := Lib.hid fun Z hz => HB1.out.trans ((A6.up hz).below hym hW1)
        clear A4 A6 hb5 hb6 hk04 HCS HRI HYN HC2
        go_wp2_with fail
        refine HPa.out.mono ?_
        rintro e w7 ⟨v7, rfl, ho7, hb7⟩
        have HSA := Lib.hid (samePs_any w7 v7 (.slice A n c) _ _ ho7.rdP (HP.out.kept (hk6.trans (Kept.of_below hb7))))
        obtain ⟨A7, c7, rfl⟩ := ho7.form
        clear ho7 HPa
        go_wp2_with fail
        refine HSA.out.mono ?_
        rintro e w8 ⟨rfl, hb8⟩
        have hq8 := HF.out _ (below_chain hb7 hb7.size hb8)
        simp only [decide_true]
        clear HSA hb7 hb8 HF hk6
        go_wp2_with fail
        go_ret
        exact ⟨rfl, hq8⟩
end Go.Proofs.YtnapmdfdbkpjpaaGreatDoor
