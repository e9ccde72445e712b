
/- The walk of the law: a call that is refused changes nothing. -/
import Derived.Test.YtgiciaeaibonbaaDoorBankH
import Derived.Test.YtgiciaeaibonbaaDoorBankL0
namespace Go.Proofs.YtgiciaeaibonbaaDoor
set_option maxRecDepth 100000
open Go Go.RowKit
set_option linter.unusedVariables false

set_option maxHeartbeats 8000000 in
theorem refuses_law (w : World) (v : Value) (ps : List Pr) (hps : RdP w w.heap.size v ps) (hnl : ∀ p ∈ ps, p.1.size ≤ maxLen) (hlen : ps.length ≤ 2000000) (kd : Int) (a b d : ByteArray) (x : U4) (hx : x.ok) (ha : a.size ≤ 100000000) (hb : b.size ≤ 100000000) (hd : d.size ≤ 100000000)
    (fr : TypeId × Nat × Nat) (hk : w.heap[1]? = some (.cells kVals fr.1 fr.2)) :
    Calls Tryd.prog 3 #[v, .agg #[.int .i64 kd, .string a, .string b, .string d, .int .u64 (x.a : Int), .int .u64 (x.b : Int), .int .u64 (x.c : Int), .int .u64 (x.d : Int)]] w fun e w' => e = .returned (.bool true) ∧ Below w.heap.size w w' := by
  have HO := Lib.hid (box_op w kd a b d x 27)
  obtain ⟨C, hC⟩ : ∃ C, C = Obj.cells #[.int .i64 kd, .string a, .string b, .string d, .int .u64 (x.a : Int), .int .u64 (x.b : Int), .int .u64 (x.c : Int), .int .u64 (x.d : Int)] 27 := ⟨_, rfl⟩
  have ha0 : Below w.heap.size w (w.alloc C) := (Below.refl _ _).alloc (Nat.le_refl _) _
  have hp0 : RdP (w.alloc C) (w.alloc C).heap.size v ps := hps.kept (Kept.of_below ha0)
  have HN := Lib.hid (new_any (w.alloc C) v ps hp0 hnl)
  have HK := Lib.hid ((Kept.of_below ha0).block hk)
  rw [hC] at HN HK ha0
  clear hC hp0 hk
  obtain ⟨A, c, rfl⟩ : ∃ A c, v = .slice A ps.length c := by obtain ⟨A, c, h, _⟩ := hps; exact ⟨A, c, h⟩
  clear hps
  obtain ⟨SR, hSR⟩ : ∃ SR : ByteArray, SR = ⟨(rootM ps).1.toArray⟩ := ⟨_, rfl⟩
  have HCS : Hid (∀ (Z : World) (v : Value), Rd Z Z.heap.size v (rootM ps).1 → (convert 33 9 v).run Tryd.prog Z = .ok (.string SR) Z) := Lib.hid fun Z v h => by rw [hSR]; exact run_str Tryd.underlying33 Tryd.underlying5 Tryd.isString h
  clear hSR
  go_enter Tryd.func3, Tryd.ntmps3
  go_wp2_with fail
  generalize w.alloc (.cells #[.int .i64 kd, .string a, .string b, .string d, .int .u64 (x.a : Int), .int .u64 (x.b : Int), .int .u64 (x.c : Int), .int .u64 (x.d : Int)] 27) = W0 at *
  refine HN.out.mono ?_
  rintro e w1 ⟨⟨-, rfl⟩ | ⟨-, y, rfl, hyb, hym, hyn, hly, hri, hp1⟩, hb1⟩
  · have hq1 := below_chain ha0 ha0.size hb1
    go_wp2_with fail
    refine (bfixed_any _).mono ?_
    rintro e w2 ⟨rfl, hb2⟩
    have hq2 := below_chain hq1 hq1.size hb2
    go_wp2_with fail
    refine (bfixed_any _).mono ?_
    rintro e w3 ⟨rfl, hb3⟩
    have hq3 := below_chain hq2 hq2.size hb3
    go_wp2_with fail
    go_ret
    exact ⟨rfl, hq3⟩
  · have A1 := Acc.made hp1 hly hri hnl
    have hq1 := below_chain ha0 ha0.size hb1
    have hk1 := Kept.of_below hb1
    have hym' : w.heap.size ≤ y.m := Nat.le_trans ha0.size hym
    have HYN := Lib.hid (show y.n = ps.length from hyn)
    have hW1 : w.heap.size ≤ w1.heap.size := Nat.le_trans ha0.size hb1.size
    obtain ⟨yb, ym, yn, yf⟩ := y
    dsimp only at hym' HYN ⊢
    clear hyb hym hyn hly hri hp1 hb1 HN
    go_wp2_with fail
    refine (bfixed_any _).mono ?_
    rintro e w2 ⟨rfl, hb2⟩
    have A2 := A1.up hb2
    have hk2 := hk1.trans (Kept.of_below hb2)
    have HR1 := Lib.hid (A2.root (show yn + 0 ≤ 1000000000 by have := HYN.out; omega) fr (hk2.block HK.out))
    clear A1 hk1 hb2
    go_wp2_with fail
    refine HR1.out.mono ?_
    rintro e w3 ⟨v3, rfl, ho3, hb3⟩
    have A4 := A2.up hb3
    have hk5 := hk2.trans (Kept.of_below hb3)
    have q3 := HCS.out w3 v3 ho3.rd
    obtain ⟨A3, c3, rfl⟩ := ho3.form
    obtain ⟨c0, c1, c2, c3', c4, c5, c6, c7⟩ := HO.out _ hk5
    clear HR1 A2 hk2 hb3 ho3
    by_cases k1 : kd = 1
    · subst k1
      have HC := Lib.hid (A4.mint (show yn + 0 + 2 ≤ maxLen by have := HYN.out; unfold maxLen; omega) a d x hx ha hd)
      have hno : ((mintM ps a d x).1 ≠ 0 → (mintM ps a d x).2 = ps) := fun h => change_no (u := 10) (by decide) h
      clear A4
      unfold U4.val U4.cells at HC
      go_wp2_with fail
      refine HC.out.mono ?_
      rintro e w5 ⟨rfl, A5, hk⟩
      have hkk := hk5.trans hk
      have hblk := hkk.block HK.out
      have HEQ := hno
      generalize (mintM ps a d x).1 = E at *
      generalize (mintM ps a d x).2 = R2 at *
      have hA5 := A5.below hym' hW1
      have hq5 := hq1.trans hA5
      by_cases e0 : E = 0
      · subst e0
        go_wp2_with fail
        go_ret
        exact ⟨rfl, hq5⟩
      · have hne : (E == 0) = false := by simpa using e0
        obtain rfl : R2 = ps := HEQ e0
        have HR := Lib.hid (A5.root (show yn + (0 + 2) ≤ 1000000000 by have := HYN.out; omega) fr hblk)
        clear HEQ A5 hblk hkk hk
        go_wp2_with fail
        refine HR.out.mono ?_
        rintro e w6 ⟨v6, rfl, ho6, hb6⟩
        have q6 := HCS.out w6 v6 ho6.rd
        obtain ⟨A6, c6, rfl⟩ := ho6.form
        have hq6 := below_chain hq5 (Nat.le_trans hW1 hA5.size) hb6
        clear ho6
        go_wp2_with fail
        go_ret
        exact ⟨by simp, hq6⟩
    · by_cases k2 : kd = 2
      · subst k2
        have HC := Lib.hid (A4.burn (show yn + 0 + 2 ≤ maxLen by have := HYN.out; unfold maxLen; omega) a d x hx ha hd)
        have hno : ((burnM ps a d x).1 ≠ 0 → (burnM ps a d x).2 = ps) := fun h => change_no (u := 71) (by decide) h
        clear A4
        unfold U4.val U4.cells at HC
        go_wp2_with fail
        refine HC.out.mono ?_
        rintro e w5 ⟨rfl, A5, hk⟩
        have hkk := hk5.trans hk
        have hblk := hkk.block HK.out
        have HEQ := hno
        generalize (burnM ps a d x).1 = E at *
        generalize (burnM ps a d x).2 = R2 at *
        have hA5 := A5.below hym' hW1
        have hq5 := hq1.trans hA5
        by_cases e0 : E = 0
        · subst e0
          go_wp2_with fail
          go_ret
          exact ⟨rfl, hq5⟩
        · have hne : (E == 0) = false := by simpa using e0
          obtain rfl : R2 = ps := HEQ e0
          have HR := Lib.hid (A5.root (show yn + (0 + 2) ≤ 1000000000 by have := HYN.out; omega) fr hblk)
          clear HEQ A5 hblk hkk hk
          go_wp2_with fail
          refine HR.out.mono ?_
          rintro e w6 ⟨v6, rfl, ho6, hb6⟩
          have q6 := HCS.out w6 v6 ho6.rd
          obtain ⟨A6, c6, rfl⟩ := ho6.form
          have hq6 := below_chain hq5 (Nat.le_trans hW1 hA5.size) hb6
          clear ho6
          go_wp2_with fail
          go_ret
          exact ⟨by simp, hq6⟩
      · have k1' : (kd == 1) = false := by simpa using k1
        have k2' : (kd == 2) = false := by simpa using k2
        clear k1 k2
        have HC := Lib.hid (A4.send (show yn + 0 + 2 ≤ maxLen by have := HYN.out; unfold maxLen; omega) a b d x hx ha hb hd)
        have hno : ((sendM ps a b d x).1 ≠ 0 → (sendM ps a b d x).2 = ps) := fun h => send_no h
        clear A4
        unfold U4.val U4.cells at HC
        go_wp2_with fail
        refine HC.out.mono ?_
        rintro e w5 ⟨rfl, A5, hk⟩
        have hkk := hk5.trans hk
        have hblk := hkk.block HK.out
        have HEQ := hno
        generalize (sendM ps a b d x).1 = E at *
        generalize (sendM ps a b d x).2 = R2 at *
        have hA5 := A5.below hym' hW1
        have hq5 := hq1.trans hA5
        by_cases e0 : E = 0
        · subst e0
          go_wp2_with fail
          go_ret
          exact ⟨rfl, hq5⟩
        · have hne : (E == 0) = false := by simpa using e0
          obtain rfl : R2 = ps := HEQ e0
          have HR := Lib.hid (A5.root (show yn + (0 + 2) ≤ 1000000000 by have := HYN.out; omega) fr hblk)
          clear HEQ A5 hblk hkk hk
          go_wp2_with fail
          refine HR.out.mono ?_
          rintro e w6 ⟨v6, rfl, ho6, hb6⟩
          have q6 := HCS.out w6 v6 ho6.rd
          obtain ⟨A6, c6, rfl⟩ := ho6.form
          have hq6 := below_chain hq5 (Nat.le_trans hW1 hA5.size) hb6
          clear ho6
          go_wp2_with fail
          go_ret
          exact ⟨by simp, hq6⟩
end Go.Proofs.YtgiciaeaibonbaaDoor
