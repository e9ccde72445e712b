
/- The law: all orders of a packet are done, or none. -/
import Derived.Test.YtcgkonpepmoliaaGreatDoorIcR0
import Derived.Test.YtcgkonpepmoliaaGreatDoorBankH0
import Derived.Test.YtcgkonpepmoliaaGreatDoorHeldBy
namespace Go.Proofs.YtcgkonpepmoliaaGreatDoor
set_option maxRecDepth 100000
open Go Go.RowKit
set_option linter.unusedVariables false

theorem Bra.root {W W' : World} {y z : Lyr} {R R2 : List Pr} {k j : Nat} (h : Bra W y [] R k z R2 j W') (hn : y.n + k + j ≤ 1000000000) (fr : TypeId × Nat × Nat) (hk : W'.heap[0]? = some (.cells kVals fr.1 fr.2)) :
    Calls Tryz.prog 12 #[.pointer (some ⟨z.b, 0, none⟩)] W' fun e w' => ∃ v, e = .returned v ∧ Own w' W'.heap.size v (rootM R2).1 ∧ Below W'.heap.size W' w' := by
  obtain ⟨W1, n, f, h1, h2, h3, h4, h5⟩ := h.ex
  obtain ⟨n', f', g1, g2, g3, g4⟩ := h4.b
  have := h.zn
  exact sroot_any g1 (by simp [sumN]; omega) g2 fr hk
structure IDR (W : World) (y : Lyr) (R : List Pr) (k : Nat) (z : Lyr) (a : ByteArray) (ol : List OrdV) (w5 : World) (j : Nat) (dn : Int) (Z : World) : Prop where
  ex : ∃ R2 jj, jj ≤ 2 * j ∧ Bra W y [] R k z R2 jj Z ∧ Kept w5 Z ∧ (dn = 0 → sendsM a ol R = sendsM a (ol.drop j) R2) ∧ (dn ≠ 0 → sendsM a ol R = (dn, R2))
set_option maxHeartbeats 64000000 in
theorem icaall_law (w : World) (v0 : Value) (ps : List Pr) (hps : RdP w w.heap.size v0 ps) (hnl : ∀ p ∈ ps, p.1.size ≤ maxLen) (hlen : ps.length ≤ 2000000)
    (v1 : Value) (ol : List OrdV) (hv : OrdsAt w v1 ol) (hx : ∀ o ∈ ol, o.x.ok ∧ o.t.size ≤ 100000000 ∧ o.d.size ≤ 100000000) (hol : ol.length ≤ 1048576) (owner : ByteArray) (how : owner.size ≤ 100000000)
    (fr0 : TypeId × Nat × Nat) (hk : w.heap[0]? = some (.cells kVals fr0.1 fr0.2)) :
    Calls Tryz.prog 3 #[v0, v1, .string owner] w fun e w' => e = .returned (.bool true) ∧ Below w.heap.size w w' := by
  have HN := Lib.hid (new_any w v0 ps hps hnl)
  have HNL := Lib.hid hnl
  have HLE := Lib.hid (And.intro hlen hol)
  have HX := Lib.hid hx
  have HO0 := Lib.hid (fun (Z : World) (hz : Kept w Z) => hv.keptX hz)
  have HT0 := Lib.hid (fun (Z : World) (hz : Kept w Z) => hz.blockX hk)
  obtain ⟨A0, c0, rfl⟩ : ∃ A c, v0 = .slice A ps.length c := by obtain ⟨A, c, h, _⟩ := hps; exact ⟨A, c, h⟩
  obtain ⟨A1, c1, rfl⟩ : ∃ A c, v1 = .slice A ol.length c := by obtain ⟨A, c, h, _⟩ := hv; exact ⟨A, c, h⟩
  obtain ⟨no, hno⟩ : ∃ n, n = ol.length := ⟨_, rfl⟩
  rw [← hno] at HO0 ⊢
  have HNO := Lib.hid hno
  clear hps hnl hlen hv hx hol hk hno
  go_enter Tryz.func3, Tryz.ntmps3
  go_wp2_with fail
  refine HN.out.mono ?_
  rintro e w1 ⟨⟨-, rfl⟩ | ⟨-, y, rfl, hyb, hym, hyn, hly, hri, hp1⟩, hb1⟩
  · clear HN
    go_wp2_with fail
    refine (icafixed_any _).mono ?_
    rintro e w2 ⟨rfl, hb2⟩
    have hq2 := below_chain hb1 hb1.size hb2
    go_wp2_with fail
    refine (icafixed_any _).mono ?_
    rintro e w3 ⟨rfl, hb3⟩
    have hq3 := below_chain hq2 hq2.size hb3
    go_wp2_with fail
    go_ret
    exact ⟨rfl, hq3⟩
  · have A1' := At.made hp1 hly hri HNL.out
    have HYN := Lib.hid (show y.n = ps.length from hyn)
    have HYM := Lib.hid hym
    have HB1 := Lib.hid hb1
    obtain ⟨yb, ym, yn, yf⟩ := y
    clear hyb hym hyn hly hri hp1 HN hb1
    dsimp only at HYN HYM ⊢
    go_wp2_with fail
    refine (icafixed_any _).mono ?_
    rintro e w2 ⟨rfl, hb2⟩
    by_cases hlo : 60000 < owner.size
    · have i60 : (60000 : Int) < (owner.size : Int) := by omega
      have hq2 := below_chain HB1.out HB1.out.size hb2
      clear A1' hb2
      go_wp2_with fail
      refine (icafixed_any _).mono ?_
      rintro e w3 ⟨rfl, hb3⟩
      have hq3 := below_chain hq2 hq2.size hb3
      go_wp2_with fail
      go_ret
      exact ⟨rfl, hq3⟩
    · have i60 : ¬ (60000 : Int) < (owner.size : Int) := by omega
      have i61 : (owner.size : Int) ≤ 60000 := by omega
      have HOW := Lib.hid (show owner.size ≤ 60000 by omega)
      have A2 := A1'.up hb2
      clear A1' hb2
      have HPU := Lib.hid (chput_any A2 (show yn + 0 < maxLen by have := HYN.out; have := HLE.out.1; unfold maxLen; omega) sChan0 (by decide +kernel) (icaC owner) (by show 3 < _; decide) (by show sHost.size ≤ _; decide +kernel) (by show sControl.size ≤ _; decide +kernel) (by show sConn0.size ≤ _; decide +kernel) (by show (⟨#[99, 104, 97, 110, 45, 52]⟩ : ByteArray).size ≤ _; decide +kernel) (by show owner.size ≤ _; unfold maxLen; omega))
      have HRV0 := Lib.hid (fun h2 => recv_ica ps owner HOW.out ol h2 HLE.out.2)
      generalize setL (kChn sChan0) (chB (icaC owner)) ps = R1 at *
      unfold icaC ChV.val sChan0 sHost sControl sConn0 at HPU
      dsimp only at HPU
      clear A2 how
      go_wp2_with fail
      refine HPU.out.mono ?_
      rintro e w3 ⟨rfl, A3, -⟩
      have hkw3 := (Kept.of_belowX HB1.out).transX A3.kept
      have HBR := Lib.hid A3.branch
      have HKW3 := Lib.hid hkw3
      clear HPU A3 hkw3 hlo
      go_wp2_with fail
      refine HBR.out.mono ?_
      rintro e w5 ⟨z, rfl, -, -, B5, hb5⟩
      have HK5 := Lib.hid (HKW3.out.transX (Kept.of_belowX hb5))
      have HAD := Lib.hid (fun Z : World => icaaddr_any sConn0 owner Z (by decide +kernel) (by have := HOW.out; omega))
      have hka : (kIca sConn0 owner).size ≤ 100000000 := by
        unfold kIca
        simp only [ByteArray.size_append]
        rw [show icaP.size = 4 from rfl, show dotB.size = 1 from rfl, show sConn0.size = 6 from rfl]
        have := HOW.out
        omega
      generalize kIca sConn0 owner = ka at *
      have HKA := Lib.hid hka
      unfold sConn0 at HAD
      have HD5 : Hid (IDR w1 ⟨yb, ym, yn, yf⟩ R1 (0 + 1) z ka ol w5 0 0 w5) := Lib.hid ⟨R1, 0, by omega, B5, Kept.refl _, fun _ => by simp, fun h => absurd rfl h⟩
      obtain ⟨zb, hzb⟩ : ∃ zb, zb = z.b := ⟨_, rfl⟩
      rw [← hzb]
      have HZB := Lib.hid hzb
      clear hzb HBR B5 hb5 hka HKW3
      go_wp2_with fail
      go_loopw [10, 54] (fun d i Z => ∃ (j : Nat) (dn : Int), j ≤ no ∧ i = .int .i64 (j : Int) ∧ d = .int .i64 dn ∧ IDR w1 ⟨yb, ym, yn, yf⟩ R1 (0 + 1) z ka ol w5 j dn Z)
        (fun _ i _ => no - (intOf i).toNat)
      case atStart => exact ⟨0, 0, by omega, rfl, rfl, HD5.out⟩
      case round =>
        clear HD5
        obtain ⟨j, dn, hj, rfl, rfl, HX0⟩ := hrel
        obtain ⟨R2, jj, hjj, BR, hkw, hs0, hs1⟩ := HX0.ex
        clear HX0
        have hno9 : no ≤ 2000000 := by have := HNO.out; have := HLE.out.2; omega
        have HBRX := Lib.hid BR
        have HKW := Lib.hid hkw
        by_cases hlt : j < no
        · have hjl : j < ol.length := by have := HNO.out; omega
          have hnx := sends_next (a := ka) (R := R2) hjl
          have hfi := HX.out _ (List.getElem_mem hjl)
          obtain ⟨A', c', e', hcell⟩ := HO0.out _ (HK5.out.transX hkw)
          obtain ⟨g, o, hA', -, hcl⟩ := hcell (by omega)
          injection e' with s1 s2 s3
          subst s1 s3
          subst hA'
          clear s2
          have hck := hcl j hjl
          generalize ol[j] = op at *
          obtain ⟨ot, od2, ox⟩ := op
          obtain ⟨f1, f2, f3⟩ := hfi
          dsimp only at f1 f2 f3 hnx
          have i1 : (0 : Int) ≤ (j : Int) := by omega
          have i2 : (j : Int) < (no : Int) := by omega
          have e0 : wr.cell? ⟨g, o + j * 6, none⟩ = some (.string ot) := hck 0 _ (by omega) rfl
          have e1 : wr.cell? ⟨g, o + j * 6 + 1, none⟩ = some (.string od2) := hck 1 _ (by omega) rfl
          have e2 : wr.cell? ⟨g, o + j * 6 + 2, none⟩ = some (.int .u64 (ox.a : Int)) := hck 2 _ (by omega) rfl
          have e3 : wr.cell? ⟨g, o + j * 6 + 3, none⟩ = some (.int .u64 (ox.b : Int)) := hck 3 _ (by omega) rfl
          have e4 : wr.cell? ⟨g, o + j * 6 + 4, none⟩ = some (.int .u64 (ox.c : Int)) := hck 4 _ (by omega) rfl
          have e5 : wr.cell? ⟨g, o + j * 6 + 5, none⟩ = some (.int .u64 (ox.d : Int)) := hck 5 _ (by omega) rfl
          have hq := heap_alloc_new wr (.cells #[.string ot, .string od2, .int .u64 (ox.a : Int), .int .u64 (ox.b : Int), .int .u64 (ox.c : Int), .int .u64 (ox.d : Int)] 37)
          have ha : Below wr.heap.size wr (wr.alloc (.cells #[.string ot, .string od2, .int .u64 (ox.a : Int), .int .u64 (ox.b : Int), .int .u64 (ox.c : Int), .int .u64 (ox.d : Int)] 37)) := (Below.refl _ _).alloc (Nat.le_refl _) _
          by_cases hdn : dn = 0
          · subst hdn
            have HNX := Lib.hid ((hs0 rfl).trans hnx)
            have HSN := Lib.hid (fun h => send_no (R := R2) (a := ka) (b := ot) (d := od2) (x := ox) h)
            have HS : Hid (∀ Z, Below (wr.alloc (.cells #[.string ot, .string od2, .int .u64 (ox.a : Int), .int .u64 (ox.b : Int), .int .u64 (ox.c : Int), .int .u64 (ox.d : Int)] 37)).heap.size (wr.alloc (.cells #[.string ot, .string od2, .int .u64 (ox.a : Int), .int .u64 (ox.b : Int), .int .u64 (ox.c : Int), .int .u64 (ox.d : Int)] 37)) Z → Calls Tryz.prog 10 #[.pointer (some ⟨zb, 0, none⟩), .string ka, .string ot, .string od2, .agg #[.int .u64 (ox.a : Int), .int .u64 (ox.b : Int), .int .u64 (ox.c : Int), .int .u64 (ox.d : Int)]] Z fun e w' => e = .returned (.int .i64 (sendM R2 ka ot od2 ox).1) ∧ Bra w1 ⟨yb, ym, yn, yf⟩ [] R1 (0 + 1) z (sendM R2 ka ot od2 ox).2 (jj + 2) w' ∧ Kept Z w') := Lib.hid fun Z hz => by
              rw [HZB.out]
              exact ((HBRX.out.up ha).up hz).send (by unfold maxLen; omega) ka ot od2 ox f1 HKA.out f2 f3
            have HC : Hid (∀ Z, Kept (wr.alloc (.cells #[.string ot, .string od2, .int .u64 (ox.a : Int), .int .u64 (ox.b : Int), .int .u64 (ox.c : Int), .int .u64 (ox.d : Int)] 37)) Z → Z.cell? ⟨wr.heap.size, 0, none⟩ = some (.string ot) ∧ Z.cell? ⟨wr.heap.size, 1, none⟩ = some (.string od2) ∧ Z.cell? ⟨wr.heap.size, 2, none⟩ = some (.int .u64 (ox.a : Int)) ∧ Z.cell? ⟨wr.heap.size, 3, none⟩ = some (.int .u64 (ox.b : Int)) ∧ Z.cell? ⟨wr.heap.size, 4, none⟩ = some (.int .u64 (ox.c : Int)) ∧ Z.cell? ⟨wr.heap.size, 5, none⟩ = some (.int .u64 (ox.d : Int))) := Lib.hid fun Z hz => ⟨hz.cell (blk_cell hq 0), hz.cell (blk_cell hq 1), hz.cell (blk_cell hq 2), hz.cell (blk_cell hq 3), hz.cell (blk_cell hq 4), hz.cell (blk_cell hq 5)⟩
            have hka2 := HKW.out.transX (Kept.of_belowX ha)
            have HKA2 := Lib.hid hka2
            have hbD : Below (wr.alloc (.cells #[.string ot, .string od2, .int .u64 (ox.a : Int), .int .u64 (ox.b : Int), .int .u64 (ox.c : Int), .int .u64 (ox.d : Int)] 37)).heap.size (wr.alloc (.cells #[.string ot, .string od2, .int .u64 (ox.a : Int), .int .u64 (ox.b : Int), .int .u64 (ox.c : Int), .int .u64 (ox.d : Int)] 37)) (wr.alloc (.cells #[.string ot, .string od2, .int .u64 (ox.a : Int), .int .u64 (ox.b : Int), .int .u64 (ox.c : Int), .int .u64 (ox.d : Int)] 37)).drew := (Below.refl _ _).drew
            have hkD := Kept.drew (wr.alloc (.cells #[.string ot, .string od2, .int .u64 (ox.a : Int), .int .u64 (ox.b : Int), .int .u64 (ox.c : Int), .int .u64 (ox.d : Int)] 37))
            generalize sendM R2 ka ot od2 ox = SM at *
            obtain ⟨se, SR⟩ := SM
            dsimp only at HS HNX HSN
            clear BR hkw hnx hcell hcl hck hq ha hka2 f1 f2 f3 hs0 hs1
            go_wp2_with fail
            generalize wr.alloc (.cells #[.string ot, .string od2, .int .u64 (ox.a : Int), .int .u64 (ox.b : Int), .int .u64 (ox.c : Int), .int .u64 (ox.d : Int)] 37) = w6 at *
            go_region_held_law (fun Z => Z.cell? ⟨wr.heap.size, 0, none⟩ = some (.string ot) ∧ Z.cell? ⟨wr.heap.size, 1, none⟩ = some (.string od2) ∧ Z.cell? ⟨wr.heap.size, 2, none⟩ = some (.int .u64 (ox.a : Int)) ∧ Z.cell? ⟨wr.heap.size, 3, none⟩ = some (.int .u64 (ox.b : Int)) ∧ Z.cell? ⟨wr.heap.size, 4, none⟩ = some (.int .u64 (ox.c : Int)) ∧ Z.cell? ⟨wr.heap.size, 5, none⟩ = some (.int .u64 (ox.d : Int)))
              (with_reducible first | exact HC.out _ hkS | exact HC.out _ hkD)
              ((first
                | (go_at_call 11; refine (HAD.out _).mono ?_; rintro e wA ⟨rfl, rfl⟩)
                | (go_at_call 10; refine (HS.out _ hbD).mono ?_; rintro e wS ⟨rfl, BS, hks⟩; have hkS := hkD.transX hks)))
            all_goals
              have hkk := HKA2.out.transX hkS
              have HFS : Hid (IDR w1 ⟨yb, ym, yn, yf⟩ R1 (0 + 1) z ka ol w5 (j + 1) se wS) := Lib.hid ⟨SR, jj + 2, by omega, BS, hkk, fun h => by
                have h2 := HNX.out
                rwa [if_pos h] at h2, fun h => by
                have h2 := HNX.out
                rw [if_neg h] at h2
                rw [h2, HSN.out h]⟩
              clear HNX HSN HS HC BS hks hkS hkk HKA2 hbD hkD e0 e1 e2 e3 e4 e5
              go_wp2_with fail
              exact ⟨⟨j + 1, se, by omega, by simp, rfl, HFS.out⟩, by simp [intOf]; omega⟩
          · have hne : (dn == 0) = false := by simpa using hdn
            have HFS : Hid (IDR w1 ⟨yb, ym, yn, yf⟩ R1 (0 + 1) z ka ol w5 (j + 1) dn (wr.alloc (.cells #[.string ot, .string od2, .int .u64 (ox.a : Int), .int .u64 (ox.b : Int), .int .u64 (ox.c : Int), .int .u64 (ox.d : Int)] 37))) := Lib.hid ⟨R2, jj, by omega, BR.up ha, HKW.out.transX (Kept.of_belowX ha), fun h => absurd h hdn, hs1⟩
            clear BR hkw hnx hcell hcl hck hq ha f1 f2 f3 hs0 hs1
            go_wp2_with fail
            exact ⟨⟨j + 1, dn, by omega, by simp, rfl, HFS.out⟩, by simp [intOf]; omega⟩
        · have i2 : ¬ (j : Int) < (no : Int) := by omega
          obtain rfl : j = no := by omega
          rw [List.drop_eq_nil_of_le (by have := HNO.out; omega)] at hs0
          have hsm : sendsM ka ol R1 = (dn, R2) := by
            by_cases hdn : dn = 0
            · rw [hs0 hdn, hdn]; rfl
            · exact hs1 hdn
          have HSM := Lib.hid hsm
          have hyn9 : yn + (0 + 1) + jj ≤ 1000000000 := by have := HYN.out; have := HLE.out.1; omega
          have HRT0 := Lib.hid (BR.root hyn9 fr0 (HT0.out _ (HK5.out.transX hkw)))
          rw [← HZB.out] at HRT0
          have HNN := Lib.hid (show yn + 20 ≤ 1000000000 by have := HYN.out; have := HLE.out.1; omega)
          have HKW9 := Lib.hid (HK5.out.transX hkw)
          clear BR hkw hs0 hs1 hsm hyn9
          go_wp2_with fail
          refine HRT0.out.mono ?_
          rintro e w7 ⟨vT, rfl, hoT, hb7⟩
          have A7 := HBRX.out.back.up hb7
          have hk7 := HKW9.out.transX (Kept.of_belowX hb7)
          have HRS0 := Lib.hid ((Acc.mk A7.b A7.p).root (show yn + (0 + 1) ≤ 1000000000 by have := HNN.out; omega) fr0 (HT0.out _ hk7))
          have HA7 := Lib.hid A7
          have HK7 := Lib.hid hk7
          have HOT := Lib.hid hoT
          obtain ⟨AT, cT, rfl⟩ := hoT.form
          obtain ⟨nT, hnT⟩ : ∃ n, n = (rootM R2).1.length := ⟨_, rfl⟩
          rw [← hnT] at HOT ⊢
          clear HRT0 hoT hb7 A7 hk7 hnT HBRX HKW HKW9
          go_wp2_with fail
          refine HRS0.out.mono ?_
          rintro e w8 ⟨vS, rfl, hoS, hb8⟩
          have A8 := HA7.out.up hb8
          have hk8 := HK7.out.transX (Kept.of_belowX hb8)
          have HOT8 := Lib.hid (HOT.out.below hb8)
          have hov := HO0.out _ hk8
          have HBY := Lib.hid (icb_any w8 _ ol hov (fun o ho => ⟨(HX.out o ho).1, by have := (HX.out o ho).2.1; unfold maxLen; omega, by have := (HX.out o ho).2.2; unfold maxLen; omega⟩) HLE.out.2)
          have HA8 := Lib.hid A8
          have HK8 := Lib.hid hk8
          have HOS := Lib.hid hoS
          obtain ⟨AS, cS, rfl⟩ := hoS.form
          obtain ⟨nS, hnS⟩ : ∃ n, n = (rootM R1).1.length := ⟨_, rfl⟩
          rw [← hnS] at HOS ⊢
          clear HRS0 hoS hb8 A8 hk8 hnS hov HA7 HK7 HOT
          have HBLN := Lib.hid (ordsB_len ol ol.length)
          have HRVX := Lib.hid (HRV0.out (fun o ho => (HX.out o ho).1))
          clear HRV0
          generalize ordsB ol ol.length = OBL at *
          go_wp2_with fail
          refine HBY.out.mono ?_
          rintro e w9 ⟨v9, rfl, ho9, hb9⟩
          have A9 := HA8.out.up hb9
          have hk9 := HK8.out.transX (Kept.of_belowX hb9)
          have HOT9 := Lib.hid (HOT8.out.below hb9)
          have HOS9 := Lib.hid (HOS.out.below hb9)
          have HRD9 := Lib.hid ho9.rd
          obtain ⟨A9', c9, rfl⟩ := ho9.form
          have HRC := Lib.hid (icrecv_any A9 (show yn + (0 + 1) + 20 ≤ maxLen by have := HNN.out; unfold maxLen; omega) ⟨#[]⟩ sChan0 0 A9' OBL.length c9 OBL HRD9.out (by have := HBLN.out; have := HLE.out.2; omega) 0 0 (by decide +kernel))
          rw [HRVX.out] at HRC
          have HK9 := Lib.hid hk9
          generalize OBL.length = nB at *
          unfold sChan0 at HRC
          clear HBY ho9 hb9 A9 hk9 HA8 HK8 HOT8 HOS HRD9 HBLN HRVX
          by_cases h8 : ol.length ≤ 8
          · rw [if_pos h8, HSM.out] at HRC
            dsimp only at HRC
            have i8 : (j : Int) ≤ 8 := by have := HNO.out; omega
            by_cases hdn : dn = 0
            · subst hdn
              rw [if_pos rfl] at HRC
              clear HSM h8
              go_wp2_with fail
              refine HRC.out.mono ?_
              rintro e w12 ⟨rfl, A12, hk12⟩
              try dsimp only at A12
              have HFB := Lib.hid (HB1.out.trans ((A12.below (B := w.heap.size) HYM.out HB1.out.size)))
              have HT12 := Lib.hid (fun (Z : World) (hz : Below w12.heap.size w12 Z) => HT0.out Z ((HK9.out.transX hk12).transX (Kept.of_belowX hz)))
              have HRT := Lib.hid (fun (Z : World) (hz : Below w12.heap.size w12 Z) => (Acc.mk (A12.up hz).b (A12.up hz).p).root (show yn + (0 + 1 + 16) ≤ 1000000000 by have := HNN.out; omega) fr0 (HT12.out Z hz))
              have HRV := Lib.hid (fun (Z : World) (hz : Below w12.heap.size w12 Z) => (Kept.of_belowX hz).rd (hk12.rd HOT9.out.rd))
              obtain ⟨ST, hct⟩ : ∃ S : ByteArray, ∀ (Z : World) (v : Value), Rd Z Z.heap.size v (rootM R2).1 → (convert 40 9 v).run Tryz.prog Z = .ok (.string S) Z := ⟨⟨(rootM R2).1.toArray⟩, fun Z v h => run_str Tryz.underlying40 Tryz.underlying5 Tryz.isString h⟩
              have HCT := Lib.hid hct
              have hss : (ST.toList == ST.toList) = true := beq_self_eq_true _
              clear hct HRC A12 hk12 HT12 HOT9 HOS9 HK9
              have hbd : Below w12.heap.size w12 w12.drew := (Below.refl _ _).drew
              go_wp2_with fail
              refine wp_region_held_drew (S := BelS w12.drew) (by kernel_rfl) (BelS.refl _) (fun hS0 => ?_)
              refine wpAnyH_take (i := 0) (oi := _) (v := ?_) rfl (by kernel_rfl) (by kernel_rfl) (by kernel_rfl) (fun _ _ _ h => h) (Or.inl ⟨by rfl, ?_⟩) hS0 ?_
              rotate_left
              · intro W hSW
                try go_simp
                all_goals with_reducible rfl
              simp only [Act.put, List.setIfInBounds_toArray, List.set_cons_zero, List.set_cons_succ, List.getElem_toArray, List.getElem_cons_zero, List.getElem_cons_succ]
              refine wpAnyH_take (i := 1) (oi := _) (v := ?_) rfl (by kernel_rfl) (by kernel_rfl) (by kernel_rfl) (fun _ _ _ h => h) (Or.inl ⟨by rfl, ?_⟩) hS0 ?_
              rotate_left
              · intro W hSW
                try go_simp
                all_goals with_reducible rfl
              simp only [Act.put, List.setIfInBounds_toArray, List.set_cons_zero, List.set_cons_succ, List.getElem_toArray, List.getElem_cons_zero, List.getElem_cons_succ]
              refine wpAnyH_take (i := 2) (oi := _) (v := ?_) rfl (by kernel_rfl) (by kernel_rfl) (by kernel_rfl) (fun _ _ _ h => h) (Or.inl ⟨by rfl, ?_⟩) hS0 ?_
              rotate_left
              · intro W hSW
                try go_simp
                all_goals with_reducible rfl
              simp only [Act.put, List.setIfInBounds_toArray, List.set_cons_zero, List.set_cons_succ, List.getElem_toArray, List.getElem_cons_zero, List.getElem_cons_succ]
              refine wpAnyH_take (i := 3) (oi := _) (v := ?_) rfl (by kernel_rfl) (by kernel_rfl) (by kernel_rfl) (fun _ _ _ h => h) (Or.inl ⟨by rfl, ?_⟩) hS0 ?_
              rotate_left
              · intro W hSW
                try go_simp
                all_goals with_reducible rfl
              simp only [Act.put, List.setIfInBounds_toArray, List.set_cons_zero, List.set_cons_succ, List.getElem_toArray, List.getElem_cons_zero, List.getElem_cons_succ]
              refine wpAnyH_take (i := 6) (oi := _) (v := ?_) rfl (by kernel_rfl) (by kernel_rfl) (by kernel_rfl) (fun _ _ _ h => h) (Or.inl ⟨by rfl, ?_⟩) hS0 ?_
              rotate_left
              · intro W hSW
                try go_simp
                all_goals with_reducible rfl
              simp only [Act.put, List.setIfInBounds_toArray, List.set_cons_zero, List.set_cons_succ, List.getElem_toArray, List.getElem_cons_zero, List.getElem_cons_succ]
              refine wpAnyH_take (i := 7) (oi := _) (v := ?_) rfl (by kernel_rfl) (by kernel_rfl) (by kernel_rfl) (fun _ _ _ h => h) (Or.inl ⟨by rfl, ?_⟩) hS0 ?_
              rotate_left
              · intro W hSW
                have cv := HCT.out W _ (HRV.out W (below_chain hbd hbd.size hSW))
                try go_simp
                all_goals with_reducible rfl
              simp only [Act.put, List.setIfInBounds_toArray, List.set_cons_zero, List.set_cons_succ, List.getElem_toArray, List.getElem_cons_zero, List.getElem_cons_succ]
              refine wpAnyH_ready (rs := [4]) (by kernel_rfl) (by simp) (AllReadyH.cons rfl (fun K hK => ?_) AllReadyH.nil)
              have DA := Lib.hid (HRT.out w12.drew hbd)
              go_simp
              go_wp2_with ((go_at_call 12; (with_reducible refine DA.out.mono ?_); rintro e wA ⟨vA, rfl, hoA, hbA⟩))
              have hqA := below_chain hbd hbd.size hbA
              refine hK.out _ _ hbA (fun _ => ?_)
              clear hK K DA
              refine wpAnyH_stronger (S' := BelS wA) (fun W h => below_chain hbA hbA.size h) _ _ _ _ ?_
              have hSA : BelS wA wA := BelS.refl wA
              refine wpAnyH_take (i := 5) (oi := _) (v := ?_) rfl (by kernel_rfl) (by kernel_rfl) (by kernel_rfl) (fun _ _ _ h => h) (Or.inl ⟨by rfl, ?_⟩) hSA ?_
              rotate_left
              · intro W hSW
                have cv := HCT.out W _ (hoA.rd.up (Nat.le_refl _) hSW)
                try go_simp
                all_goals with_reducible rfl
              simp only [Act.put, List.setIfInBounds_toArray, List.set_cons_zero, List.set_cons_succ, List.getElem_toArray, List.getElem_cons_zero, List.getElem_cons_succ]
              refine wpAnyH_take (i := 8) (oi := _) (v := ?_) rfl (by kernel_rfl) (by kernel_rfl) (by kernel_rfl) (fun _ _ _ h => h) (Or.inl ⟨by rfl, ?_⟩) hSA ?_
              rotate_left
              · intro W hSW
                try go_simp
                all_goals with_reducible rfl
              simp only [Act.put, List.setIfInBounds_toArray, List.set_cons_zero, List.set_cons_succ, List.getElem_toArray, List.getElem_cons_zero, List.getElem_cons_succ]
              refine wpAnyH_take (i := 9) (oi := _) (v := ?_) rfl (by kernel_rfl) (by kernel_rfl) (by kernel_rfl) (fun _ _ _ h => h) (Or.inl ⟨by rfl, ?_⟩) hSA ?_
              rotate_left
              · intro W hSW
                try go_simp
                all_goals with_reducible rfl
              simp only [Act.put, List.setIfInBounds_toArray, List.set_cons_zero, List.set_cons_succ, List.getElem_toArray, List.getElem_cons_zero, List.getElem_cons_succ]
              refine wpAnyH_take (i := 10) (oi := _) (v := ?_) rfl (by kernel_rfl) (by kernel_rfl) (by kernel_rfl) (fun _ _ _ h => h) (Or.inl ⟨by rfl, ?_⟩) hSA ?_
              rotate_left
              · intro W hSW
                try go_simp
                all_goals with_reducible rfl
              simp only [Act.put, List.setIfInBounds_toArray, List.set_cons_zero, List.set_cons_succ, List.getElem_toArray, List.getElem_cons_zero, List.getElem_cons_succ]
              refine wpAnyH_take (i := 11) (oi := _) (v := ?_) rfl (by kernel_rfl) (by kernel_rfl) (by kernel_rfl) (fun _ _ _ h => h) (Or.inl ⟨by rfl, ?_⟩) hSA ?_
              rotate_left
              · intro W hSW
                try go_simp
                all_goals with_reducible rfl
              simp only [Act.put, List.setIfInBounds_toArray, List.set_cons_zero, List.set_cons_succ, List.getElem_toArray, List.getElem_cons_zero, List.getElem_cons_succ]
              refine wpAnyH_take (i := 12) (oi := _) (v := ?_) rfl (by kernel_rfl) (by kernel_rfl) (by kernel_rfl) (fun _ _ _ h => h) (Or.inl ⟨by rfl, ?_⟩) hSA ?_
              rotate_left
              · intro W hSW
                try go_simp
                all_goals with_reducible rfl
              simp only [Act.put, List.setIfInBounds_toArray, List.set_cons_zero, List.set_cons_succ, List.getElem_toArray, List.getElem_cons_zero, List.getElem_cons_succ]
              refine wpAnyH_take (i := 13) (oi := _) (v := ?_) rfl (by kernel_rfl) (by kernel_rfl) (by kernel_rfl) (fun _ _ _ h => h) (Or.inl ⟨by rfl, ?_⟩) hSA ?_
              rotate_left
              · intro W hSW
                try go_simp
                all_goals with_reducible rfl
              simp only [Act.put, List.setIfInBounds_toArray, List.set_cons_zero, List.set_cons_succ, List.getElem_toArray, List.getElem_cons_zero, List.getElem_cons_succ]
              refine wpAnyH_take (i := 14) (oi := _) (v := ?_) rfl (by kernel_rfl) (by kernel_rfl) (by kernel_rfl) (fun _ _ _ h => h) (Or.inl ⟨by rfl, ?_⟩) hSA ?_
              rotate_left
              · intro W hSW
                try go_simp
                all_goals with_reducible rfl
              simp only [Act.put, List.setIfInBounds_toArray, List.set_cons_zero, List.set_cons_succ, List.getElem_toArray, List.getElem_cons_zero, List.getElem_cons_succ]
              refine wpAnyH_take (i := 15) (oi := _) (v := ?_) rfl (by kernel_rfl) (by kernel_rfl) (by kernel_rfl) (fun _ _ _ h => h) (Or.inl ⟨by rfl, ?_⟩) hSA ?_
              rotate_left
              · intro W hSW
                try go_simp
                all_goals with_reducible rfl
              simp only [Act.put, List.setIfInBounds_toArray, List.set_cons_zero, List.set_cons_succ, List.getElem_toArray, List.getElem_cons_zero, List.getElem_cons_succ]
              refine wpAnyH_done (by kernel_rfl) ?_ _
              have hfin := HFB.out.trans ((hqA).mono HFB.out.size)
              go_wp2_with fail
              go_ret
              exact ⟨rfl, hfin⟩
            · rw [if_neg hdn] at HRC
              have hne : (dn != 0) = true := by simpa using hdn
              clear HSM h8
              go_wp2_with fail
              refine HRC.out.mono ?_
              rintro e w12 ⟨rfl, A12, hk12⟩
              try dsimp only at A12
              have HFB := Lib.hid (HB1.out.trans ((A12.below (B := w.heap.size) HYM.out HB1.out.size)))
              have HT12 := Lib.hid (fun (Z : World) (hz : Below w12.heap.size w12 Z) => HT0.out Z ((HK9.out.transX hk12).transX (Kept.of_belowX hz)))
              have HRT := Lib.hid (fun (Z : World) (hz : Below w12.heap.size w12 Z) => (Acc.mk (A12.up hz).b (A12.up hz).p).root (show yn + (0 + 1 + 16) ≤ 1000000000 by have := HNN.out; omega) fr0 (HT12.out Z hz))
              have HRS := Lib.hid (fun (Z : World) (hz : Below w12.heap.size w12 Z) => (Kept.of_belowX hz).rd (hk12.rd HOS9.out.rd))
              obtain ⟨SS, hcs⟩ : ∃ S : ByteArray, ∀ (Z : World) (v : Value), Rd Z Z.heap.size v (rootM R1).1 → (convert 40 9 v).run Tryz.prog Z = .ok (.string S) Z := ⟨⟨(rootM R1).1.toArray⟩, fun Z v h => run_str Tryz.underlying40 Tryz.underlying5 Tryz.isString h⟩
              have HCS := Lib.hid hcs
              have hss : (SS.toList == SS.toList) = true := beq_self_eq_true _
              clear hcs HRC A12 hk12 HT12 HOT9 HOS9 HK9
              have hdd : (dn == dn) = true := by simp
              have hbd : Below w12.heap.size w12 w12.drew := (Below.refl _ _).drew
              go_wp2_with fail
              refine wp_region_held_drew (S := BelS w12.drew) (by kernel_rfl) (BelS.refl _) (fun hS0 => ?_)
              refine wpAnyH_take (i := 0) (oi := _) (v := ?_) rfl (by kernel_rfl) (by kernel_rfl) (by kernel_rfl) (fun _ _ _ h => h) (Or.inl ⟨by rfl, ?_⟩) hS0 ?_
              rotate_left
              · intro W hSW
                try go_simp
                all_goals with_reducible rfl
              simp only [Act.put, List.setIfInBounds_toArray, List.set_cons_zero, List.set_cons_succ, List.getElem_toArray, List.getElem_cons_zero, List.getElem_cons_succ]
              refine wpAnyH_take (i := 3) (oi := _) (v := ?_) rfl (by kernel_rfl) (by kernel_rfl) (by kernel_rfl) (fun _ _ _ h => h) (Or.inl ⟨by rfl, ?_⟩) hS0 ?_
              rotate_left
              · intro W hSW
                try go_simp
                all_goals with_reducible rfl
              simp only [Act.put, List.setIfInBounds_toArray, List.set_cons_zero, List.set_cons_succ, List.getElem_toArray, List.getElem_cons_zero, List.getElem_cons_succ]
              refine wpAnyH_take (i := 4) (oi := _) (v := ?_) rfl (by kernel_rfl) (by kernel_rfl) (by kernel_rfl) (fun _ _ _ h => h) (Or.inl ⟨by rfl, ?_⟩) hS0 ?_
              rotate_left
              · intro W hSW
                have cv := HCS.out W _ (HRS.out W (below_chain hbd hbd.size hSW))
                try go_simp
                all_goals with_reducible rfl
              simp only [Act.put, List.setIfInBounds_toArray, List.set_cons_zero, List.set_cons_succ, List.getElem_toArray, List.getElem_cons_zero, List.getElem_cons_succ]
              refine wpAnyH_ready (rs := [1]) (by kernel_rfl) (by simp) (AllReadyH.cons rfl (fun K hK => ?_) AllReadyH.nil)
              have DA := Lib.hid (HRT.out w12.drew hbd)
              go_simp
              go_wp2_with ((go_at_call 12; (with_reducible refine DA.out.mono ?_); rintro e wA ⟨vA, rfl, hoA, hbA⟩))
              have hqA := below_chain hbd hbd.size hbA
              refine hK.out _ _ hbA (fun _ => ?_)
              clear hK K DA
              refine wpAnyH_stronger (S' := BelS wA) (fun W h => below_chain hbA hbA.size h) _ _ _ _ ?_
              have hSA : BelS wA wA := BelS.refl wA
              refine wpAnyH_take (i := 2) (oi := _) (v := ?_) rfl (by kernel_rfl) (by kernel_rfl) (by kernel_rfl) (fun _ _ _ h => h) (Or.inl ⟨by rfl, ?_⟩) hSA ?_
              rotate_left
              · intro W hSW
                have cv := HCS.out W _ (hoA.rd.up (Nat.le_refl _) hSW)
                try go_simp
                all_goals with_reducible rfl
              simp only [Act.put, List.setIfInBounds_toArray, List.set_cons_zero, List.set_cons_succ, List.getElem_toArray, List.getElem_cons_zero, List.getElem_cons_succ]
              refine wpAnyH_take (i := 5) (oi := _) (v := ?_) rfl (by kernel_rfl) (by kernel_rfl) (by kernel_rfl) (fun _ _ _ h => h) (Or.inl ⟨by rfl, ?_⟩) hSA ?_
              rotate_left
              · intro W hSW
                try go_simp
                all_goals with_reducible rfl
              simp only [Act.put, List.setIfInBounds_toArray, List.set_cons_zero, List.set_cons_succ, List.getElem_toArray, List.getElem_cons_zero, List.getElem_cons_succ]
              refine wpAnyH_take (i := 6) (oi := _) (v := ?_) rfl (by kernel_rfl) (by kernel_rfl) (by kernel_rfl) (fun _ _ _ h => h) (Or.inl ⟨by rfl, ?_⟩) hSA ?_
              rotate_left
              · intro W hSW
                try go_simp
                all_goals with_reducible rfl
              simp only [Act.put, List.setIfInBounds_toArray, List.set_cons_zero, List.set_cons_succ, List.getElem_toArray, List.getElem_cons_zero, List.getElem_cons_succ]
              refine wpAnyH_take (i := 7) (oi := _) (v := ?_) rfl (by kernel_rfl) (by kernel_rfl) (by kernel_rfl) (fun _ _ _ h => h) (Or.inl ⟨by rfl, ?_⟩) hSA ?_
              rotate_left
              · intro W hSW
                try go_simp
                all_goals with_reducible rfl
              simp only [Act.put, List.setIfInBounds_toArray, List.set_cons_zero, List.set_cons_succ, List.getElem_toArray, List.getElem_cons_zero, List.getElem_cons_succ]
              refine wpAnyH_take (i := 8) (oi := _) (v := ?_) rfl (by kernel_rfl) (by kernel_rfl) (by kernel_rfl) (fun _ _ _ h => h) (Or.inl ⟨by rfl, ?_⟩) hSA ?_
              rotate_left
              · intro W hSW
                try go_simp
                all_goals with_reducible rfl
              simp only [Act.put, List.setIfInBounds_toArray, List.set_cons_zero, List.set_cons_succ, List.getElem_toArray, List.getElem_cons_zero, List.getElem_cons_succ]
              refine wpAnyH_take (i := 9) (oi := _) (v := ?_) rfl (by kernel_rfl) (by kernel_rfl) (by kernel_rfl) (fun _ _ _ h => h) (Or.inl ⟨by rfl, ?_⟩) hSA ?_
              rotate_left
              · intro W hSW
                try go_simp
                all_goals with_reducible rfl
              simp only [Act.put, List.setIfInBounds_toArray, List.set_cons_zero, List.set_cons_succ, List.getElem_toArray, List.getElem_cons_zero, List.getElem_cons_succ]
              refine wpAnyH_take (i := 10) (oi := _) (v := ?_) rfl (by kernel_rfl) (by kernel_rfl) (by kernel_rfl) (fun _ _ _ h => h) (Or.inl ⟨by rfl, ?_⟩) hSA ?_
              rotate_left
              · intro W hSW
                try go_simp
                all_goals with_reducible rfl
              simp only [Act.put, List.setIfInBounds_toArray, List.set_cons_zero, List.set_cons_succ, List.getElem_toArray, List.getElem_cons_zero, List.getElem_cons_succ]
              refine wpAnyH_take (i := 11) (oi := _) (v := undef) rfl (by kernel_rfl) (by kernel_rfl) (by kernel_rfl) (fun _ _ _ h => h) (Or.inr ⟨by rfl, rfl⟩) hSA ?_
              simp only [Act.put, List.setIfInBounds_toArray, List.set_cons_zero, List.set_cons_succ, List.getElem_toArray, List.getElem_cons_zero, List.getElem_cons_succ]
              refine wpAnyH_take (i := 12) (oi := _) (v := undef) rfl (by kernel_rfl) (by kernel_rfl) (by kernel_rfl) (fun _ _ _ h => h) (Or.inr ⟨by rfl, rfl⟩) hSA ?_
              simp only [Act.put, List.setIfInBounds_toArray, List.set_cons_zero, List.set_cons_succ, List.getElem_toArray, List.getElem_cons_zero, List.getElem_cons_succ]
              refine wpAnyH_take (i := 13) (oi := _) (v := ?_) rfl (by kernel_rfl) (by kernel_rfl) (by kernel_rfl) (fun _ _ _ h => h) (Or.inl ⟨by rfl, ?_⟩) hSA ?_
              rotate_left
              · intro W hSW
                try go_simp
                all_goals with_reducible rfl
              simp only [Act.put, List.setIfInBounds_toArray, List.set_cons_zero, List.set_cons_succ, List.getElem_toArray, List.getElem_cons_zero, List.getElem_cons_succ]
              refine wpAnyH_take (i := 14) (oi := _) (v := ?_) rfl (by kernel_rfl) (by kernel_rfl) (by kernel_rfl) (fun _ _ _ h => h) (Or.inl ⟨by rfl, ?_⟩) hSA ?_
              rotate_left
              · intro W hSW
                try go_simp
                all_goals with_reducible rfl
              simp only [Act.put, List.setIfInBounds_toArray, List.set_cons_zero, List.set_cons_succ, List.getElem_toArray, List.getElem_cons_zero, List.getElem_cons_succ]
              refine wpAnyH_take (i := 15) (oi := _) (v := ?_) rfl (by kernel_rfl) (by kernel_rfl) (by kernel_rfl) (fun _ _ _ h => h) (Or.inl ⟨by rfl, ?_⟩) hSA ?_
              rotate_left
              · intro W hSW
                try go_simp
                all_goals with_reducible rfl
              simp only [Act.put, List.setIfInBounds_toArray, List.set_cons_zero, List.set_cons_succ, List.getElem_toArray, List.getElem_cons_zero, List.getElem_cons_succ]
              refine wpAnyH_done (by kernel_rfl) ?_ _
              have hfin := HFB.out.trans ((hqA).mono HFB.out.size)
              go_wp2_with fail
              go_ret
              exact ⟨rfl, hfin⟩
          · rw [if_neg h8] at HRC
            clear HSM
            go_wp2_with fail
            refine HRC.out.mono ?_
            rintro e w12 ⟨rfl, A12, hk12⟩
            try dsimp only at A12
            by_cases hdn : dn = 140
            · subst hdn
              have HFB := Lib.hid (HB1.out.trans ((A12.below (B := w.heap.size) HYM.out HB1.out.size)))
              have HT12 := Lib.hid (fun (Z : World) (hz : Below w12.heap.size w12 Z) => HT0.out Z ((HK9.out.transX hk12).transX (Kept.of_belowX hz)))
              have HRT := Lib.hid (fun (Z : World) (hz : Below w12.heap.size w12 Z) => (Acc.mk (A12.up hz).b (A12.up hz).p).root (show yn + (0 + 1 + 16) ≤ 1000000000 by have := HNN.out; omega) fr0 (HT12.out Z hz))
              have HRS := Lib.hid (fun (Z : World) (hz : Below w12.heap.size w12 Z) => (Kept.of_belowX hz).rd (hk12.rd HOS9.out.rd))
              obtain ⟨SS, hcs⟩ : ∃ S : ByteArray, ∀ (Z : World) (v : Value), Rd Z Z.heap.size v (rootM R1).1 → (convert 40 9 v).run Tryz.prog Z = .ok (.string S) Z := ⟨⟨(rootM R1).1.toArray⟩, fun Z v h => run_str Tryz.underlying40 Tryz.underlying5 Tryz.isString h⟩
              have HCS := Lib.hid hcs
              have hss : (SS.toList == SS.toList) = true := beq_self_eq_true _
              clear hcs HRC A12 hk12 HT12 HOT9 HOS9 HK9
              have hbd : Below w12.heap.size w12 w12.drew := (Below.refl _ _).drew
              go_wp2_with fail
              refine wp_region_held_drew (S := BelS w12.drew) (by kernel_rfl) (BelS.refl _) (fun hS0 => ?_)
              refine wpAnyH_take (i := 0) (oi := _) (v := ?_) rfl (by kernel_rfl) (by kernel_rfl) (by kernel_rfl) (fun _ _ _ h => h) (Or.inl ⟨by rfl, ?_⟩) hS0 ?_
              rotate_left
              · intro W hSW
                try go_simp
                all_goals with_reducible rfl
              simp only [Act.put, List.setIfInBounds_toArray, List.set_cons_zero, List.set_cons_succ, List.getElem_toArray, List.getElem_cons_zero, List.getElem_cons_succ]
              refine wpAnyH_take (i := 3) (oi := _) (v := ?_) rfl (by kernel_rfl) (by kernel_rfl) (by kernel_rfl) (fun _ _ _ h => h) (Or.inl ⟨by rfl, ?_⟩) hS0 ?_
              rotate_left
              · intro W hSW
                try go_simp
                all_goals with_reducible rfl
              simp only [Act.put, List.setIfInBounds_toArray, List.set_cons_zero, List.set_cons_succ, List.getElem_toArray, List.getElem_cons_zero, List.getElem_cons_succ]
              refine wpAnyH_take (i := 4) (oi := _) (v := ?_) rfl (by kernel_rfl) (by kernel_rfl) (by kernel_rfl) (fun _ _ _ h => h) (Or.inl ⟨by rfl, ?_⟩) hS0 ?_
              rotate_left
              · intro W hSW
                have cv := HCS.out W _ (HRS.out W (below_chain hbd hbd.size hSW))
                try go_simp
                all_goals with_reducible rfl
              simp only [Act.put, List.setIfInBounds_toArray, List.set_cons_zero, List.set_cons_succ, List.getElem_toArray, List.getElem_cons_zero, List.getElem_cons_succ]
              refine wpAnyH_ready (rs := [1]) (by kernel_rfl) (by simp) (AllReadyH.cons rfl (fun K hK => ?_) AllReadyH.nil)
              have DA := Lib.hid (HRT.out w12.drew hbd)
              go_simp
              go_wp2_with ((go_at_call 12; (with_reducible refine DA.out.mono ?_); rintro e wA ⟨vA, rfl, hoA, hbA⟩))
              have hqA := below_chain hbd hbd.size hbA
              refine hK.out _ _ hbA (fun _ => ?_)
              clear hK K DA
              refine wpAnyH_stronger (S' := BelS wA) (fun W h => below_chain hbA hbA.size h) _ _ _ _ ?_
              have hSA : BelS wA wA := BelS.refl wA
              refine wpAnyH_take (i := 2) (oi := _) (v := ?_) rfl (by kernel_rfl) (by kernel_rfl) (by kernel_rfl) (fun _ _ _ h => h) (Or.inl ⟨by rfl, ?_⟩) hSA ?_
              rotate_left
              · intro W hSW
                have cv := HCS.out W _ (hoA.rd.up (Nat.le_refl _) hSW)
                try go_simp
                all_goals with_reducible rfl
              simp only [Act.put, List.setIfInBounds_toArray, List.set_cons_zero, List.set_cons_succ, List.getElem_toArray, List.getElem_cons_zero, List.getElem_cons_succ]
              refine wpAnyH_take (i := 5) (oi := _) (v := ?_) rfl (by kernel_rfl) (by kernel_rfl) (by kernel_rfl) (fun _ _ _ h => h) (Or.inl ⟨by rfl, ?_⟩) hSA ?_
              rotate_left
              · intro W hSW
                try go_simp
                all_goals with_reducible rfl
              simp only [Act.put, List.setIfInBounds_toArray, List.set_cons_zero, List.set_cons_succ, List.getElem_toArray, List.getElem_cons_zero, List.getElem_cons_succ]
              refine wpAnyH_take (i := 6) (oi := _) (v := ?_) rfl (by kernel_rfl) (by kernel_rfl) (by kernel_rfl) (fun _ _ _ h => h) (Or.inl ⟨by rfl, ?_⟩) hSA ?_
              rotate_left
              · intro W hSW
                try go_simp
                all_goals with_reducible rfl
              simp only [Act.put, List.setIfInBounds_toArray, List.set_cons_zero, List.set_cons_succ, List.getElem_toArray, List.getElem_cons_zero, List.getElem_cons_succ]
              refine wpAnyH_take (i := 7) (oi := _) (v := ?_) rfl (by kernel_rfl) (by kernel_rfl) (by kernel_rfl) (fun _ _ _ h => h) (Or.inl ⟨by rfl, ?_⟩) hSA ?_
              rotate_left
              · intro W hSW
                try go_simp
                all_goals with_reducible rfl
              simp only [Act.put, List.setIfInBounds_toArray, List.set_cons_zero, List.set_cons_succ, List.getElem_toArray, List.getElem_cons_zero, List.getElem_cons_succ]
              refine wpAnyH_take (i := 8) (oi := _) (v := ?_) rfl (by kernel_rfl) (by kernel_rfl) (by kernel_rfl) (fun _ _ _ h => h) (Or.inl ⟨by rfl, ?_⟩) hSA ?_
              rotate_left
              · intro W hSW
                try go_simp
                all_goals with_reducible rfl
              simp only [Act.put, List.setIfInBounds_toArray, List.set_cons_zero, List.set_cons_succ, List.getElem_toArray, List.getElem_cons_zero, List.getElem_cons_succ]
              refine wpAnyH_take (i := 9) (oi := _) (v := ?_) rfl (by kernel_rfl) (by kernel_rfl) (by kernel_rfl) (fun _ _ _ h => h) (Or.inl ⟨by rfl, ?_⟩) hSA ?_
              rotate_left
              · intro W hSW
                try go_simp
                all_goals with_reducible rfl
              simp only [Act.put, List.setIfInBounds_toArray, List.set_cons_zero, List.set_cons_succ, List.getElem_toArray, List.getElem_cons_zero, List.getElem_cons_succ]
              refine wpAnyH_take (i := 10) (oi := _) (v := ?_) rfl (by kernel_rfl) (by kernel_rfl) (by kernel_rfl) (fun _ _ _ h => h) (Or.inl ⟨by rfl, ?_⟩) hSA ?_
              rotate_left
              · intro W hSW
                try go_simp
                all_goals with_reducible rfl
              simp only [Act.put, List.setIfInBounds_toArray, List.set_cons_zero, List.set_cons_succ, List.getElem_toArray, List.getElem_cons_zero, List.getElem_cons_succ]
              refine wpAnyH_take (i := 11) (oi := _) (v := undef) rfl (by kernel_rfl) (by kernel_rfl) (by kernel_rfl) (fun _ _ _ h => h) (Or.inr ⟨by rfl, rfl⟩) hSA ?_
              simp only [Act.put, List.setIfInBounds_toArray, List.set_cons_zero, List.set_cons_succ, List.getElem_toArray, List.getElem_cons_zero, List.getElem_cons_succ]
              refine wpAnyH_take (i := 12) (oi := _) (v := undef) rfl (by kernel_rfl) (by kernel_rfl) (by kernel_rfl) (fun _ _ _ h => h) (Or.inr ⟨by rfl, rfl⟩) hSA ?_
              simp only [Act.put, List.setIfInBounds_toArray, List.set_cons_zero, List.set_cons_succ, List.getElem_toArray, List.getElem_cons_zero, List.getElem_cons_succ]
              refine wpAnyH_take (i := 13) (oi := _) (v := ?_) rfl (by kernel_rfl) (by kernel_rfl) (by kernel_rfl) (fun _ _ _ h => h) (Or.inl ⟨by rfl, ?_⟩) hSA ?_
              rotate_left
              · intro W hSW
                try go_simp
                all_goals with_reducible rfl
              simp only [Act.put, List.setIfInBounds_toArray, List.set_cons_zero, List.set_cons_succ, List.getElem_toArray, List.getElem_cons_zero, List.getElem_cons_succ]
              refine wpAnyH_take (i := 14) (oi := _) (v := ?_) rfl (by kernel_rfl) (by kernel_rfl) (by kernel_rfl) (fun _ _ _ h => h) (Or.inl ⟨by rfl, ?_⟩) hSA ?_
              rotate_left
              · intro W hSW
                try go_simp
                all_goals with_reducible rfl
              simp only [Act.put, List.setIfInBounds_toArray, List.set_cons_zero, List.set_cons_succ, List.getElem_toArray, List.getElem_cons_zero, List.getElem_cons_succ]
              refine wpAnyH_take (i := 15) (oi := _) (v := ?_) rfl (by kernel_rfl) (by kernel_rfl) (by kernel_rfl) (fun _ _ _ h => h) (Or.inl ⟨by rfl, ?_⟩) hSA ?_
              rotate_left
              · intro W hSW
                try go_simp
                all_goals with_reducible rfl
              simp only [Act.put, List.setIfInBounds_toArray, List.set_cons_zero, List.set_cons_succ, List.getElem_toArray, List.getElem_cons_zero, List.getElem_cons_succ]
              refine wpAnyH_done (by kernel_rfl) ?_ _
              have hfin := HFB.out.trans ((hqA).mono HFB.out.size)
              go_wp2_with fail
              go_ret
              exact ⟨rfl, hfin⟩
            · have hne : (dn == 140) = false := by simpa using hdn
              have HFB := Lib.hid (HB1.out.trans ((A12.below (B := w.heap.size) HYM.out HB1.out.size)))
              have HT12 := Lib.hid (fun (Z : World) (hz : Below w12.heap.size w12 Z) => HT0.out Z ((HK9.out.transX hk12).transX (Kept.of_belowX hz)))
              have HRT := Lib.hid (fun (Z : World) (hz : Below w12.heap.size w12 Z) => (Acc.mk (A12.up hz).b (A12.up hz).p).root (show yn + (0 + 1 + 16) ≤ 1000000000 by have := HNN.out; omega) fr0 (HT12.out Z hz))
              have HRS := Lib.hid (fun (Z : World) (hz : Below w12.heap.size w12 Z) => (Kept.of_belowX hz).rd (hk12.rd HOS9.out.rd))
              obtain ⟨SS, hcs⟩ : ∃ S : ByteArray, ∀ (Z : World) (v : Value), Rd Z Z.heap.size v (rootM R1).1 → (convert 40 9 v).run Tryz.prog Z = .ok (.string S) Z := ⟨⟨(rootM R1).1.toArray⟩, fun Z v h => run_str Tryz.underlying40 Tryz.underlying5 Tryz.isString h⟩
              have HCS := Lib.hid hcs
              have hss : (SS.toList == SS.toList) = true := beq_self_eq_true _
              clear hcs HRC A12 hk12 HT12 HOT9 HOS9 HK9
              have hbd : Below w12.heap.size w12 w12.drew := (Below.refl _ _).drew
              go_wp2_with fail
              refine wp_region_held_drew (S := BelS w12.drew) (by kernel_rfl) (BelS.refl _) (fun hS0 => ?_)
              refine wpAnyH_take (i := 0) (oi := _) (v := ?_) rfl (by kernel_rfl) (by kernel_rfl) (by kernel_rfl) (fun _ _ _ h => h) (Or.inl ⟨by rfl, ?_⟩) hS0 ?_
              rotate_left
              · intro W hSW
                try go_simp
                all_goals with_reducible rfl
              simp only [Act.put, List.setIfInBounds_toArray, List.set_cons_zero, List.set_cons_succ, List.getElem_toArray, List.getElem_cons_zero, List.getElem_cons_succ]
              refine wpAnyH_take (i := 3) (oi := _) (v := ?_) rfl (by kernel_rfl) (by kernel_rfl) (by kernel_rfl) (fun _ _ _ h => h) (Or.inl ⟨by rfl, ?_⟩) hS0 ?_
              rotate_left
              · intro W hSW
                try go_simp
                all_goals with_reducible rfl
              simp only [Act.put, List.setIfInBounds_toArray, List.set_cons_zero, List.set_cons_succ, List.getElem_toArray, List.getElem_cons_zero, List.getElem_cons_succ]
              refine wpAnyH_take (i := 4) (oi := _) (v := ?_) rfl (by kernel_rfl) (by kernel_rfl) (by kernel_rfl) (fun _ _ _ h => h) (Or.inl ⟨by rfl, ?_⟩) hS0 ?_
              rotate_left
              · intro W hSW
                have cv := HCS.out W _ (HRS.out W (below_chain hbd hbd.size hSW))
                try go_simp
                all_goals with_reducible rfl
              simp only [Act.put, List.setIfInBounds_toArray, List.set_cons_zero, List.set_cons_succ, List.getElem_toArray, List.getElem_cons_zero, List.getElem_cons_succ]
              refine wpAnyH_ready (rs := [1]) (by kernel_rfl) (by simp) (AllReadyH.cons rfl (fun K hK => ?_) AllReadyH.nil)
              have DA := Lib.hid (HRT.out w12.drew hbd)
              go_simp
              go_wp2_with ((go_at_call 12; (with_reducible refine DA.out.mono ?_); rintro e wA ⟨vA, rfl, hoA, hbA⟩))
              have hqA := below_chain hbd hbd.size hbA
              refine hK.out _ _ hbA (fun _ => ?_)
              clear hK K DA
              refine wpAnyH_stronger (S' := BelS wA) (fun W h => below_chain hbA hbA.size h) _ _ _ _ ?_
              have hSA : BelS wA wA := BelS.refl wA
              refine wpAnyH_take (i := 2) (oi := _) (v := ?_) rfl (by kernel_rfl) (by kernel_rfl) (by kernel_rfl) (fun _ _ _ h => h) (Or.inl ⟨by rfl, ?_⟩) hSA ?_
              rotate_left
              · intro W hSW
                have cv := HCS.out W _ (hoA.rd.up (Nat.le_refl _) hSW)
                try go_simp
                all_goals with_reducible rfl
              simp only [Act.put, List.setIfInBounds_toArray, List.set_cons_zero, List.set_cons_succ, List.getElem_toArray, List.getElem_cons_zero, List.getElem_cons_succ]
              refine wpAnyH_take (i := 5) (oi := _) (v := ?_) rfl (by kernel_rfl) (by kernel_rfl) (by kernel_rfl) (fun _ _ _ h => h) (Or.inl ⟨by rfl, ?_⟩) hSA ?_
              rotate_left
              · intro W hSW
                try go_simp
                all_goals with_reducible rfl
              simp only [Act.put, List.setIfInBounds_toArray, List.set_cons_zero, List.set_cons_succ, List.getElem_toArray, List.getElem_cons_zero, List.getElem_cons_succ]
              refine wpAnyH_take (i := 6) (oi := _) (v := ?_) rfl (by kernel_rfl) (by kernel_rfl) (by kernel_rfl) (fun _ _ _ h => h) (Or.inl ⟨by rfl, ?_⟩) hSA ?_
              rotate_left
              · intro W hSW
                try go_simp
                all_goals with_reducible rfl
              simp only [Act.put, List.setIfInBounds_toArray, List.set_cons_zero, List.set_cons_succ, List.getElem_toArray, List.getElem_cons_zero, List.getElem_cons_succ]
              refine wpAnyH_take (i := 7) (oi := _) (v := ?_) rfl (by kernel_rfl) (by kernel_rfl) (by kernel_rfl) (fun _ _ _ h => h) (Or.inl ⟨by rfl, ?_⟩) hSA ?_
              rotate_left
              · intro W hSW
                try go_simp
                all_goals with_reducible rfl
              simp only [Act.put, List.setIfInBounds_toArray, List.set_cons_zero, List.set_cons_succ, List.getElem_toArray, List.getElem_cons_zero, List.getElem_cons_succ]
              refine wpAnyH_take (i := 8) (oi := _) (v := ?_) rfl (by kernel_rfl) (by kernel_rfl) (by kernel_rfl) (fun _ _ _ h => h) (Or.inl ⟨by rfl, ?_⟩) hSA ?_
              rotate_left
              · intro W hSW
                try go_simp
                all_goals with_reducible rfl
              simp only [Act.put, List.setIfInBounds_toArray, List.set_cons_zero, List.set_cons_succ, List.getElem_toArray, List.getElem_cons_zero, List.getElem_cons_succ]
              refine wpAnyH_take (i := 9) (oi := _) (v := ?_) rfl (by kernel_rfl) (by kernel_rfl) (by kernel_rfl) (fun _ _ _ h => h) (Or.inl ⟨by rfl, ?_⟩) hSA ?_
              rotate_left
              · intro W hSW
                try go_simp
                all_goals with_reducible rfl
              simp only [Act.put, List.setIfInBounds_toArray, List.set_cons_zero, List.set_cons_succ, List.getElem_toArray, List.getElem_cons_zero, List.getElem_cons_succ]
              refine wpAnyH_take (i := 10) (oi := _) (v := ?_) rfl (by kernel_rfl) (by kernel_rfl) (by kernel_rfl) (fun _ _ _ h => h) (Or.inl ⟨by rfl, ?_⟩) hSA ?_
              rotate_left
              · intro W hSW
                try go_simp
                all_goals with_reducible rfl
              simp only [Act.put, List.setIfInBounds_toArray, List.set_cons_zero, List.set_cons_succ, List.getElem_toArray, List.getElem_cons_zero, List.getElem_cons_succ]
              refine wpAnyH_take (i := 11) (oi := _) (v := ?_) rfl (by kernel_rfl) (by kernel_rfl) (by kernel_rfl) (fun _ _ _ h => h) (Or.inl ⟨by rfl, ?_⟩) hSA ?_
              rotate_left
              · intro W hSW
                try go_simp
                all_goals with_reducible rfl
              simp only [Act.put, List.setIfInBounds_toArray, List.set_cons_zero, List.set_cons_succ, List.getElem_toArray, List.getElem_cons_zero, List.getElem_cons_succ]
              refine wpAnyH_take (i := 12) (oi := _) (v := ?_) rfl (by kernel_rfl) (by kernel_rfl) (by kernel_rfl) (fun _ _ _ h => h) (Or.inl ⟨by rfl, ?_⟩) hSA ?_
              rotate_left
              · intro W hSW
                try go_simp
                all_goals with_reducible rfl
              simp only [Act.put, List.setIfInBounds_toArray, List.set_cons_zero, List.set_cons_succ, List.getElem_toArray, List.getElem_cons_zero, List.getElem_cons_succ]
              refine wpAnyH_take (i := 13) (oi := _) (v := ?_) rfl (by kernel_rfl) (by kernel_rfl) (by kernel_rfl) (fun _ _ _ h => h) (Or.inl ⟨by rfl, ?_⟩) hSA ?_
              rotate_left
              · intro W hSW
                try go_simp
                all_goals with_reducible rfl
              simp only [Act.put, List.setIfInBounds_toArray, List.set_cons_zero, List.set_cons_succ, List.getElem_toArray, List.getElem_cons_zero, List.getElem_cons_succ]
              refine wpAnyH_take (i := 14) (oi := _) (v := ?_) rfl (by kernel_rfl) (by kernel_rfl) (by kernel_rfl) (fun _ _ _ h => h) (Or.inl ⟨by rfl, ?_⟩) hSA ?_
              rotate_left
              · intro W hSW
                try go_simp
                all_goals with_reducible rfl
              simp only [Act.put, List.setIfInBounds_toArray, List.set_cons_zero, List.set_cons_succ, List.getElem_toArray, List.getElem_cons_zero, List.getElem_cons_succ]
              refine wpAnyH_take (i := 15) (oi := _) (v := ?_) rfl (by kernel_rfl) (by kernel_rfl) (by kernel_rfl) (fun _ _ _ h => h) (Or.inl ⟨by rfl, ?_⟩) hSA ?_
              rotate_left
              · intro W hSW
                try go_simp
                all_goals with_reducible rfl
              simp only [Act.put, List.setIfInBounds_toArray, List.set_cons_zero, List.set_cons_succ, List.getElem_toArray, List.getElem_cons_zero, List.getElem_cons_succ]
              refine wpAnyH_done (by kernel_rfl) ?_ _
              have hfin := HFB.out.trans ((hqA).mono HFB.out.size)
              go_wp2_with fail
              go_ret
              exact ⟨rfl, hfin⟩
end Go.Proofs.YtcgkonpepmoliaaGreatDoor
