
/- The law MerkleHolds, walked. -/
import Derived.Test.YtpnfdfnbnoplgaaDoorMerkL0
namespace Go.Proofs.YtpnfdfnbnoplgaaDoor
open Go Go.RowKit
set_option linter.unusedVariables false

theorem keyB_no {s : ByteArray} (h : keyB s = false) : s.toList = [] ∨ 200 < s.size := by
  unfold keyB at h
  by_cases h0 : s.size = 0
  · left
    have : s.data = #[] := Array.eq_empty_of_size_eq_zero h0
    rw [ByteArray.toList_eq, this]
  · right
    by_cases h2 : s.size ≤ 200
    · rw [decide_eq_true (by omega), decide_eq_true h2] at h; cases h
    · omega

set_option maxHeartbeats 4000000 in
theorem holds_law (w : World) (v : Value) (ps : List Pr) (key : ByteArray) (hr : RdP w w.heap.size v ps) (hnl : ∀ p ∈ ps, p.1.size ≤ maxLen) (hks : key.size ≤ maxLen) (fr : TypeId × Nat × Nat) (hk : w.heap[0]? = some (.cells kVals fr.1 fr.2)) :
    Calls Tryd.prog 6 #[v, .string key] w fun e w' => e = .returned (.bool true) ∧ Below w.heap.size w w' := by
  have hn0 := blk_lt hk
  have HK := Lib.hid hk
  clear hk
  have CR := Lib.hid (fun (W : World) (hb : Below w.heap.size w W) => rootM_any W v ps ((hr.below hb).more hb.size) hnl fr ((hb.block _ hn0).trans HK.out))
  have CP := Lib.hid (fun (W : World) (hb : Below w.heap.size w W) => prove_any ps key v W ((hr.below hb).more hb.size) hnl hks fr ((hb.block _ hn0).trans HK.out))
  obtain ⟨A, c, rfl, hc, hm, hp⟩ := hr
  unfold maxLen at hm
  obtain ⟨n, hn⟩ : ∃ n, n = ps.length := ⟨_, rfl⟩
  rw [← hn] at hc CR CP ⊢
  have HN := Lib.hid hn
  have HP := Lib.hid hp
  clear hn hp
  have hks' : key.size ≤ 9223372036854775807 := hks
  go_enter Tryd.func6, Tryd.ntmps6
  go_wp2_with fail
  refine (fixed_any w fr HK.out).mono ?_
  rintro e w0 ⟨rfl, hb0⟩
  go_wp2_with fail
  refine (CR.out w0 hb0).mono ?_
  rintro e w1 ⟨v1, rfl, ho1, hb1⟩
  have hq1 := below_chain hb0 hb0.size hb1
  cases ho : ordB ps with
  | false =>
    rw [rootM_no ho] at ho1 ⊢
    obtain ⟨A1, c1, rfl⟩ := ho1.form' (n := 0) rfl
    have hpr : proveM ps key = (⟨0, []⟩, 60) := proveM_no (by rw [ho]; simp)
    have CP2 := CP.out w1 hq1
    rw [hpr] at CP2
    replace CP2 := Lib.hid CP2
    clear hpr ho
    go_wp2_with fail
    refine CP2.out.mono ?_
    rintro e w2 ⟨v2, rfl, ⟨lv, rfl, hol⟩, hb2⟩
    have hq2 := below_chain hq1 hq1.size hb2
    have hq3 := hq2.alloc hq2.size (.cells #[.int .i64 0, lv] 33)
    clear CP2
    obtain ⟨A3, c3, rfl⟩ := hol.form
    go_wp2_with fail
    go_ret
    exact ⟨rfl, hq3⟩
  | true =>
    have hn6 := ordB_len ho
    rw [← HN.out] at hn6
    have hR1 : (rootM ps).2 = 0 := by
      by_cases h0 : ps.length = 0
      · rw [rootM_nil ho h0]
      · rw [rootM_some ho (by omega)]
    have hR32 : (rootM ps).1.length = 32 := by
      by_cases h0 : ps.length = 0
      · rw [rootM_nil ho h0]; exact tagH_length _ _
      · rw [rootM_some ho (by omega)]; exact tagH_length _ _
    obtain ⟨A1, c1, rfl⟩ := ho1.form' hR32
    rw [hR1]
    cases hkb : keyB key with
    | false =>
      have hpr : proveM ps key = (⟨0, []⟩, 60) := proveM_no (by rw [hkb]; simp)
      have CP2 := CP.out w1 hq1
      rw [hpr] at CP2
      replace CP2 := Lib.hid CP2
      have hkn := keyB_no hkb
      clear hpr ho hkb hR32 hR1
      have HKN := Lib.hid hkn
      clear hkn
      go_wp2_with fail
      refine CP2.out.mono ?_
      rintro e w2 ⟨v2, rfl, ⟨lv, rfl, hol⟩, hb2⟩
      have hq2 := below_chain hq1 hq1.size hb2
      have hq3 := hq2.alloc hq2.size (.cells #[.int .i64 0, lv] 33)
      clear CP2
      obtain ⟨A3, c3, rfl⟩ := hol.form
      by_cases he : key.toList = []
      · have he2 : key.toList.isEmpty = true := by rw [he]; rfl
        clear he
        go_wp2_with fail
        go_ret
        exact ⟨rfl, hq3⟩
      · have he2 : key.toList.isEmpty = false := by simpa using he
        have hl : (200 : Int) < (key.size : Int) := by have := HKN.out.resolve_left he; omega
        go_wp2_with fail
        go_ret
        exact ⟨rfl, hq3⟩
    | true =>
      have hpr : proveM ps key = (⟨(ps.length : Int), leavesP ps key⟩, 0) := proveM_yes ho hkb
      have CP2 := CP.out w1 hq1
      rw [hpr] at CP2
      replace CP2 := Lib.hid CP2
      clear hpr
      go_wp2_with fail
      refine CP2.out.mono ?_
      rintro e w2 ⟨v2, rfl, hpn, hb2⟩
      have hq2 := below_chain hq1 hq1.size hb2
      clear CP2
      rw [← HN.out] at hpn
      have hpv := hpn.proofV (by show _ ≤ (n : Int); omega) (by show (n : Int) ≤ _; omega)
      have HPV := Lib.hid hpv
      obtain ⟨lv, rfl, hol⟩ := hpn
      obtain ⟨Al, cl, hlv⟩ := hol.form
      dsimp only at hlv hpv HPV ⊢
      subst hlv
      have hr1 := ho1.rd
      clear hol hpv hR32 hR1
      -- the checks, at any world behind
      have HVY : Hid (∀ (W : World) (j : Nat) (hj : j < ps.length) (va : Value), ps[j].1 = key → Below w2.heap.size w2 W → Rd W W.heap.size va ps[j].2 → Calls Tryd.prog 15 #[.slice A1 32 c1, .string key, va, .agg #[.int .i64 (n : Int), .slice Al (leavesP ps key).length cl]] W fun e w' => e = .returned (.bool true) ∧ Below W.heap.size W w') :=
        Lib.hid fun W j hj va he hb hva => by
          have hw : Below w1.heap.size w1 W := hb2.trans (hb.mono hb2.size)
          have := verify_any (.slice A1 32 c1) (rootM ps).1 key va ps[j].2 _ _ W ((hr1.below hw).more hw.size) hva ((HPV.out.below hb).more hb.size) fr (((below_chain hq2 hq2.size hb).block _ hn0).trans HK.out)
          have hs := (shown_there ho j hj).1
          rw [he, ← HN.out] at hs
          rw [hs] at this
          exact this
      have HAN : Hid (∀ (W : World) (j : Nat) (hj : j < ps.length), ps[j].1 = key → Below w2.heap.size w2 W → Calls Tryd.prog 17 #[.slice A1 32 c1, .string key, .agg #[.int .i64 (n : Int), .slice Al (leavesP ps key).length cl]] W fun e w' => e = .returned (.bool false) ∧ Below W.heap.size W w') :=
        Lib.hid fun W j hj he hb => by
          have hw : Below w1.heap.size w1 W := hb2.trans (hb.mono hb2.size)
          have := absent_any (.slice A1 32 c1) (rootM ps).1 key _ _ W hks ((hr1.below hw).more hw.size) ((HPV.out.below hb).more hb.size) fr (((below_chain hq2 hq2.size hb).block _ hn0).trans HK.out)
          have hs := (shown_there ho j hj).2
          rw [he, ← HN.out] at hs
          rw [hs] at this
          exact this
      have HAY : Hid ((∀ p ∈ ps, p.1 ≠ key) → (leavesP ps key).length ≤ 2 ∧ (∀ W : World, Below w2.heap.size w2 W → Calls Tryd.prog 17 #[.slice A1 32 c1, .string key, .agg #[.int .i64 (n : Int), .slice Al (leavesP ps key).length cl]] W fun e w' => e = .returned (.bool true) ∧ Below W.heap.size W w') ∧ (∀ W : World, Below w2.heap.size w2 W → Calls Tryd.prog 15 #[.slice A1 32 c1, .string key, .slice none 0 0, .agg #[.int .i64 (n : Int), .slice Al (leavesP ps key).length cl]] W fun e w' => e = .returned (.bool false) ∧ Below W.heap.size W w')) :=
        Lib.hid fun hne => by
          obtain ⟨h1, h2, h3⟩ := shown_absent ho hkb hne []
          rw [← HN.out] at h1 h2
          refine ⟨h3, fun W hb => ?_, fun W hb => ?_⟩
          · have hw : Below w1.heap.size w1 W := hb2.trans (hb.mono hb2.size)
            have := absent_any (.slice A1 32 c1) (rootM ps).1 key _ _ W hks ((hr1.below hw).more hw.size) ((HPV.out.below hb).more hb.size) fr (((below_chain hq2 hq2.size hb).block _ hn0).trans HK.out)
            rw [h1] at this
            exact this
          · have hw : Below w1.heap.size w1 W := hb2.trans (hb.mono hb2.size)
            have := verify_any (.slice A1 32 c1) (rootM ps).1 key (.slice none 0 0) [] _ _ W ((hr1.below hw).more hw.size) (Rd.nil _ _) ((HPV.out.below hb).more hb.size) fr (((below_chain hq2 hq2.size hb).block _ hn0).trans HK.out)
            rw [h2] at this
            exact this
      clear hr1 ho1 HPV ho hkb
      generalize (leavesP ps key).length = ll at *
      have hbx : Below w2.heap.size w2 (w2.alloc (.cells #[.int .i64 (n : Int), .slice Al ll cl] 33)) := (Below.refl _ _).alloc (Nat.le_refl _) _
      have hgx := heap_alloc_new w2 (.cells #[.int .i64 (n : Int), .slice Al ll cl] 33)
      go_wp2_with fail
      generalize w2.alloc (.cells #[.int .i64 (n : Int), .slice Al ll cl] 33) = W3 at *
      have hgl := blk_lt hgx
      have HGX := Lib.hid hgx
      clear hgx
      go_loopw [49, 10] (fun kv _ wr => ∃ k : Nat, k ≤ n ∧ kv = .int .i64 (k : Int) ∧ Hid (∀ j (h : j < ps.length), j < k → ps[j].1 ≠ key) ∧ Below W3.heap.size W3 wr)
        (fun kv _ _ => n - (intOf kv).toNat)
      case atStart => exact ⟨0, Nat.zero_le _, rfl, Lib.hid fun j _ h => by omega, Below.refl _ _⟩
      case round =>
        obtain ⟨k, hkn, rfl, HNE, hb⟩ := hrel
        have g0 : wr.cell? ⟨w2.heap.size, 0, none⟩ = some (.int .i64 (n : Int)) := (hb.cell (p := ⟨w2.heap.size, 0, none⟩) hgl).trans (blk_cell HGX.out 0)
        have g1 : wr.cell? ⟨w2.heap.size, 1, none⟩ = some (.slice Al ll cl) := (hb.cell (p := ⟨w2.heap.size, 1, none⟩) hgl).trans (blk_cell HGX.out 1)
        have hb2w := below_chain hbx hbx.size hb
        have hbw := below_chain hq2 hq2.size hb2w
        by_cases hlt : k < n
        · have hkl : k < ps.length := by have := HN.out; omega
          obtain ⟨b, o, rfl, hbl, hcell⟩ := HP.out (by omega)
          obtain ⟨q1, x, q2, q3⟩ := hcell k hkl
          have a1 := (hbw.cell (p := ⟨b, o + k * 2, none⟩) hbl).trans q1
          have a2 := (hbw.cell (p := ⟨b, o + k * 2 + 1, none⟩) hbl).trans q2
          have i1 : (0 : Int) ≤ (k : Int) := by omega
          have i2 : (k : Int) < (n : Int) := by omega
          have hxr := (q3.below hbw).more hbw.size
          have CV := HVY.out
          have hpj : Hid (∀ h : ps[k].1 = key, ∀ (W : World), Below wr.heap.size wr W → (Calls Tryd.prog 15 #[.slice A1 32 c1, .string key, x, .agg #[.int .i64 (n : Int), .slice Al ll cl]] W fun e w' => e = .returned (.bool true) ∧ Below W.heap.size W w') ∧ (Calls Tryd.prog 17 #[.slice A1 32 c1, .string key, .agg #[.int .i64 (n : Int), .slice Al ll cl]] W fun e w' => e = .returned (.bool false) ∧ Below W.heap.size W w')) :=
            Lib.hid fun h W hbW => ⟨HVY.out W k hkl x h (below_chain hb2w hb2w.size hbW) ((hxr.below hbW).more hbW.size), HAN.out W k hkl h (below_chain hb2w hb2w.size hbW)⟩
          have hnk : Hid (ps[k].1 ≠ key → ∀ j (h : j < ps.length), j < k + 1 → ps[j].1 ≠ key) := Lib.hid fun h j hj hjk => by
            by_cases e : j = k
            · subst e; exact h
            · exact HNE.out j hj (by omega)
          have hdec := beqS ps[k].1 key
          obtain ⟨Ax, cx, hx⟩ := q3.form
          generalize ps[k].2.length = xl at *
          subst hx
          generalize ps[k].1 = s at *
          have hbz : Below wr.heap.size wr (wr.alloc (.cells #[.string s, .slice Ax xl cx] 25)) := (Below.refl _ _).alloc (Nat.le_refl _) _
          have hbwz := below_chain hbw hbw.size hbz
          have hb3z := below_chain hb hb.size hbz
          have g0' : (wr.alloc (.cells #[.string s, .slice Ax xl cx] 25)).cell? ⟨w2.heap.size, 0, none⟩ = some (.int .i64 (n : Int)) := (hb3z.cell (p := ⟨w2.heap.size, 0, none⟩) hgl).trans (blk_cell HGX.out 0)
          have g1' : (wr.alloc (.cells #[.string s, .slice Ax xl cx] 25)).cell? ⟨w2.heap.size, 1, none⟩ = some (.slice Al ll cl) := (hb3z.cell (p := ⟨w2.heap.size, 1, none⟩) hgl).trans (blk_cell HGX.out 1)
          clear hcell q1 q2 q3 hxr CV
          by_cases he : s = key
          · have hd : (s.toList == key.toList) = true := by rw [hdec]; exact decide_eq_true he
            have C1 := Lib.hid (hpj.out he _ hbz).1
            have C2 := Lib.hid (fun (W : World) (h : Below (wr.alloc (.cells #[.string s, .slice Ax xl cx] 25)).heap.size (wr.alloc (.cells #[.string s, .slice Ax xl cx] 25)) W) => (hpj.out he W (below_chain hbz hbz.size h)).2)
            clear hdec he
            go_wp2_with fail
            refine (C1.out).mono ?_
            rintro e w5 ⟨rfl, hb5⟩
            have hq5 := below_chain hbwz hbwz.size hb5
            have hgl5 := Nat.lt_of_lt_of_le hgl hb3z.size
            have g05 := (hb5.cell (p := ⟨w2.heap.size, 0, none⟩) hgl5).trans g0'
            have g15 := (hb5.cell (p := ⟨w2.heap.size, 1, none⟩) hgl5).trans g1'
            go_wp2_with fail
            refine (C2.out w5 hb5).mono ?_
            rintro e w6 ⟨rfl, hb6⟩
            have hq6 := below_chain hq5 hq5.size hb6
            go_wp2_with fail
            go_ret
            exact ⟨rfl, hq6⟩
          · have hd : (s.toList == key.toList) = false := by rw [hdec]; exact decide_eq_false he
            have HN2 := Lib.hid (hnk.out he)
            clear hdec he
            go_wp2_with fail
            exact ⟨⟨k + 1, by omega, by go_num, HN2, hb3z⟩, by simp [intOf]; omega⟩
        · have i2 : ¬ (k : Int) < (n : Int) := by omega
          obtain ⟨h3, CA, CV⟩ := HAY.out fun p hp => by
            obtain ⟨j, hj, rfl⟩ := List.getElem_of_mem hp
            exact HNE.out j hj (by have := HN.out; omega)
          have CA1 := Lib.hid (CA wr hb2w)
          have CV1 := Lib.hid (fun (W : World) (h : Below wr.heap.size wr W) => CV W (below_chain hb2w hb2w.size h))
          clear CA CV
          have i3 : (ll : Int) ≤ 2 := by omega
          have hgl2 := Nat.lt_of_lt_of_le hgl hb.size
          go_wp2_with fail
          refine (CA1.out).mono ?_
          rintro e w5 ⟨rfl, hb5⟩
          have hq5 := below_chain hbw hbw.size hb5
          have g05 := (hb5.cell (p := ⟨w2.heap.size, 0, none⟩) hgl2).trans g0
          have g15 := (hb5.cell (p := ⟨w2.heap.size, 1, none⟩) hgl2).trans g1
          go_wp2_with fail
          refine (CV1.out w5 hb5).mono ?_
          rintro e w6 ⟨rfl, hb6⟩
          have hq6 := below_chain hq5 hq5.size hb6
          have g16 := (hb6.cell (p := ⟨w2.heap.size, 1, none⟩) (Nat.lt_of_lt_of_le hgl2 hb5.size)).trans g15
          go_wp2_with fail
          go_ret
          exact ⟨rfl, hq6⟩
end Go.Proofs.YtpnfdfnbnoplgaaDoor
