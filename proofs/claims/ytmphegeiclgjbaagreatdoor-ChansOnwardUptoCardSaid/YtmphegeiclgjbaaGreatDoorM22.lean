/- Texts joined: ChS. -/
import Derived.Test.YtmphegeiclgjbaaGreatDoorM21
namespace Go.Proofs.YtmphegeiclgjbaaGreatDoor
set_option maxRecDepth 100000
open Go Go.RowKit
set_option linter.unusedVariables false

set_option maxHeartbeats 16000000 in
theorem chtry_any {W w : World} {y : Lyr} {l : List Lyr} {R : List Pr} {k : Nat} (h : At W y l R k w) (hn : y.n + k + 5 ≤ maxLen) (hT : Pows w) (od : Bool) (po cp cn cc ve : ByteArray) (h_po : po.size ≤ 1048576) (h_cp : cp.size ≤ 1048576) (h_cn : cn.size ≤ 1048576) (h_cc : cc.size ≤ 1048576) (h_ve : ve.size ≤ 1048576) (ht now : Nat) (h_ht : ht < 18446744073709551616) (h_now : now < 18446744073709551616)
    (n : Int) (A : Option Addr) (m c : Nat) (p : Pf) (hp : ∀ Z, Below w.heap.size w Z → ProofV Z Z.heap.size (.agg #[.int .i64 n, .slice A m c]) p)
    (fr : TypeId × Nat × Nat) (hk : w.heap[0]? = some (.cells kVals fr.1 fr.2)) :
    Calls Tryz.prog 86 #[.pointer (some ⟨y.b, 0, none⟩), .agg #[.int .u64 0, .bool od, .string po, .string cp, .string cn, .string cc, .string ve], .int .u64 (ht : Int), .agg #[.int .i64 n, .slice A m c], .int .u64 (now : Int)] w fun e w' => e = .returned (.tuple #[.string (if chTryE R ⟨0, od, po, cp, cn, cc, ve⟩ ht now p = 0 then newID R sChan else ⟨#[]⟩), .int .i64 (chTryP R ⟨0, od, po, cp, cn, cc, ve⟩ ht now p).1]) ∧ At W y l (chTryP R ⟨0, od, po, cp, cn, cc, ve⟩ ht now p).2 (k + 5) w' ∧ Kept w w' := by
  have hb1 : Below w.heap.size w (w.alloc (.cells #[.int .u64 0, .bool od, .string po, .string cp, .string cn, .string cc, .string ve] 85)) := (Below.refl _ _).alloc (Nat.le_refl _) _
  have ha0 := hb1.alloc hb1.size (.cells #[.int .i64 n, .slice A m c] 41)
  have q1 := heap_alloc_new w (.cells #[.int .u64 0, .bool od, .string po, .string cp, .string cn, .string cc, .string ve] 85)
  have q2 := heap_alloc_new (w.alloc (.cells #[.int .u64 0, .bool od, .string po, .string cp, .string cn, .string cc, .string ve] 85)) (.cells #[.int .i64 n, .slice A m c] 41)
  replace q1 := (Below.heap_alloc (w.alloc (.cells #[.int .u64 0, .bool od, .string po, .string cp, .string cn, .string cc, .string ve] 85)) (.cells #[.int .i64 n, .slice A m c] 41) _ (blk_lt q1)).trans q1
  rw [show (w.alloc (.cells #[.int .u64 0, .bool od, .string po, .string cp, .string cn, .string cc, .string ve] 85)).heap.size = w.heap.size + 1 by simp] at q2
  clear hb1
  have hO := chopen_any (h.up ha0) cn (by omega)
  generalize hV : openV R cn = V at *
  obtain ⟨vst, vcl, vcc, vct⟩ := V
  unfold CnV.val at hO
  dsimp only at hO
  have HO := Lib.hid hO
  have HF : Hid (∀ Z : World, Calls Tryz.prog 124 #[.string cp, .string po, .bool od, .string ve] Z fun e w' => e = .returned (.int .i64 (formM cp po od ve)) ∧ Z = w') := Lib.hid fun Z => form_any cp po od ve Z (by omega)
  have HI : Hid (∀ Z : World, Calls Tryz.prog 49 #[.string cc] Z fun e w' => e = .returned (.bool (identB cc)) ∧ Z = w') := Lib.hid fun Z => ident_any cc Z (by unfold maxLen; omega)
  obtain ⟨E, hE⟩ : ∃ e, e = chShowE R ⟨#[]⟩ ⟨0, od, po, cp, cn, cc, ve⟩ 1 ht now p := ⟨_, rfl⟩
  have HSH : Hid (∀ Z, Below w.heap.size w Z → Calls Tryz.prog 128 #[.pointer (some ⟨y.b, 0, none⟩), .string ⟨#[]⟩, .agg #[.int .u64 0, .bool od, .string po, .string cp, .string cn, .string cc, .string ve], .int .u64 1, .int .u64 (ht : Int), .agg #[.int .i64 n, .slice A m c], .int .u64 (now : Int)] Z fun e w' => e = .returned (.int .i64 E) ∧ Below Z.heap.size Z w') :=
    Lib.hid fun Z hz => by
      have := chshown_any (h.up hz) ⟨#[]⟩ (by show 0 ≤ _; omega) 0 1 od po cp cn cc ve (by decide) (by omega) (by omega) (by omega) (by omega) (by omega) ht now h_ht h_now n A m c p (fun Z2 hz2 => hp Z2 (below_chain hz hz.size hz2)) fr ((hz.block _ (blk_lt hk)).trans hk)
      rw [← hE] at this
      exact this
  have HMD : Hid (∀ Z, Below w.heap.size w Z → Calls Tryz.prog 125 #[.pointer (some ⟨y.b, 0, none⟩), .agg #[.int .u64 2, .bool od, .string po, .string cp, .string cn, .string cc, .string ve]] Z fun e w' => e = .returned (.string (newID R sChan)) ∧ At W y l (madeCh R ⟨2, od, po, cp, cn, cc, ve⟩) (k + 5) w' ∧ Kept Z w') :=
    Lib.hid fun Z hz => chmadeU_any (h.up hz) hn (hT.kept (Kept.of_belowX hz)) ⟨2, od, po, cp, cn, cc, ve⟩ (by show 2 < _; decide) (by show ByteArray.size po ≤ _; unfold maxLen; omega) (by show ByteArray.size cp ≤ _; unfold maxLen; omega) (by show ByteArray.size cn ≤ _; unfold maxLen; omega) (by show ByteArray.size cc ≤ _; unfold maxLen; omega) (by show ByteArray.size ve ≤ _; unfold maxLen; omega)
  unfold chTryP chTryE
  dsimp only
  rw [← hE]
  generalize madeCh R ⟨2, od, po, cp, cn, cc, ve⟩ = R2 at *
  generalize newID R sChan = ID at *
  generalize openE R cn = O at *
  generalize formM cp po od ve = F at *
  generalize identB cc = bi at *
  generalize hW0 : (w.alloc (.cells #[.int .u64 0, .bool od, .string po, .string cp, .string cn, .string cc, .string ve] 85)).alloc (.cells #[.int .i64 n, .slice A m c] 41) = W0 at *
  have HW : Hid (∀ Z, Below W0.heap.size W0 Z → Below w.heap.size w Z) := Lib.hid fun Z hz => below_chain ha0 ha0.size hz
  have HA := Lib.hid (fun (Z : World) (hz : Below w.heap.size w Z) => (h.up hz).more (show k ≤ k + 5 by omega))
  generalize hgg : w.heap.size = g0 at *
  have HC0 : Hid (∀ Z, Below W0.heap.size W0 Z → Z.heap[g0]? = some (.cells #[.int .u64 0, .bool od, .string po, .string cp, .string cn, .string cc, .string ve] 85 (0, 0))) := Lib.hid fun Z hz => (hz.block _ (blk_lt q1)).trans q1
  have HP0 : Hid (∀ Z, Below W0.heap.size W0 Z → Z.heap[g0 + 1]? = some (.cells #[.int .i64 n, .slice A m c] 41 (0, 0))) := Lib.hid fun Z hz => (hz.block _ (blk_lt q2)).trans q2
  have HKP : Hid (∀ Z, Below g0 w Z → Kept w Z) := Lib.hid fun Z hz => Kept.of_belowX (by rw [hgg]; exact hz)
  have HG0 : Hid (g0 ≤ W0.heap.size) := Lib.hid (by rw [← hgg]; exact ha0.size)
  clear h hn hT h_po h_cp h_cn h_cc h_ve hp hk hE hV q1 q2 ha0 h_ht h_now
  by_cases hz : O = 0
  rotate_left
  · rw [if_neg hz, if_neg hz]
    have hneB : (O != 0) = true := by simpa using hz
    have m0 := HC0.out _ (Below.refl _ _)
    have c4 := blk_cell m0 4
    go_enter Tryz.func86, Tryz.ntmps86
    go_wp2_with fail
    try rw [hW0]
    clear hW0
    try rw [hgg]
    refine HO.out.mono ?_
    rintro e w1 ⟨rfl, hb1⟩
    have b2 := hb1.alloc hb1.size (.cells #[.int .u64 (vst : Int), .string vcl, .string vcc, .string vct] 78)
    have A2 := HA.out _ (HW.out _ b2)
    have k2 := HKP.out _ (HW.out _ b2)
    clear HO HF HI m0 HSH HMD HA HP0 HC0 HW HKP hb1 b2
    go_wp2_with fail
    go_ret2
    exact ⟨rfl, A2, k2⟩
  subst hz
  rw [if_pos rfl]
  by_cases hz2 : F = 0
  rotate_left
  · rw [if_neg hz2, if_neg hz2]
    have hneB : (F != 0) = true := by simpa using hz2
    have m0 := HC0.out _ (Below.refl _ _)
    have c4 := blk_cell m0 4
    go_enter Tryz.func86, Tryz.ntmps86
    go_wp2_with fail
    try rw [hW0]
    clear hW0
    try rw [hgg]
    refine HO.out.mono ?_
    rintro e w1 ⟨rfl, hb1⟩
    have b2 := hb1.alloc hb1.size (.cells #[.int .u64 (vst : Int), .string vcl, .string vcc, .string vct] 78)
    have A2 := HA.out _ (HW.out _ b2)
    have k2 := HKP.out _ (HW.out _ b2)
    clear c4
    have m2 := HC0.out _ b2
    have c1 := blk_cell m2 1
    have c2 := blk_cell m2 2
    have c3 := blk_cell m2 3
    have c6 := blk_cell m2 6
    clear HO HI m0 m2 HSH HMD HA HP0 HC0 HW HKP hb1 b2
    go_wp2_with fail
    refine (HF.out _).mono ?_
    rintro e w3 ⟨rfl, rfl⟩
    go_wp2_with fail
    go_ret2
    exact ⟨rfl, A2, k2⟩
  subst hz2
  rw [if_pos rfl]
  cases bi with
  | false =>
    simp only [Bool.false_eq_true, if_false, if_neg (show ¬ (40 : Int) = 0 by decide)]
    have m0 := HC0.out _ (Below.refl _ _)
    have c4 := blk_cell m0 4
    go_enter Tryz.func86, Tryz.ntmps86
    go_wp2_with fail
    try rw [hW0]
    clear hW0
    try rw [hgg]
    refine HO.out.mono ?_
    rintro e w1 ⟨rfl, hb1⟩
    have b2 := hb1.alloc hb1.size (.cells #[.int .u64 (vst : Int), .string vcl, .string vcc, .string vct] 78)
    have A2 := HA.out _ (HW.out _ b2)
    have k2 := HKP.out _ (HW.out _ b2)
    clear c4
    have m2 := HC0.out _ b2
    have c1 := blk_cell m2 1
    have c2 := blk_cell m2 2
    have c3 := blk_cell m2 3
    have c5 := blk_cell m2 5
    have c6 := blk_cell m2 6
    clear HO m0 m2 HSH HMD HA HP0 HC0 HW HKP hb1 b2
    go_wp2_with fail
    refine (HF.out _).mono ?_
    rintro e w3 ⟨rfl, rfl⟩
    go_wp2_with fail
    refine (HI.out _).mono ?_
    rintro e w3 ⟨rfl, rfl⟩
    go_wp2_with fail
    go_ret2
    exact ⟨rfl, A2, k2⟩
  | true =>
    rw [if_pos rfl]
    have m0 := HC0.out _ (Below.refl _ _)
    have c4 := blk_cell m0 4
    go_enter Tryz.func86, Tryz.ntmps86
    go_wp2_with fail
    try rw [hW0]
    clear hW0
    try rw [hgg]
    refine HO.out.mono ?_
    rintro e w1 ⟨rfl, hb1⟩
    have b2 := hb1.alloc hb1.size (.cells #[.int .u64 (vst : Int), .string vcl, .string vcc, .string vct] 78)
    clear c4
    have m2 := HC0.out _ b2
    have c0 := blk_cell m2 0
    have c1 := blk_cell m2 1
    have c2 := blk_cell m2 2
    have c3 := blk_cell m2 3
    have c4 := blk_cell m2 4
    have c5 := blk_cell m2 5
    have c6 := blk_cell m2 6
    have mp := HP0.out _ b2
    have p0 := blk_cell mp 0
    have p1 := blk_cell mp 1
    have f0 := blk_free m2 0
    clear HO m0 m2 mp hb1
    go_wp2_with fail
    generalize w1.alloc (.cells #[.int .u64 (vst : Int), .string vcl, .string vcc, .string vct] 78) = w2 at *
    refine (HF.out _).mono ?_
    rintro e w3 ⟨rfl, rfl⟩
    go_wp2_with fail
    refine (HI.out _).mono ?_
    rintro e w3 ⟨rfl, rfl⟩
    have HSH2 := Lib.hid (HSH.out _ (HW.out _ b2))
    clear HF HI HSH
    go_wp2_with fail
    refine HSH2.out.mono ?_
    rintro e w5 ⟨rfl, hb5⟩
    have b5 := b2.trans (hb5.mono b2.size)
    clear c0 c1 c2 c3 c4 c5 c6 p0 p1 f0 HSH2
    by_cases hz : E = 0
    · subst hz
      have m5 := HC0.out _ b5
      have c0 := blk_cell m5 0
      have c1 := blk_cell m5 1
      have c2 := blk_cell m5 2
      have c3 := blk_cell m5 3
      have c4 := blk_cell m5 4
      have c5 := blk_cell m5 5
      have c6 := blk_cell m5 6
      have f0 := blk_free m5 0
      have m6 : (w5.setCell ⟨g0, 0, none⟩ (.int .u64 2)).heap[g0]? = some (.cells #[.int .u64 2, .bool od, .string po, .string cp, .string cn, .string cc, .string ve] 85 (0, 0)) := by simpa using blk_set m5 0 (.int .u64 2)
      have q6 : Below g0 w (w5.setCell ⟨g0, 0, none⟩ (.int .u64 2)) := (HW.out _ b5).setCell (p := ⟨g0, 0, none⟩) (Nat.le_refl _) _
      have d0 := blk_cell m6 0
      have d1 := blk_cell m6 1
      have d2 := blk_cell m6 2
      have d3 := blk_cell m6 3
      have d4 := blk_cell m6 4
      have d5 := blk_cell m6 5
      have d6 := blk_cell m6 6
      have HMD2 := Lib.hid (HMD.out _ q6)
      have k6 := HKP.out _ q6
      clear m5 m6 q6 hb5 b5 b2 HMD HA HP0 HC0 HW HKP
      go_wp2_with fail
      refine HMD2.out.mono ?_
      rintro e w7 ⟨rfl, A7, k7⟩
      have kf := k6.transX k7
      clear c0 c1 c2 c3 c4 c5 c6 d0 d1 d2 d3 d4 d5 d6 f0 HMD2
      go_wp2_with fail
      go_ret2
      exact ⟨by first | rfl | (rw [if_pos rfl]; rfl), by first | exact A7 | (rw [if_pos rfl]; exact A7), kf⟩
    · have hneB : (E != 0) = true := by simpa using hz
      have A5 := HA.out _ (HW.out _ b5)
      have k5 := HKP.out _ (HW.out _ b5)
      clear HMD HA HP0 HC0 HW HKP hb5 b5 b2
      go_wp2_with fail
      go_ret2
      exact ⟨by first | rfl | (rw [if_neg hz]; rfl), by first | exact A5 | (rw [if_neg hz]; exact A5), k5⟩
set_option maxHeartbeats 16000000 in
theorem chack_any {W w : World} {y : Lyr} {l : List Lyr} {R : List Pr} {k : Nat} (h : At W y l R k w) (hn : y.n + k < maxLen) (id cch : ByteArray) (h_id : id.size ≤ 1048576) (h_c : cch.size ≤ 1048576) (ht now : Nat) (h_ht : ht < 18446744073709551616) (h_now : now < 18446744073709551616)
    (n : Int) (A : Option Addr) (m c : Nat) (p : Pf) (hp : ∀ Z, Below w.heap.size w Z → ProofV Z Z.heap.size (.agg #[.int .i64 n, .slice A m c]) p)
    (fr : TypeId × Nat × Nat) (hk : w.heap[0]? = some (.cells kVals fr.1 fr.2)) :
    Calls Tryz.prog 87 #[.pointer (some ⟨y.b, 0, none⟩), .string id, .string cch, .int .u64 (ht : Int), .agg #[.int .i64 n, .slice A m c], .int .u64 (now : Int)] w fun e w' => e = .returned (.int .i64 (chAckP R id cch ht now p).1) ∧ At W y l (chAckP R id cch ht now p).2 (k + 1) w' ∧ Kept w w' := by
  have q1 := heap_alloc_new w (.cells #[.int .i64 n, .slice A m c] 41)
  have ha0 : Below w.heap.size w (w.alloc (.cells #[.int .i64 n, .slice A m c] 41)) := (Below.refl _ _).alloc (Nat.le_refl _) _
  have hok : (inStV R id 1).ok := inStV_ok
  have hG := instate_any (h.up ha0) id (by omega) 1
  unfold chAckP chAckE
  dsimp only
  obtain ⟨V, hV⟩ : ∃ v, v = inStV R id 1 := ⟨_, rfl⟩
  obtain ⟨O, hO⟩ : ∃ e, e = inStE R id 1 := ⟨_, rfl⟩
  rw [← hV, ← hO] at hG
  rw [← hV, ← hO]
  rw [← hV] at hok
  obtain ⟨st, od, po, cp, cn, cc, ve⟩ := V
  obtain ⟨o0, o1, o2, o3, o4, o5⟩ := hok
  unfold ChV.val at hG
  dsimp only at hG o0 o1 o2 o3 o4 o5 ⊢
  have HG := Lib.hid hG
  obtain ⟨E, hE⟩ : ∃ e, e = chShowE R id ⟨st, od, po, cp, cn, cch, ve⟩ 2 ht now p := ⟨_, rfl⟩
  have HSH : Hid (∀ Z, Below w.heap.size w Z → Calls Tryz.prog 128 #[.pointer (some ⟨y.b, 0, none⟩), .string id, .agg #[.int .u64 (st : Int), .bool od, .string po, .string cp, .string cn, .string cch, .string ve], .int .u64 2, .int .u64 (ht : Int), .agg #[.int .i64 n, .slice A m c], .int .u64 (now : Int)] Z fun e w' => e = .returned (.int .i64 E) ∧ Below Z.heap.size Z w') :=
    Lib.hid fun Z hz => by
      have := chshown_any (h.up hz) id (by omega) st 2 od po cp cn cch ve (by first | omega | decide) (by omega) (by omega) (by omega) (by omega) (by omega) ht now h_ht h_now n A m c p (fun Z2 hz2 => hp Z2 (below_chain hz hz.size hz2)) fr ((hz.block _ (blk_lt hk)).trans hk)
      rw [← hE] at this
      exact this
  rw [← hE]
  have HI : Hid (∀ Z : World, Calls Tryz.prog 49 #[.string cch] Z fun e w' => e = .returned (.bool (identB cch)) ∧ Z = w') := Lib.hid fun Z => ident_any cch Z (by unfold maxLen; omega)
  generalize identB cch = bi at *
  have HPT : Hid (∀ Z, Below w.heap.size w Z → Calls Tryz.prog 127 #[.pointer (some ⟨y.b, 0, none⟩), .string id, .agg #[.int .u64 3, .bool od, .string po, .string cp, .string cn, .string cch, .string ve]] Z fun e w' => e = .returned (.tuple #[]) ∧ At W y l (setL (kChn id) (chB ⟨3, od, po, cp, cn, cch, ve⟩) R) (k + 1) w' ∧ Kept Z w') :=
    Lib.hid fun Z hz => chput_any (h.up hz) hn id (by omega) ⟨3, od, po, cp, cn, cch, ve⟩ (by show 3 < _; first | omega | decide) (by show ByteArray.size po ≤ _; unfold maxLen; omega) (by show ByteArray.size cp ≤ _; unfold maxLen; omega) (by show ByteArray.size cn ≤ _; unfold maxLen; omega) (by show ByteArray.size cch ≤ _; unfold maxLen; omega) (by show ByteArray.size ve ≤ _; unfold maxLen; omega)
  generalize setL (kChn id) (chB ⟨3, od, po, cp, cn, cch, ve⟩) R = R2 at *
  generalize hW0 : w.alloc (.cells #[.int .i64 n, .slice A m c] 41) = W0 at *
  have HW : Hid (∀ Z, Below W0.heap.size W0 Z → Below w.heap.size w Z) := Lib.hid fun Z hz => below_chain ha0 ha0.size hz
  have HA := Lib.hid (fun (Z : World) (hz : Below w.heap.size w Z) => (h.up hz).more (show k ≤ k + 1 by omega))
  generalize hgg : w.heap.size = g0 at *
  have HP0 : Hid (∀ Z, Below W0.heap.size W0 Z → Z.heap[g0]? = some (.cells #[.int .i64 n, .slice A m c] 41 (0, 0))) := Lib.hid fun Z hz => (hz.block _ (blk_lt q1)).trans q1
  have HKP : Hid (∀ Z, Below g0 w Z → Kept w Z) := Lib.hid fun Z hz => Kept.of_belowX (by rw [hgg]; exact hz)
  have HG0 : Hid (g0 ≤ W0.heap.size) := Lib.hid (by rw [← hgg]; exact ha0.size)
  clear h hn h_id h_c hp hk hE hV hO q1 ha0 h_ht h_now o0 o1 o2 o3 o4 o5
  by_cases hz : O = 0
  rotate_left
  · rw [if_neg hz, if_neg hz]
    have hneB : (O != 0) = true := by simpa using hz
    go_enter Tryz.func87, Tryz.ntmps87
    go_wp2_with fail
    try rw [hW0]
    clear hW0
    try rw [hgg]
    refine HG.out.mono ?_
    rintro e w1 ⟨rfl, hb1⟩
    have b2 := hb1.alloc hb1.size (.cells #[.int .u64 (st : Int), .bool od, .string po, .string cp, .string cn, .string cc, .string ve] 85)
    have A2 := HA.out _ (HW.out _ b2)
    have k2 := HKP.out _ (HW.out _ b2)
    clear HG hb1 b2 HSH HPT HA HP0 HW HKP HG0 HI
    go_wp2_with fail
    go_ret
    exact ⟨rfl, A2, k2⟩
  subst hz
  rw [if_pos rfl]
  cases bi with
  | false =>
    simp only [Bool.false_eq_true, if_false, if_neg (show ¬ (40 : Int) = 0 by decide)]
    go_enter Tryz.func87, Tryz.ntmps87
    go_wp2_with fail
    try rw [hW0]
    clear hW0
    try rw [hgg]
    refine HG.out.mono ?_
    rintro e w1 ⟨rfl, hb1⟩
    have b2 := hb1.alloc hb1.size (.cells #[.int .u64 (st : Int), .bool od, .string po, .string cp, .string cn, .string cc, .string ve] 85)
    have A2 := HA.out _ (HW.out _ b2)
    have k2 := HKP.out _ (HW.out _ b2)
    clear HG hb1 b2 HSH HPT HA HP0 HW HKP HG0
    go_wp2_with fail
    refine (HI.out _).mono ?_
    rintro e w3 ⟨rfl, rfl⟩
    go_wp2_with fail
    go_ret
    exact ⟨rfl, A2, k2⟩
  | true =>
    rw [if_pos rfl]
    go_enter Tryz.func87, Tryz.ntmps87
    go_wp2_with fail
    try rw [hW0]
    clear hW0
    try rw [hgg]
    refine HG.out.mono ?_
    rintro e w1 ⟨rfl, hb1⟩
    have b2 := hb1.alloc hb1.size (.cells #[.int .u64 (st : Int), .bool od, .string po, .string cp, .string cn, .string cc, .string ve] 85)
    have HG1 : Hid (g0 ≤ w1.heap.size) := Lib.hid (Nat.le_trans HG0.out hb1.size)
    have mV := heap_alloc_new w1 (.cells #[.int .u64 (st : Int), .bool od, .string po, .string cp, .string cn, .string cc, .string ve] 85)
    have hbV : Below w1.heap.size w1 (w1.alloc (.cells #[.int .u64 (st : Int), .bool od, .string po, .string cp, .string cn, .string cc, .string ve] 85)) := (Below.refl _ _).alloc (Nat.le_refl _) _
    have f5 := blk_free mV 5
    have c5 := blk_cell mV 5
    have mV2 := heap_alloc_new w1 (.cells #[.int .u64 (st : Int), .bool od, .string po, .string cp, .string cn, .string cch, .string ve] 85)
    have b3 := hb1.alloc hb1.size (.cells #[.int .u64 (st : Int), .bool od, .string po, .string cp, .string cn, .string cch, .string ve] 85)
    have HM2 := Lib.hid (And.intro mV2 b3)
    clear HG hb1 b2 hbV mV mV2 b3
    go_wp2_with fail
    refine (HI.out _).mono ?_
    rintro e w3 ⟨rfl, rfl⟩
    clear HI
    obtain ⟨mV2, b3⟩ := HM2.out
    have d0 := blk_cell mV2 0
    have d1 := blk_cell mV2 1
    have d2 := blk_cell mV2 2
    have d3 := blk_cell mV2 3
    have d4 := blk_cell mV2 4
    have d5 := blk_cell mV2 5
    have d6 := blk_cell mV2 6
    have mp := HP0.out _ b3
    have p0 := blk_cell mp 0
    have p1 := blk_cell mp 1
    have HSH2 := Lib.hid (HSH.out _ (HW.out _ b3))
    clear mV2 b3 mp HSH
    go_wp2_with fail
    obtain ⟨mV2, b3⟩ := HM2.out
    clear c5 f5 HM2 d0 d1 d2 d3 d4 d5 d6 p0 p1
    generalize w1.alloc (.cells #[.int .u64 (st : Int), .bool od, .string po, .string cp, .string cn, .string cch, .string ve] 85) = w2 at *
    generalize w1.heap.size = gV at *
    refine HSH2.out.mono ?_
    rintro e w5 ⟨rfl, hb5⟩
    have b5 := b3.trans (hb5.mono b3.size)
    have m5 := (hb5.block _ (blk_lt mV2)).trans mV2
    clear HSH2 mV2 b3 hb5
    by_cases hz : E = 0
    · subst hz
      have c0 := blk_cell m5 0
      have c1 := blk_cell m5 1
      have c2 := blk_cell m5 2
      have c3 := blk_cell m5 3
      have c4 := blk_cell m5 4
      have c5 := blk_cell m5 5
      have c6 := blk_cell m5 6
      have f0 := blk_free m5 0
      have m6 : (w5.setCell ⟨gV, 0, none⟩ (.int .u64 3)).heap[gV]? = some (.cells #[.int .u64 3, .bool od, .string po, .string cp, .string cn, .string cch, .string ve] 85 (0, 0)) := by simpa using blk_set m5 0 (.int .u64 3)
      have q6 : Below g0 w (w5.setCell ⟨gV, 0, none⟩ (.int .u64 3)) := (HW.out _ b5).setCell (p := ⟨gV, 0, none⟩) HG1.out _
      have d0 := blk_cell m6 0
      have d1 := blk_cell m6 1
      have d2 := blk_cell m6 2
      have d3 := blk_cell m6 3
      have d4 := blk_cell m6 4
      have d5 := blk_cell m6 5
      have d6 := blk_cell m6 6
      have HPT2 := Lib.hid (HPT.out _ q6)
      have k6 := HKP.out _ q6
      clear m5 m6 q6 b5 HPT HA HP0 HW HKP
      go_wp2_with fail
      refine HPT2.out.mono ?_
      rintro e w7 ⟨rfl, A7, k7⟩
      have kf := k6.transX k7
      clear c0 d0 c1 d1 c2 d2 c3 d3 c4 d4 c5 d5 c6 d6 f0 HPT2
      go_wp2_with fail
      go_ret
      exact ⟨rfl, by first | exact A7 | (rw [if_pos rfl]; exact A7), kf⟩
    · have hneB : (E != 0) = true := by simpa using hz
      have A5 := HA.out _ (HW.out _ b5)
      have k5 := HKP.out _ (HW.out _ b5)
      clear HPT HA HP0 HW HKP m5 b5
      go_wp2_with fail
      go_ret
      exact ⟨rfl, by first | exact A5 | (rw [if_neg hz]; exact A5), k5⟩
set_option maxHeartbeats 16000000 in
theorem chfol_any {W w : World} {y : Lyr} {l : List Lyr} {R : List Pr} {k : Nat} (h : At W y l R k w) (hn : y.n + k < maxLen) (id : ByteArray) (h_id : id.size ≤ 1048576) (fm to : Nat) (h_to : to < 18446744073709551616) (ht now : Nat) (h_ht : ht < 18446744073709551616) (h_now : now < 18446744073709551616)
    (n : Int) (A : Option Addr) (m c : Nat) (p : Pf) (hp : ∀ Z, Below w.heap.size w Z → ProofV Z Z.heap.size (.agg #[.int .i64 n, .slice A m c]) p)
    (fr : TypeId × Nat × Nat) (hk : w.heap[0]? = some (.cells kVals fr.1 fr.2)) :
    Calls Tryz.prog 129 #[.pointer (some ⟨y.b, 0, none⟩), .string id, .int .u64 (fm : Int), .int .u64 (to : Int), .int .u64 (ht : Int), .agg #[.int .i64 n, .slice A m c], .int .u64 (now : Int)] w fun e w' => e = .returned (.int .i64 (chFolP R id fm to ht now p).1) ∧ At W y l (chFolP R id fm to ht now p).2 (k + 1) w' ∧ Kept w w' := by
  have q1 := heap_alloc_new w (.cells #[.int .i64 n, .slice A m c] 41)
  have ha0 : Below w.heap.size w (w.alloc (.cells #[.int .i64 n, .slice A m c] 41)) := (Below.refl _ _).alloc (Nat.le_refl _) _
  have hok : (inStV R id fm).ok := inStV_ok
  have hG := instate_any (h.up ha0) id (by omega) fm
  unfold chFolP chFolE
  dsimp only
  obtain ⟨V, hV⟩ : ∃ v, v = inStV R id fm := ⟨_, rfl⟩
  obtain ⟨O, hO⟩ : ∃ e, e = inStE R id fm := ⟨_, rfl⟩
  rw [← hV, ← hO] at hG
  rw [← hV, ← hO]
  rw [← hV] at hok
  obtain ⟨st, od, po, cp, cn, cc, ve⟩ := V
  obtain ⟨o0, o1, o2, o3, o4, o5⟩ := hok
  unfold ChV.val at hG
  dsimp only at hG o0 o1 o2 o3 o4 o5 ⊢
  have HG := Lib.hid hG
  obtain ⟨E, hE⟩ : ∃ e, e = chShowE R id ⟨st, od, po, cp, cn, cc, ve⟩ to ht now p := ⟨_, rfl⟩
  have HSH : Hid (∀ Z, Below w.heap.size w Z → Calls Tryz.prog 128 #[.pointer (some ⟨y.b, 0, none⟩), .string id, .agg #[.int .u64 (st : Int), .bool od, .string po, .string cp, .string cn, .string cc, .string ve], .int .u64 (to : Int), .int .u64 (ht : Int), .agg #[.int .i64 n, .slice A m c], .int .u64 (now : Int)] Z fun e w' => e = .returned (.int .i64 E) ∧ Below Z.heap.size Z w') :=
    Lib.hid fun Z hz => by
      have := chshown_any (h.up hz) id (by omega) st to od po cp cn cc ve (by first | omega | decide) (by omega) (by omega) (by omega) (by omega) (by omega) ht now h_ht h_now n A m c p (fun Z2 hz2 => hp Z2 (below_chain hz hz.size hz2)) fr ((hz.block _ (blk_lt hk)).trans hk)
      rw [← hE] at this
      exact this
  rw [← hE]
  have HPT : Hid (∀ Z, Below w.heap.size w Z → Calls Tryz.prog 127 #[.pointer (some ⟨y.b, 0, none⟩), .string id, .agg #[.int .u64 (to : Int), .bool od, .string po, .string cp, .string cn, .string cc, .string ve]] Z fun e w' => e = .returned (.tuple #[]) ∧ At W y l (setL (kChn id) (chB ⟨to, od, po, cp, cn, cc, ve⟩) R) (k + 1) w' ∧ Kept Z w') :=
    Lib.hid fun Z hz => chput_any (h.up hz) hn id (by omega) ⟨to, od, po, cp, cn, cc, ve⟩ (by show to < _; first | omega | decide) (by show ByteArray.size po ≤ _; unfold maxLen; omega) (by show ByteArray.size cp ≤ _; unfold maxLen; omega) (by show ByteArray.size cn ≤ _; unfold maxLen; omega) (by show ByteArray.size cc ≤ _; unfold maxLen; omega) (by show ByteArray.size ve ≤ _; unfold maxLen; omega)
  generalize setL (kChn id) (chB ⟨to, od, po, cp, cn, cc, ve⟩) R = R2 at *
  generalize hW0 : w.alloc (.cells #[.int .i64 n, .slice A m c] 41) = W0 at *
  have HW : Hid (∀ Z, Below W0.heap.size W0 Z → Below w.heap.size w Z) := Lib.hid fun Z hz => below_chain ha0 ha0.size hz
  have HA := Lib.hid (fun (Z : World) (hz : Below w.heap.size w Z) => (h.up hz).more (show k ≤ k + 1 by omega))
  generalize hgg : w.heap.size = g0 at *
  have HP0 : Hid (∀ Z, Below W0.heap.size W0 Z → Z.heap[g0]? = some (.cells #[.int .i64 n, .slice A m c] 41 (0, 0))) := Lib.hid fun Z hz => (hz.block _ (blk_lt q1)).trans q1
  have HKP : Hid (∀ Z, Below g0 w Z → Kept w Z) := Lib.hid fun Z hz => Kept.of_belowX (by rw [hgg]; exact hz)
  have HG0 : Hid (g0 ≤ W0.heap.size) := Lib.hid (by rw [← hgg]; exact ha0.size)
  clear h hn h_id h_to hp hk hE hV hO q1 ha0 h_ht h_now o0 o1 o2 o3 o4 o5
  by_cases hz : O = 0
  rotate_left
  · rw [if_neg hz, if_neg hz]
    have hneB : (O != 0) = true := by simpa using hz
    go_enter Tryz.func129, Tryz.ntmps129
    go_wp2_with fail
    try rw [hW0]
    clear hW0
    try rw [hgg]
    refine HG.out.mono ?_
    rintro e w1 ⟨rfl, hb1⟩
    have b2 := hb1.alloc hb1.size (.cells #[.int .u64 (st : Int), .bool od, .string po, .string cp, .string cn, .string cc, .string ve] 85)
    have A2 := HA.out _ (HW.out _ b2)
    have k2 := HKP.out _ (HW.out _ b2)
    clear HG hb1 b2 HSH HPT HA HP0 HW HKP HG0
    go_wp2_with fail
    go_ret
    exact ⟨rfl, A2, k2⟩
  subst hz
  rw [if_pos rfl]
  go_enter Tryz.func129, Tryz.ntmps129
  go_wp2_with fail
  try rw [hW0]
  clear hW0
  try rw [hgg]
  refine HG.out.mono ?_
  rintro e w1 ⟨rfl, hb1⟩
  have b2 := hb1.alloc hb1.size (.cells #[.int .u64 (st : Int), .bool od, .string po, .string cp, .string cn, .string cc, .string ve] 85)
  have HG1 : Hid (g0 ≤ w1.heap.size) := Lib.hid (Nat.le_trans HG0.out hb1.size)
  have mV := heap_alloc_new w1 (.cells #[.int .u64 (st : Int), .bool od, .string po, .string cp, .string cn, .string cc, .string ve] 85)
  have hbV : Below w1.heap.size w1 (w1.alloc (.cells #[.int .u64 (st : Int), .bool od, .string po, .string cp, .string cn, .string cc, .string ve] 85)) := (Below.refl _ _).alloc (Nat.le_refl _) _
  have mV2 := mV
  have b3 := b2
  have HM2 := Lib.hid (And.intro mV2 b3)
  have d0 := blk_cell mV2 0
  have d1 := blk_cell mV2 1
  have d2 := blk_cell mV2 2
  have d3 := blk_cell mV2 3
  have d4 := blk_cell mV2 4
  have d5 := blk_cell mV2 5
  have d6 := blk_cell mV2 6
  have mp := HP0.out _ b3
  have p0 := blk_cell mp 0
  have p1 := blk_cell mp 1
  have HSH2 := Lib.hid (HSH.out _ (HW.out _ b3))
  clear HG hb1 b2 hbV mV mV2 b3 mp HSH
  go_wp2_with fail
  obtain ⟨mV2, b3⟩ := HM2.out
  clear HM2 d0 d1 d2 d3 d4 d5 d6 p0 p1
  generalize w1.alloc (.cells #[.int .u64 (st : Int), .bool od, .string po, .string cp, .string cn, .string cc, .string ve] 85) = w2 at *
  generalize w1.heap.size = gV at *
  refine HSH2.out.mono ?_
  rintro e w5 ⟨rfl, hb5⟩
  have b5 := b3.trans (hb5.mono b3.size)
  have m5 := (hb5.block _ (blk_lt mV2)).trans mV2
  clear HSH2 mV2 b3 hb5
  by_cases hz : E = 0
  · subst hz
    have c0 := blk_cell m5 0
    have c1 := blk_cell m5 1
    have c2 := blk_cell m5 2
    have c3 := blk_cell m5 3
    have c4 := blk_cell m5 4
    have c5 := blk_cell m5 5
    have c6 := blk_cell m5 6
    have f0 := blk_free m5 0
    have m6 : (w5.setCell ⟨gV, 0, none⟩ (.int .u64 (to : Int))).heap[gV]? = some (.cells #[.int .u64 (to : Int), .bool od, .string po, .string cp, .string cn, .string cc, .string ve] 85 (0, 0)) := by simpa using blk_set m5 0 (.int .u64 (to : Int))
    have q6 : Below g0 w (w5.setCell ⟨gV, 0, none⟩ (.int .u64 (to : Int))) := (HW.out _ b5).setCell (p := ⟨gV, 0, none⟩) HG1.out _
    have d0 := blk_cell m6 0
    have d1 := blk_cell m6 1
    have d2 := blk_cell m6 2
    have d3 := blk_cell m6 3
    have d4 := blk_cell m6 4
    have d5 := blk_cell m6 5
    have d6 := blk_cell m6 6
    have HPT2 := Lib.hid (HPT.out _ q6)
    have k6 := HKP.out _ q6
    clear m5 m6 q6 b5 HPT HA HP0 HW HKP
    go_wp2_with fail
    refine HPT2.out.mono ?_
    rintro e w7 ⟨rfl, A7, k7⟩
    have kf := k6.transX k7
    clear c0 d0 c1 d1 c2 d2 c3 d3 c4 d4 c5 d5 c6 d6 f0 HPT2
    go_wp2_with fail
    go_ret
    exact ⟨rfl, by first | exact A7 | (rw [if_pos rfl]; exact A7), kf⟩
  · have hneB : (E != 0) = true := by simpa using hz
    have A5 := HA.out _ (HW.out _ b5)
    have k5 := HKP.out _ (HW.out _ b5)
    clear HPT HA HP0 HW HKP m5 b5
    go_wp2_with fail
    go_ret
    exact ⟨rfl, by first | exact A5 | (rw [if_neg hz]; exact A5), k5⟩
set_option maxHeartbeats 4000000 in
theorem chcon_any {W w : World} {y : Lyr} {l : List Lyr} {R : List Pr} {k : Nat} (h : At W y l R k w) (hn : y.n + k < maxLen) (id : ByteArray) (h_id : id.size ≤ 1048576) (ht now : Nat) (h_ht : ht < 18446744073709551616) (h_now : now < 18446744073709551616)
    (n : Int) (A : Option Addr) (m c : Nat) (p : Pf) (hp : ∀ Z, Below w.heap.size w Z → ProofV Z Z.heap.size (.agg #[.int .i64 n, .slice A m c]) p)
    (fr : TypeId × Nat × Nat) (hk : w.heap[0]? = some (.cells kVals fr.1 fr.2)) :
    Calls Tryz.prog 88 #[.pointer (some ⟨y.b, 0, none⟩), .string id, .int .u64 (ht : Int), .agg #[.int .i64 n, .slice A m c], .int .u64 (now : Int)] w fun e w' => e = .returned (.int .i64 (chFolP R id 2 3 ht now p).1) ∧ At W y l (chFolP R id 2 3 ht now p).2 (k + 1) w' ∧ Kept w w' := by
  have q1 := heap_alloc_new w (.cells #[.int .i64 n, .slice A m c] 41)
  have ha0 : Below w.heap.size w (w.alloc (.cells #[.int .i64 n, .slice A m c] 41)) := (Below.refl _ _).alloc (Nat.le_refl _) _
  have hF := chfol_any (h.up ha0) hn id h_id 2 3 (by decide) ht now h_ht h_now n A m c p (fun Z2 hz2 => hp Z2 (below_chain ha0 ha0.size hz2)) fr ((ha0.block _ (blk_lt hk)).trans hk)
  have HF : Hid (Calls Tryz.prog 129 #[.pointer (some ⟨y.b, 0, none⟩), .string id, .int .u64 2, .int .u64 3, .int .u64 (ht : Int), .agg #[.int .i64 n, .slice A m c], .int .u64 (now : Int)] (w.alloc (.cells #[.int .i64 n, .slice A m c] 41)) fun e w' => e = .returned (.int .i64 (chFolP R id 2 3 ht now p).1) ∧ At W y l (chFolP R id 2 3 ht now p).2 (k + 1) w' ∧ Kept (w.alloc (.cells #[.int .i64 n, .slice A m c] 41)) w') := Lib.hid hF
  have k0 := Kept.of_belowX ha0
  have c0 := blk_cell q1 0
  have c1 := blk_cell q1 1
  generalize (chFolP R id 2 3 ht now p).1 = E at *
  generalize (chFolP R id 2 3 ht now p).2 = R2 at *
  clear h hn h_id hp hk q1 ha0 h_ht h_now hF
  go_enter Tryz.func88, Tryz.ntmps88
  go_wp2_with fail
  refine HF.out.mono ?_
  rintro e w1 ⟨rfl, A1, k1⟩
  have kf := k0.transX k1
  clear c0 c1 HF
  go_wp2_with fail
  go_ret
  exact ⟨rfl, A1, kf⟩
set_option maxHeartbeats 4000000 in
theorem chclc_any {W w : World} {y : Lyr} {l : List Lyr} {R : List Pr} {k : Nat} (h : At W y l R k w) (hn : y.n + k < maxLen) (id : ByteArray) (h_id : id.size ≤ 1048576) (ht now : Nat) (h_ht : ht < 18446744073709551616) (h_now : now < 18446744073709551616)
    (n : Int) (A : Option Addr) (m c : Nat) (p : Pf) (hp : ∀ Z, Below w.heap.size w Z → ProofV Z Z.heap.size (.agg #[.int .i64 n, .slice A m c]) p)
    (fr : TypeId × Nat × Nat) (hk : w.heap[0]? = some (.cells kVals fr.1 fr.2)) :
    Calls Tryz.prog 89 #[.pointer (some ⟨y.b, 0, none⟩), .string id, .int .u64 (ht : Int), .agg #[.int .i64 n, .slice A m c], .int .u64 (now : Int)] w fun e w' => e = .returned (.int .i64 (chFolP R id 3 4 ht now p).1) ∧ At W y l (chFolP R id 3 4 ht now p).2 (k + 1) w' ∧ Kept w w' := by
  have q1 := heap_alloc_new w (.cells #[.int .i64 n, .slice A m c] 41)
  have ha0 : Below w.heap.size w (w.alloc (.cells #[.int .i64 n, .slice A m c] 41)) := (Below.refl _ _).alloc (Nat.le_refl _) _
  have hF := chfol_any (h.up ha0) hn id h_id 3 4 (by decide) ht now h_ht h_now n A m c p (fun Z2 hz2 => hp Z2 (below_chain ha0 ha0.size hz2)) fr ((ha0.block _ (blk_lt hk)).trans hk)
  have HF : Hid (Calls Tryz.prog 129 #[.pointer (some ⟨y.b, 0, none⟩), .string id, .int .u64 3, .int .u64 4, .int .u64 (ht : Int), .agg #[.int .i64 n, .slice A m c], .int .u64 (now : Int)] (w.alloc (.cells #[.int .i64 n, .slice A m c] 41)) fun e w' => e = .returned (.int .i64 (chFolP R id 3 4 ht now p).1) ∧ At W y l (chFolP R id 3 4 ht now p).2 (k + 1) w' ∧ Kept (w.alloc (.cells #[.int .i64 n, .slice A m c] 41)) w') := Lib.hid hF
  have k0 := Kept.of_belowX ha0
  have c0 := blk_cell q1 0
  have c1 := blk_cell q1 1
  generalize (chFolP R id 3 4 ht now p).1 = E at *
  generalize (chFolP R id 3 4 ht now p).2 = R2 at *
  clear h hn h_id hp hk q1 ha0 h_ht h_now hF
  go_enter Tryz.func89, Tryz.ntmps89
  go_wp2_with fail
  refine HF.out.mono ?_
  rintro e w1 ⟨rfl, A1, k1⟩
  have kf := k0.transX k1
  clear c0 c1 HF
  go_wp2_with fail
  go_ret
  exact ⟨rfl, A1, kf⟩
set_option maxHeartbeats 8000000 in
theorem chclo_any {W w : World} {y : Lyr} {l : List Lyr} {R : List Pr} {k : Nat} (h : At W y l R k w) (hn : y.n + k < maxLen) (id : ByteArray) (h_id : id.size ≤ 1048576) :
    Calls Tryz.prog 85 #[.pointer (some ⟨y.b, 0, none⟩), .string id] w fun e w' => e = .returned (.int .i64 (chCloP R id).1) ∧ At W y l (chCloP R id).2 (k + 1) w' ∧ Kept w w' := by
  have hok : (inStV R id 3).ok := inStV_ok
  have hG := instate_any h id (by omega) 3
  have HA := Lib.hid (fun (Z : World) (hz : Below w.heap.size w Z) => (h.up hz).more (show k ≤ k + 1 by omega))
  unfold chCloP chCloE
  dsimp only
  obtain ⟨V, hV⟩ : ∃ v, v = inStV R id 3 := ⟨_, rfl⟩
  obtain ⟨O, hO⟩ : ∃ e, e = inStE R id 3 := ⟨_, rfl⟩
  rw [← hV, ← hO] at hG
  rw [← hV, ← hO]
  rw [← hV] at hok
  obtain ⟨st, od, po, cp, cn, cc, ve⟩ := V
  obtain ⟨o0, o1, o2, o3, o4, o5⟩ := hok
  unfold ChV.val at hG
  dsimp only at hG o0 o1 o2 o3 o4 o5 ⊢
  have HG := Lib.hid hG
  have HPT : Hid (od = true → ∀ Z, Below w.heap.size w Z → Calls Tryz.prog 127 #[.pointer (some ⟨y.b, 0, none⟩), .string id, .agg #[.int .u64 4, .bool true, .string po, .string cp, .string cn, .string cc, .string ve]] Z fun e w' => e = .returned (.tuple #[]) ∧ At W y l (setL (kChn id) (chB ⟨4, od, po, cp, cn, cc, ve⟩) R) (k + 1) w' ∧ Kept Z w') :=
    Lib.hid fun ho Z hz => by
      subst ho
      exact chput_any (h.up hz) hn id (by omega) ⟨4, true, po, cp, cn, cc, ve⟩ (by show 4 < _; decide) (by show ByteArray.size po ≤ _; unfold maxLen; omega) (by show ByteArray.size cp ≤ _; unfold maxLen; omega) (by show ByteArray.size cn ≤ _; unfold maxLen; omega) (by show ByteArray.size cc ≤ _; unfold maxLen; omega) (by show ByteArray.size ve ≤ _; unfold maxLen; omega)
  generalize setL (kChn id) (chB ⟨4, od, po, cp, cn, cc, ve⟩) R = R2 at *
  have HZ := Lib.hid (Below.refl w.heap.size w)
  clear h hn h_id hV hO hG o0 o1 o2 o3 o4 o5
  by_cases hz : O = 0
  rotate_left
  · rw [if_neg hz, if_neg hz]
    have hneB : (O != 0) = true := by simpa using hz
    go_enter Tryz.func85, Tryz.ntmps85
    go_wp2_with fail
    refine HG.out.mono ?_
    rintro e w1 ⟨rfl, hb1⟩
    have b2 := hb1.alloc hb1.size (.cells #[.int .u64 (st : Int), .bool od, .string po, .string cp, .string cn, .string cc, .string ve] 85)
    have A2 := HA.out _ b2
    have k2 := Kept.of_belowX b2
    clear HG hb1 b2 HPT HA
    go_wp2_with fail
    go_ret
    exact ⟨rfl, A2, k2⟩
  subst hz
  rw [if_pos rfl]
  cases od with
  | false =>
    simp only [Bool.false_eq_true, if_false, if_neg (show ¬ (122 : Int) = 0 by decide)]
    go_enter Tryz.func85, Tryz.ntmps85
    go_wp2_with fail
    refine HG.out.mono ?_
    rintro e w1 ⟨rfl, hb1⟩
    have b2 := hb1.alloc hb1.size (.cells #[.int .u64 (st : Int), .bool false, .string po, .string cp, .string cn, .string cc, .string ve] 85)
    have m2 := heap_alloc_new w1 (.cells #[.int .u64 (st : Int), .bool false, .string po, .string cp, .string cn, .string cc, .string ve] 85)
    have c1 := blk_cell m2 1
    have A2 := HA.out _ b2
    have k2 := Kept.of_belowX b2
    clear HG hb1 b2 HPT HA m2
    go_wp2_with fail
    go_ret
    exact ⟨rfl, A2, k2⟩
  | true =>
    rw [if_pos rfl, if_pos rfl]
    go_enter Tryz.func85, Tryz.ntmps85
    go_wp2_with fail
    refine HG.out.mono ?_
    rintro e w1 ⟨rfl, hb1⟩
    have b2 := hb1.alloc hb1.size (.cells #[.int .u64 (st : Int), .bool true, .string po, .string cp, .string cn, .string cc, .string ve] 85)
    have m2 := heap_alloc_new w1 (.cells #[.int .u64 (st : Int), .bool true, .string po, .string cp, .string cn, .string cc, .string ve] 85)
    have m6 := heap_alloc_new w1 (.cells #[.int .u64 4, .bool true, .string po, .string cp, .string cn, .string cc, .string ve] 85)
    have q6 := hb1.alloc hb1.size (.cells #[.int .u64 4, .bool true, .string po, .string cp, .string cn, .string cc, .string ve] 85)
    have c0 := blk_cell m2 0
    have c1 := blk_cell m2 1
    have f0 := blk_free m2 0
    have d0 := blk_cell m6 0
    have d1 := blk_cell m6 1
    have d2 := blk_cell m6 2
    have d3 := blk_cell m6 3
    have d4 := blk_cell m6 4
    have d5 := blk_cell m6 5
    have d6 := blk_cell m6 6
    have HPT2 := Lib.hid (HPT.out (by first | rfl | trivial) _ q6)
    have k6 := Kept.of_belowX q6
    clear HG hb1 b2 HPT HA m2 m6 q6
    go_wp2_with fail
    refine HPT2.out.mono ?_
    rintro e w7 ⟨rfl, A7, k7⟩
    have kf := k6.transX k7
    clear c0 c1 f0 d0 d1 d2 d3 d4 d5 d6 HPT2
    go_wp2_with fail
    go_ret
    exact ⟨rfl, A7, kf⟩
end Go.Proofs.YtmphegeiclgjbaaGreatDoor
