
/- The walks of a channel that is wanted in a state, and of a channel that is asked for. -/
import Derived.Test.YtlkkjnacolmmpaaDoorChnD
namespace Go.Proofs.YtlkkjnacolmmpaaDoor
set_option maxRecDepth 100000
open Go Go.RowKit
set_option linter.unusedVariables false

def inStE (R : List Pr) (id : ByteArray) (st : Nat) : Int := match getCh R id with
  | none => 120
  | some c => if c.st = st then 0 else 111
def inStV (R : List Pr) (id : ByteArray) (st : Nat) : ChV := if inStE R id st = 0 then (getCh R id).getD ChV.none else ChV.none
set_option maxHeartbeats 4000000 in
theorem instate_any {W w : World} {y : Lyr} {l : List Lyr} {R : List Pr} {k : Nat} (h : At W y l R k w) (id : ByteArray) (hv : id.size ≤ 100000000) (want : Nat) :
    Calls Tryd.prog 103 #[.pointer (some ⟨y.b, 0, none⟩), .string id, .int .u64 (want : Int)] w fun e w' => e = .returned (.tuple #[(inStV R id want).val, .int .i64 (inStE R id want)]) ∧ Below w.heap.size w w' := by
  have hk0 := heap_alloc_new w (.cells #[.int .u64 0, .bool false, .string ⟨#[]⟩, .string ⟨#[]⟩, .string ⟨#[]⟩, .string ⟨#[]⟩, .string ⟨#[]⟩] 46)
  have ha0 : Below w.heap.size w (w.alloc (.cells #[.int .u64 0, .bool false, .string ⟨#[]⟩, .string ⟨#[]⟩, .string ⟨#[]⟩, .string ⟨#[]⟩, .string ⟨#[]⟩] 46)) := (Below.refl _ _).alloc (Nat.le_refl _) _
  have HG := Lib.hid (chget_any (h.up ha0) id hv)
  generalize hW0 : w.alloc (.cells #[.int .u64 0, .bool false, .string ⟨#[]⟩, .string ⟨#[]⟩, .string ⟨#[]⟩, .string ⟨#[]⟩, .string ⟨#[]⟩] 46) = w0 at *
  obtain ⟨B, hB⟩ : ∃ B : Addr, B = ⟨y.b, 0, none⟩ := ⟨_, rfl⟩
  rw [← hB] at HG ⊢
  clear hB h
  obtain ⟨V, hV⟩ : ∃ V, V = (Value.tuple #[(inStV R id want).val, .int .i64 (inStE R id want)]) := ⟨_, rfl⟩
  rw [← hV]
  unfold inStV inStE at hV
  generalize getCh R id = o at *
  have HO := Lib.hid hV
  clear hV
  go_enter Tryd.func103, Tryd.ntmps103
  cases o with
  | none =>
    have hv : V = .tuple #[ChV.none.val, .int .i64 120] := by rw [HO.out]; rfl
    unfold chV ChV.val ChV.none at HG
    dsimp only at HG
    clear HO
    go_wp2_with fail
    try rw [hW0]
    clear hW0
    refine HG.out.mono ?_
    rintro e w1 ⟨rfl, hb1⟩
    have q1' := below_chain ha0 ha0.size hb1
    have k1 := (hb1.block _ (blk_lt hk0)).trans hk0
    have q2' := q1'.alloc q1'.size (.cells #[.int .u64 0, .bool false, .string ⟨#[]⟩, .string ⟨#[]⟩, .string ⟨#[]⟩, .string ⟨#[]⟩, .string ⟨#[]⟩] 46)
    replace k1 := (Below.heap_alloc w1 (.cells #[.int .u64 0, .bool false, .string ⟨#[]⟩, .string ⟨#[]⟩, .string ⟨#[]⟩, .string ⟨#[]⟩, .string ⟨#[]⟩] 46) _ (blk_lt k1)).trans k1
    clear HG hk0 ha0 hb1 q1'
    have r0 := blk_cell k1 0
    have q0 := blk_free k1 0
    have r1 := blk_cell k1 1
    have q1 := blk_free k1 1
    have r2 := blk_cell k1 2
    have q2 := blk_free k1 2
    have r3 := blk_cell k1 3
    have q3 := blk_free k1 3
    have r4 := blk_cell k1 4
    have q4 := blk_free k1 4
    have r5 := blk_cell k1 5
    have q5 := blk_free k1 5
    have r6 := blk_cell k1 6
    have q6 := blk_free k1 6
    have hk7 := set7P k1 (.int .u64 0) (.bool false) (.string ⟨#[]⟩) (.string ⟨#[]⟩) (.string ⟨#[]⟩) (.string ⟨#[]⟩) (.string ⟨#[]⟩)
    have hb7 := below_set7P q2' (Nat.le_refl _) (.int .u64 0) (.bool false) (.string ⟨#[]⟩) (.string ⟨#[]⟩) (.string ⟨#[]⟩) (.string ⟨#[]⟩) (.string ⟨#[]⟩)
    have HD := Lib.hid (And.intro (blk_cell hk7 0) (And.intro (blk_cell hk7 1) (And.intro (blk_cell hk7 2) (And.intro (blk_cell hk7 3) (And.intro (blk_cell hk7 4) (And.intro (blk_cell hk7 5) (blk_cell hk7 6)))))))
    have HVV := Lib.hid hv
    clear hk7 hv
    go_wp2_with fail
    obtain ⟨d0, d1, d2, d3, d4, d5, d6⟩ := HD.out
    refine bodyPost_ret (v := V) ?_ rfl ⟨rfl, hb7⟩
    rw [HVV.out]
    simp at d0 d1 d2 d3 d4 d5 d6
    simp [results, Tryd.results103, go_sem, d0, d1, d2, d3, d4, d5, d6, ChV.val, ChV.none]
  | some c =>
    obtain ⟨st, od, po, cp, cn, cc, ve⟩ := c
    unfold chV ChV.val at HG
    dsimp only at HG
    go_wp2_with fail
    try rw [hW0]
    clear hW0
    refine HG.out.mono ?_
    rintro e w1 ⟨rfl, hb1⟩
    have q1' := below_chain ha0 ha0.size hb1
    have k1 := (hb1.block _ (blk_lt hk0)).trans hk0
    have q2' := q1'.alloc q1'.size (.cells #[.int .u64 (st : Int), .bool od, .string po, .string cp, .string cn, .string cc, .string ve] 46)
    replace k1 := (Below.heap_alloc w1 (.cells #[.int .u64 (st : Int), .bool od, .string po, .string cp, .string cn, .string cc, .string ve] 46) _ (blk_lt k1)).trans k1
    have m1 := heap_alloc_new w1 (.cells #[.int .u64 (st : Int), .bool od, .string po, .string cp, .string cn, .string cc, .string ve] 46)
    clear HG hk0 ha0 hb1 q1'
    have r0 := blk_cell k1 0
    have q0 := blk_free k1 0
    have r1 := blk_cell k1 1
    have q1 := blk_free k1 1
    have r2 := blk_cell k1 2
    have q2 := blk_free k1 2
    have r3 := blk_cell k1 3
    have q3 := blk_free k1 3
    have r4 := blk_cell k1 4
    have q4 := blk_free k1 4
    have r5 := blk_cell k1 5
    have q5 := blk_free k1 5
    have r6 := blk_cell k1 6
    have q6 := blk_free k1 6
    have s0 := blk_cell m1 0
    have s1 := blk_cell m1 1
    have s2 := blk_cell m1 2
    have s3 := blk_cell m1 3
    have s4 := blk_cell m1 4
    have s5 := blk_cell m1 5
    have s6 := blk_cell m1 6
    by_cases h3 : st = want
    · have hv : V = .tuple #[.agg #[.int .u64 (st : Int), .bool od, .string po, .string cp, .string cn, .string cc, .string ve], .int .i64 0] := by
        rw [HO.out]
        simp only [if_pos h3]
        rfl
      have hne : ((st : Int) == (want : Int)) = true := by
        simp
        omega
      clear HO h3
      have hk7 := set7P k1 (.int .u64 (st : Int)) (.bool od) (.string po) (.string cp) (.string cn) (.string cc) (.string ve)
      have hb7 := below_set7P q2' (Nat.le_refl _) (.int .u64 (st : Int)) (.bool od) (.string po) (.string cp) (.string cn) (.string cc) (.string ve)
      have HD := Lib.hid (And.intro (blk_cell hk7 0) (And.intro (blk_cell hk7 1) (And.intro (blk_cell hk7 2) (And.intro (blk_cell hk7 3) (And.intro (blk_cell hk7 4) (And.intro (blk_cell hk7 5) (blk_cell hk7 6)))))))
      have HVV := Lib.hid hv
      clear hk7 hv
      go_wp2_with fail
      obtain ⟨d0, d1, d2, d3, d4, d5, d6⟩ := HD.out
      refine bodyPost_ret (v := V) ?_ rfl ⟨rfl, hb7⟩
      rw [HVV.out]
      simp at d0 d1 d2 d3 d4 d5 d6
      simp [results, Tryd.results103, go_sem, d0, d1, d2, d3, d4, d5, d6, ChV.val, ChV.none]
    · have hv : V = .tuple #[ChV.none.val, .int .i64 111] := by
        rw [HO.out]
        simp only [if_neg h3]
        rfl
      have hne : ((st : Int) == (want : Int)) = false := by
        simp
        omega
      clear HO h3
      have hk7 := set7P k1 (.int .u64 0) (.bool false) (.string ⟨#[]⟩) (.string ⟨#[]⟩) (.string ⟨#[]⟩) (.string ⟨#[]⟩) (.string ⟨#[]⟩)
      have hb7 := below_set7P q2' (Nat.le_refl _) (.int .u64 0) (.bool false) (.string ⟨#[]⟩) (.string ⟨#[]⟩) (.string ⟨#[]⟩) (.string ⟨#[]⟩) (.string ⟨#[]⟩)
      have HD := Lib.hid (And.intro (blk_cell hk7 0) (And.intro (blk_cell hk7 1) (And.intro (blk_cell hk7 2) (And.intro (blk_cell hk7 3) (And.intro (blk_cell hk7 4) (And.intro (blk_cell hk7 5) (blk_cell hk7 6)))))))
      have HVV := Lib.hid hv
      clear hk7 hv
      go_wp2_with fail
      obtain ⟨d0, d1, d2, d3, d4, d5, d6⟩ := HD.out
      refine bodyPost_ret (v := V) ?_ rfl ⟨rfl, hb7⟩
      rw [HVV.out]
      simp at d0 d1 d2 d3 d4 d5 d6
      simp [results, Tryd.results103, go_sem, d0, d1, d2, d3, d4, d5, d6, ChV.val, ChV.none]
set_option maxHeartbeats 4000000 in
theorem chclose_no {W w : World} {y : Lyr} {l : List Lyr} {R : List Pr} {k : Nat} (h : At W y l R k w) (id : ByteArray) (hv : id.size ≤ 100000000) (hne : inStE R id 3 ≠ 0) :
    Calls Tryd.prog 62 #[.pointer (some ⟨y.b, 0, none⟩), .string id] w fun e w' => e = .returned (.int .i64 (inStE R id 3)) ∧ Below w.heap.size w w' := by
  have HI := Lib.hid (instate_any h id hv 3)
  generalize inStV R id 3 = V at *
  generalize inStE R id 3 = E at *
  obtain ⟨st, od, po, cp, cn, cc, ve⟩ := V
  unfold ChV.val at HI
  dsimp only at HI
  have he : (E != 0) = true := by simpa using hne
  clear h hne
  go_enter Tryd.func62, Tryd.ntmps62
  go_wp2_with fail
  refine HI.out.mono ?_
  rintro e w1 ⟨rfl, hb1⟩
  have hb2 := hb1.alloc hb1.size (.cells #[.int .u64 (st : Int), .bool od, .string po, .string cp, .string cn, .string cc, .string ve] 46)
  go_wp2_with fail
  go_ret
  exact ⟨rfl, hb2⟩
theorem openE_zero {R : List Pr} {via : ByteArray} (h : openE R via = 0) : ∃ c, getCn R via = some c ∧ c.st = 3 := by
  unfold openE at h
  split at h
  · cases h
  · next c e =>
    refine ⟨c, e, ?_⟩
    split at h
    · assumption
    · cases h
set_option maxHeartbeats 4000000 in
theorem chbegin_any {W w : World} {y : Lyr} {l : List Lyr} {R : List Pr} {k : Nat} (h : At W y l R k w) (hn : y.n + k + 5 ≤ maxLen) (hs : numN R sChan < 10) (via po cp : ByteArray) (od : Bool) (ve : ByteArray) (h_via : via.size ≤ 100000000) (h_po : po.size ≤ 100000000) (h_cp : cp.size ≤ 100000000) (h_ve : ve.size ≤ 100000000) :
    Calls Tryd.prog 61 #[.pointer (some ⟨y.b, 0, none⟩), .string via, .string po, .string cp, .bool od, .string ve] w fun e w' => e = .returned (.tuple #[.string (beginI R via po cp od ve), .int .i64 (beginE R via po cp od ve)]) ∧ At W y l (beginR R via po cp od ve) (k + 5) w' ∧ Kept w w' := by
  have HO := Lib.hid (chopen_any h via h_via)
  have HF := Lib.hid (fun Z : World => form_any po cp od ve Z h_ve)
  have HM : Hid (∀ Z, Below w.heap.size w Z → Calls Tryd.prog 102 #[.pointer (some ⟨y.b, 0, none⟩), .agg #[.int .u64 1, .bool od, .string po, .string cp, .string via, .string ⟨#[]⟩, .string ve]] Z fun e w' => e = .returned (.string (newID R sChan)) ∧ At W y l (madeCh R ⟨1, od, po, cp, via, ⟨#[]⟩, ve⟩) (k + 5) w' ∧ Kept Z w') :=
    Lib.hid fun Z hz => chmade_any (h.up hz) hn hs ⟨1, od, po, cp, via, ⟨#[]⟩, ve⟩ (by show 1 < _; decide) (by show po.size ≤ _; unfold maxLen; omega) (by show cp.size ≤ _; unfold maxLen; omega) (by show via.size ≤ _; unfold maxLen; omega) (by show 0 ≤ _; omega) (by show ve.size ≤ _; unfold maxLen; omega)
  have HA := Lib.hid (fun (Z : World) (hz : Below w.heap.size w Z) => (h.up hz).more (show k ≤ k + 5 by omega))
  unfold beginI beginR beginE
  generalize madeCh R ⟨1, od, po, cp, via, ⟨#[]⟩, ve⟩ = R2 at *
  generalize newID R sChan = id at *
  generalize formM po cp od ve = F at *
  generalize openV R via = V at *
  generalize openE R via = E at *
  obtain ⟨st, cl, cc, ct⟩ := V
  unfold CnV.val at HO
  dsimp only at HO
  clear h hn hs h_via h_po h_cp h_ve
  have he0 : ∀ E : Int, E ≠ 0 → (E != 0) = true := fun E h => by simpa using h
  by_cases hE : E = 0
  · subst hE
    by_cases hF : F = 0
    · subst hF
      rw [if_pos rfl, if_pos rfl]
      simp only [if_true]
      clear he0
      go_enter Tryd.func61, Tryd.ntmps61
      go_wp2_with fail
      refine HO.out.mono ?_
      rintro e w1 ⟨rfl, hb1⟩
      have hb2 := hb1.alloc hb1.size (.cells #[.int .u64 (st : Int), .string cl, .string cc, .string ct] 34)
      clear hb1 HO
      go_wp2_with fail
      generalize w1.alloc (.cells #[.int .u64 (st : Int), .string cl, .string cc, .string ct] 34) = w2 at *
      refine (HF.out _).mono ?_
      rintro e w3 ⟨rfl, rfl⟩
      have HM2 := Lib.hid (HM.out _ hb2)
      have hk2 := Kept.of_belowX hb2
      clear HF HA HM hb2
      go_wp2_with fail
      refine HM2.out.mono ?_
      rintro e w4 ⟨rfl, A4, hk4⟩
      have hkf := hk2.transX hk4
      go_wp2_with fail
      go_ret2
      exact ⟨rfl, A4, hkf⟩
    · have he := he0 F hF
      simp only [if_true, if_neg hF]
      clear he0 hF
      go_enter Tryd.func61, Tryd.ntmps61
      go_wp2_with fail
      refine HO.out.mono ?_
      rintro e w1 ⟨rfl, hb1⟩
      have hb2 := hb1.alloc hb1.size (.cells #[.int .u64 (st : Int), .string cl, .string cc, .string ct] 34)
      clear hb1 HO
      go_wp2_with fail
      generalize w1.alloc (.cells #[.int .u64 (st : Int), .string cl, .string cc, .string ct] 34) = w2 at *
      refine (HF.out _).mono ?_
      rintro e w3 ⟨rfl, rfl⟩
      have A2 := HA.out _ hb2
      have hk2 := Kept.of_belowX hb2
      clear HF HA HM hb2
      go_wp2_with fail
      go_ret2
      exact ⟨rfl, A2, hk2⟩
  · have he := he0 E hE
    simp only [if_neg hE]
    clear he0 hE
    go_enter Tryd.func61, Tryd.ntmps61
    go_wp2_with fail
    refine HO.out.mono ?_
    rintro e w1 ⟨rfl, hb1⟩
    have hb2 := hb1.alloc hb1.size (.cells #[.int .u64 (st : Int), .string cl, .string cc, .string ct] 34)
    clear hb1 HO
    have A2 := HA.out _ hb2
    have hk2 := Kept.of_belowX hb2
    clear HF HA HM hb2
    go_wp2_with fail
    go_ret2
    exact ⟨rfl, A2, hk2⟩
end Go.Proofs.YtlkkjnacolmmpaaDoor
