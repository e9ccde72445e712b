
/- The walks of a channel put, of a connection that is wanted open. -/
import Derived.Test.YtlkkjnacolmmpaaDoorChnB
namespace Go.Proofs.YtlkkjnacolmmpaaDoor
set_option maxRecDepth 100000
open Go Go.RowKit
set_option linter.unusedVariables false

set_option maxHeartbeats 4000000 in
theorem chput_any {W w : World} {y : Lyr} {l : List Lyr} {R : List Pr} {k : Nat} (h : At W y l R k w) (hn : y.n + k < maxLen) (id : ByteArray) (hid : id.size ≤ 100000000) (c : ChV) (h_st : c.st < 18446744073709551616) (h_po : c.po.size ≤ maxLen) (h_cp : c.cp.size ≤ maxLen) (h_cn : c.cn.size ≤ maxLen) (h_cc : c.cc.size ≤ maxLen) (h_ve : c.ve.size ≤ maxLen) :
    Calls Tryd.prog 104 #[.pointer (some ⟨y.b, 0, none⟩), .string id, c.val] w fun e w' => e = .returned (.tuple #[]) ∧ At W y l (setL (kChn id) (chB c) R) (k + 1) w' ∧ Kept w w' := by
  have z1 := kChn_size id
  have HB : Hid (∀ Z : World, Calls Tryd.prog 122 #[c.val] Z fun e w' => ∃ v', e = .returned v' ∧ Own w' Z.heap.size v' (chB c) ∧ Below Z.heap.size Z w') := Lib.hid fun Z => chbytes_any c Z h_st h_po h_cp h_cn h_cc h_ve
  have HK : Hid (∀ Z : World, Calls Tryd.prog 63 #[.string id] Z fun e w' => e = .returned (.string (kChn id)) ∧ Z = w') := Lib.hid fun Z => chkey_any id Z hid
  have hbox := heap_alloc_new w (.cells #[.int .u64 (c.st : Int), .bool c.od, .string c.po, .string c.cp, .string c.cn, .string c.cc, .string c.ve] 46)
  have ha0 : Below w.heap.size w (w.alloc (.cells #[.int .u64 (c.st : Int), .bool c.od, .string c.po, .string c.cp, .string c.cn, .string c.cc, .string c.ve] 46)) := (Below.refl _ _).alloc (Nat.le_refl _) _
  have A0 := h.up ha0
  generalize hW0 : w.alloc (.cells #[.int .u64 (c.st : Int), .bool c.od, .string c.po, .string c.cp, .string c.cn, .string c.cc, .string c.ve] 46) = W0 at *
  have hgl := blk_lt hbox
  have HS : Hid (∀ (Z : World) (hz : Below W0.heap.size W0 Z) (v : Value) (B : Nat) (ho : Own Z B v (chB c)), Calls Tryd.prog 40 #[.pointer (some ⟨y.b, 0, none⟩), .string (kChn id), v] Z fun e w' => (∃ c, e = .returned (.int .i64 c)) ∧ At W y l (setL (kChn id) (chB c) R) (k + 1) w' ∧ Kept Z w') :=
    Lib.hid fun Z hz v B ho => ((A0.up hz).set hn (kChn id) (by rw [z1]; unfold maxLen; omega) v _ ho.rd).mono fun e w' ⟨h1, h2, h3⟩ => ⟨⟨_, h1⟩, h2, h3⟩
  have hkW : Kept w W0 := Kept.of_belowX ha0
  generalize hgg : w.heap.size = g0 at *
  have HC : Hid (∀ Z, Kept W0 Z → Z.cell? ⟨g0, 0, none⟩ = some (.int .u64 (c.st : Int)) ∧ Z.cell? ⟨g0, 1, none⟩ = some (.bool c.od) ∧ Z.cell? ⟨g0, 2, none⟩ = some (.string c.po) ∧ Z.cell? ⟨g0, 3, none⟩ = some (.string c.cp) ∧ Z.cell? ⟨g0, 4, none⟩ = some (.string c.cn) ∧ Z.cell? ⟨g0, 5, none⟩ = some (.string c.cc) ∧ Z.cell? ⟨g0, 6, none⟩ = some (.string c.ve)) := Lib.hid fun Z hz => ⟨hz.cell (blk_cell hbox 0), hz.cell (blk_cell hbox 1), hz.cell (blk_cell hbox 2), hz.cell (blk_cell hbox 3), hz.cell (blk_cell hbox 4), hz.cell (blk_cell hbox 5), hz.cell (blk_cell hbox 6)⟩
  have hkD : Below W0.heap.size W0 W0.drew := Below.drew (Below.refl _ _)
  obtain ⟨st, od, po, cp, cn, cc, ve⟩ := c
  unfold ChV.val at *
  dsimp only at *
  generalize setL (kChn id) (chB ⟨st, od, po, cp, cn, cc, ve⟩) R = R2 at *
  generalize chB ⟨st, od, po, cp, cn, cc, ve⟩ = L1 at *
  generalize kChn id = key at *
  clear hbox h A0 z1
  go_enter Tryd.func104, Tryd.ntmps104
  go_wp2_with fail
  try rw [hW0]
  clear hW0
  try rw [hgg]
  go_region_held_law (fun Z => Z.cell? ⟨g0, 0, none⟩ = some (.int .u64 (st : Int)) ∧ Z.cell? ⟨g0, 1, none⟩ = some (.bool od) ∧ Z.cell? ⟨g0, 2, none⟩ = some (.string po) ∧ Z.cell? ⟨g0, 3, none⟩ = some (.string cp) ∧ Z.cell? ⟨g0, 4, none⟩ = some (.string cn) ∧ Z.cell? ⟨g0, 5, none⟩ = some (.string cc) ∧ Z.cell? ⟨g0, 6, none⟩ = some (.string ve))
    (with_reducible first | exact HC.out _ hkF | exact HC.out _ (Kept.of_belowX hk1) | exact HC.out _ (Kept.of_belowX hkD))
    ((first
      | (go_at_call 63; refine (HK.out _).mono ?_; rintro e w9 ⟨rfl, rfl⟩)
      | (go_at_call 122; refine (HB.out _).mono ?_; rintro e w1 ⟨v1, rfl, ho1, hb1⟩; have hk1 := below_chain hkD hkD.size hb1)
      | (go_at_call 40; refine (HS.out _ hk1 _ _ ho1).mono ?_; rintro e w2 ⟨⟨c2, rfl⟩, AS, hkS⟩; have hkF := (Kept.of_belowX hk1).transX hkS)))
  all_goals
    have hfin := hkW.transX hkF
    go_wp2_with fail
    go_end0
    exact ⟨rfl, AS, hfin⟩
def CnV.cells (v : CnV) : Array Value := #[.int .u64 (v.st : Int), .string v.cl, .string v.cc, .string v.ct]
/-- a connection that is wanted open -/
def openV (R : List Pr) (via : ByteArray) : CnV := if openE R via = 0 then (getCn R via).getD CnV.none else CnV.none
set_option maxHeartbeats 4000000 in
theorem chopen_any {W w : World} {y : Lyr} {l : List Lyr} {R : List Pr} {k : Nat} (h : At W y l R k w) (via : ByteArray) (hv : via.size ≤ 100000000) :
    Calls Tryd.prog 100 #[.pointer (some ⟨y.b, 0, none⟩), .string via] w fun e w' => e = .returned (.tuple #[(openV R via).val, .int .i64 (openE R via)]) ∧ Below w.heap.size w w' := by
  have hk0 := heap_alloc_new w (.cells #[.int .u64 0, .string ⟨#[]⟩, .string ⟨#[]⟩, .string ⟨#[]⟩] 34)
  have ha0 : Below w.heap.size w (w.alloc (.cells #[.int .u64 0, .string ⟨#[]⟩, .string ⟨#[]⟩, .string ⟨#[]⟩] 34)) := (Below.refl _ _).alloc (Nat.le_refl _) _
  have HG := Lib.hid (cnget_any (h.up ha0) via hv)
  generalize hW0 : w.alloc (.cells #[.int .u64 0, .string ⟨#[]⟩, .string ⟨#[]⟩, .string ⟨#[]⟩] 34) = w0 at *
  obtain ⟨B, hB⟩ : ∃ B : Addr, B = ⟨y.b, 0, none⟩ := ⟨_, rfl⟩
  rw [← hB] at HG ⊢
  clear hB h
  obtain ⟨V, hV⟩ : ∃ V, V = (Value.tuple #[(openV R via).val, .int .i64 (openE R via)]) := ⟨_, rfl⟩
  rw [← hV]
  unfold openV openE at hV
  generalize getCn R via = o at *
  have HO := Lib.hid hV
  clear hV
  go_enter Tryd.func100, Tryd.ntmps100
  cases o with
  | none =>
    have hv : V = .tuple #[CnV.none.val, .int .i64 110] := by rw [HO.out]; rfl
    unfold cnV CnV.val CnV.none at HG
    dsimp only at HG
    clear HO
    go_wp2_with fail
    try rw [hW0]
    clear hW0
    refine HG.out.mono ?_
    rintro e w1 ⟨rfl, hb1⟩
    have q1' := below_chain ha0 ha0.size hb1
    have k1 := (hb1.block _ (blk_lt hk0)).trans hk0
    have q2' := q1'.alloc q1'.size (.cells #[.int .u64 0, .string ⟨#[]⟩, .string ⟨#[]⟩, .string ⟨#[]⟩] 34)
    replace k1 := (Below.heap_alloc w1 (.cells #[.int .u64 0, .string ⟨#[]⟩, .string ⟨#[]⟩, .string ⟨#[]⟩] 34) _ (blk_lt k1)).trans k1
    clear HG hk0 ha0 hb1 q1'
    have r0 := blk_cell k1 0
    have q0 := blk_free k1 0
    have r1 := blk_cell k1 1
    have q1 := blk_free k1 1
    have r2 := blk_cell k1 2
    have q2 := blk_free k1 2
    have r3 := blk_cell k1 3
    have q3 := blk_free k1 3
    have hk7 := set4P k1 (.int .u64 0) (.string ⟨#[]⟩) (.string ⟨#[]⟩) (.string ⟨#[]⟩)
    have hb7 := below_set4P q2' (Nat.le_refl _) (.int .u64 0) (.string ⟨#[]⟩) (.string ⟨#[]⟩) (.string ⟨#[]⟩)
    have HD := Lib.hid (And.intro (blk_cell hk7 0) (And.intro (blk_cell hk7 1) (And.intro (blk_cell hk7 2) (blk_cell hk7 3))))
    have HVV := Lib.hid hv
    clear hk7 hv
    go_wp2_with fail
    obtain ⟨d0, d1, d2, d3⟩ := HD.out
    refine bodyPost_ret (v := V) ?_ rfl ⟨rfl, hb7⟩
    rw [HVV.out]
    simp at d0 d1 d2 d3
    simp [results, Tryd.results100, go_sem, d0, d1, d2, d3, CnV.val, CnV.none]
  | some c =>
    obtain ⟨st, cl, cc, ct⟩ := c
    unfold cnV CnV.val at HG
    dsimp only at HG
    go_wp2_with fail
    try rw [hW0]
    clear hW0
    refine HG.out.mono ?_
    rintro e w1 ⟨rfl, hb1⟩
    have q1' := below_chain ha0 ha0.size hb1
    have k1 := (hb1.block _ (blk_lt hk0)).trans hk0
    have q2' := q1'.alloc q1'.size (.cells #[.int .u64 (st : Int), .string cl, .string cc, .string ct] 34)
    replace k1 := (Below.heap_alloc w1 (.cells #[.int .u64 (st : Int), .string cl, .string cc, .string ct] 34) _ (blk_lt k1)).trans k1
    have m1 := heap_alloc_new w1 (.cells #[.int .u64 (st : Int), .string cl, .string cc, .string ct] 34)
    clear HG hk0 ha0 hb1 q1'
    have r0 := blk_cell k1 0
    have q0 := blk_free k1 0
    have r1 := blk_cell k1 1
    have q1 := blk_free k1 1
    have r2 := blk_cell k1 2
    have q2 := blk_free k1 2
    have r3 := blk_cell k1 3
    have q3 := blk_free k1 3
    have s0 := blk_cell m1 0
    have s1 := blk_cell m1 1
    have s2 := blk_cell m1 2
    have s3 := blk_cell m1 3
    by_cases h3 : st = 3
    · have hv : V = .tuple #[.agg #[.int .u64 (st : Int), .string cl, .string cc, .string ct], .int .i64 0] := by
        rw [HO.out]
        simp only [if_pos h3]
        rfl
      have hne : ((st : Int) == 3) = true := by
        simp
        omega
      clear HO h3
      have hk7 := set4P k1 (.int .u64 (st : Int)) (.string cl) (.string cc) (.string ct)
      have hb7 := below_set4P q2' (Nat.le_refl _) (.int .u64 (st : Int)) (.string cl) (.string cc) (.string ct)
      have HD := Lib.hid (And.intro (blk_cell hk7 0) (And.intro (blk_cell hk7 1) (And.intro (blk_cell hk7 2) (blk_cell hk7 3))))
      have HVV := Lib.hid hv
      clear hk7 hv
      go_wp2_with fail
      obtain ⟨d0, d1, d2, d3⟩ := HD.out
      refine bodyPost_ret (v := V) ?_ rfl ⟨rfl, hb7⟩
      rw [HVV.out]
      simp at d0 d1 d2 d3
      simp [results, Tryd.results100, go_sem, d0, d1, d2, d3, CnV.val, CnV.none]
    · have hv : V = .tuple #[CnV.none.val, .int .i64 111] := by
        rw [HO.out]
        simp only [if_neg h3]
        rfl
      have hne : ((st : Int) == 3) = false := by
        simp
        omega
      clear HO h3
      have hk7 := set4P k1 (.int .u64 0) (.string ⟨#[]⟩) (.string ⟨#[]⟩) (.string ⟨#[]⟩)
      have hb7 := below_set4P q2' (Nat.le_refl _) (.int .u64 0) (.string ⟨#[]⟩) (.string ⟨#[]⟩) (.string ⟨#[]⟩)
      have HD := Lib.hid (And.intro (blk_cell hk7 0) (And.intro (blk_cell hk7 1) (And.intro (blk_cell hk7 2) (blk_cell hk7 3))))
      have HVV := Lib.hid hv
      clear hk7 hv
      go_wp2_with fail
      obtain ⟨d0, d1, d2, d3⟩ := HD.out
      refine bodyPost_ret (v := V) ?_ rfl ⟨rfl, hb7⟩
      rw [HVV.out]
      simp at d0 d1 d2 d3
      simp [results, Tryd.results100, go_sem, d0, d1, d2, d3, CnV.val, CnV.none]
end Go.Proofs.YtlkkjnacolmmpaaDoor
