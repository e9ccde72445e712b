
/- The walks of a channel put, of a connection that is wanted open. The walk of a new channel. The walks of a channel that is wanted in a state, and of a channel that is asked for. -/
import Derived.Test.YtlkbjhhbpmmamaaGreatDoorChnA0
namespace Go.Proofs.YtlkbjhhbpmmamaaGreatDoor
set_option maxRecDepth 100000
open Go Go.RowKit
set_option linter.unusedVariables false

set_option maxHeartbeats 4000000 in
theorem chput_any {W w : World} {y : Lyr} {l : List Lyr} {R : List Pr} {k : Nat} (h : At W y l R k w) (hn : y.n + k < maxLen) (id : ByteArray) (hid : id.size ≤ 100000000) (c : ChV) (h_st : c.st < 18446744073709551616) (h_po : c.po.size ≤ maxLen) (h_cp : c.cp.size ≤ maxLen) (h_cn : c.cn.size ≤ maxLen) (h_cc : c.cc.size ≤ maxLen) (h_ve : c.ve.size ≤ maxLen) :
    Calls Tryz.prog 175 #[.pointer (some ⟨y.b, 0, none⟩), .string id, c.val] w fun e w' => e = .returned (.tuple #[]) ∧ At W y l (setL (kChn id) (chB c) R) (k + 1) w' ∧ Kept w w' := by
  have z1 := kChn_size id
  have HB : Hid (∀ Z : World, Calls Tryz.prog 41 #[c.val] Z fun e w' => ∃ v', e = .returned v' ∧ Own w' Z.heap.size v' (chB c) ∧ Below Z.heap.size Z w') := Lib.hid fun Z => chbytes_any c Z h_st h_po h_cp h_cn h_cc h_ve
  have HK : Hid (∀ Z : World, Calls Tryz.prog 43 #[.string id] Z fun e w' => e = .returned (.string (kChn id)) ∧ Z = w') := Lib.hid fun Z => chkey_any id Z hid
  have hbox := heap_alloc_new w (.cells #[.int .u64 (c.st : Int), .bool c.od, .string c.po, .string c.cp, .string c.cn, .string c.cc, .string c.ve] 82)
  have ha0 : Below w.heap.size w (w.alloc (.cells #[.int .u64 (c.st : Int), .bool c.od, .string c.po, .string c.cp, .string c.cn, .string c.cc, .string c.ve] 82)) := (Below.refl _ _).alloc (Nat.le_refl _) _
  have A0 := h.up ha0
  generalize hW0 : w.alloc (.cells #[.int .u64 (c.st : Int), .bool c.od, .string c.po, .string c.cp, .string c.cn, .string c.cc, .string c.ve] 82) = W0 at *
  have hgl := blk_lt hbox
  have HS : Hid (∀ (Z : World) (hz : Below W0.heap.size W0 Z) (v : Value) (B : Nat) (ho : Own Z B v (chB c)), Calls Tryz.prog 20 #[.pointer (some ⟨y.b, 0, none⟩), .string (kChn id), v] Z fun e w' => (∃ c, e = .returned (.int .i64 c)) ∧ At W y l (setL (kChn id) (chB c) R) (k + 1) w' ∧ Kept Z w') :=
    Lib.hid fun Z hz v B ho => ((A0.up hz).set hn (kChn id) (by rw [z1]; unfold maxLen; omega) v _ ho.rd).mono fun e w' ⟨h1, h2, h3⟩ => ⟨⟨_, h1⟩, h2, h3⟩
  have hkW : Kept w W0 := Kept.of_belowX ha0
  generalize hgg : w.heap.size = g0 at *
  have HC : Hid (∀ Z, Kept W0 Z → Z.cell? ⟨g0, 0, none⟩ = some (.int .u64 (c.st : Int)) ∧ Z.cell? ⟨g0, 1, none⟩ = some (.bool c.od) ∧ Z.cell? ⟨g0, 2, none⟩ = some (.string c.po) ∧ Z.cell? ⟨g0, 3, none⟩ = some (.string c.cp) ∧ Z.cell? ⟨g0, 4, none⟩ = some (.string c.cn) ∧ Z.cell? ⟨g0, 5, none⟩ = some (.string c.cc) ∧ Z.cell? ⟨g0, 6, none⟩ = some (.string c.ve)) := Lib.hid fun Z hz => ⟨hz.cell (blk_cell hbox 0), hz.cell (blk_cell hbox 1), hz.cell (blk_cell hbox 2), hz.cell (blk_cell hbox 3), hz.cell (blk_cell hbox 4), hz.cell (blk_cell hbox 5), hz.cell (blk_cell hbox 6)⟩
  have hkD : Below W0.heap.size W0 W0.drew := Below.drew (Below.refl _ _)
  obtain ⟨st, od, po, cp, cn, cc, ve⟩ := c
  unfold ChV.val at *
  dsimp only at *
  generalize setL (kChn id) (chB ⟨st, od, po, cp, cn, cc, ve⟩) R = R2 at *
  generalize chB ⟨st, od, po, cp, cn, cc, ve⟩ = L1 at *
  generalize kChn id = key at *
  clear hbox h A0 z1
  go_enter Tryz.func175, Tryz.ntmps175
  go_wp2_with fail
  try rw [hW0]
  clear hW0
  try rw [hgg]
  go_region_held_law (fun Z => Z.cell? ⟨g0, 0, none⟩ = some (.int .u64 (st : Int)) ∧ Z.cell? ⟨g0, 1, none⟩ = some (.bool od) ∧ Z.cell? ⟨g0, 2, none⟩ = some (.string po) ∧ Z.cell? ⟨g0, 3, none⟩ = some (.string cp) ∧ Z.cell? ⟨g0, 4, none⟩ = some (.string cn) ∧ Z.cell? ⟨g0, 5, none⟩ = some (.string cc) ∧ Z.cell? ⟨g0, 6, none⟩ = some (.string ve))
    (with_reducible first | exact HC.out _ hkF | exact HC.out _ (Kept.of_belowX hk1) | exact HC.out _ (Kept.of_belowX hkD))
    ((first
      | (go_at_call 43; refine (HK.out _).mono ?_; rintro e w9 ⟨rfl, rfl⟩)
      | (go_at_call 41; refine (HB.out _).mono ?_; rintro e w1 ⟨v1, rfl, ho1, hb1⟩; have hk1 := below_chain hkD hkD.size hb1)
      | (go_at_call 20; refine (HS.out _ hk1 _ _ ho1).mono ?_; rintro e w2 ⟨⟨c2, rfl⟩, AS, hkS⟩; have hkF := (Kept.of_belowX hk1).transX hkS)))
  all_goals
    have hfin := hkW.transX hkF
    go_wp2_with fail
    go_end0
    exact ⟨rfl, AS, hfin⟩
def CnV.cells (v : CnV) : Array Value := #[.int .u64 (v.st : Int), .string v.cl, .string v.cc, .string v.ct]
/-- a connection that is wanted open -/
def openV (R : List Pr) (via : ByteArray) : CnV := if openE R via = 0 then (getCn R via).getD CnV.none else CnV.none
set_option maxHeartbeats 4000000 in
theorem chopen_any {W w : World} {y : Lyr} {l : List Lyr} {R : List Pr} {k : Nat} (h : At W y l R k w) (via : ByteArray) (hv : via.size ≤ 100000000) :
    Calls Tryz.prog 118 #[.pointer (some ⟨y.b, 0, none⟩), .string via] w fun e w' => e = .returned (.tuple #[(openV R via).val, .int .i64 (openE R via)]) ∧ Below w.heap.size w w' := by
  have hk0 := heap_alloc_new w (.cells #[.int .u64 0, .string ⟨#[]⟩, .string ⟨#[]⟩, .string ⟨#[]⟩] 85)
  have ha0 : Below w.heap.size w (w.alloc (.cells #[.int .u64 0, .string ⟨#[]⟩, .string ⟨#[]⟩, .string ⟨#[]⟩] 85)) := (Below.refl _ _).alloc (Nat.le_refl _) _
  have HG := Lib.hid (cnget_any (h.up ha0) via hv)
  generalize hW0 : w.alloc (.cells #[.int .u64 0, .string ⟨#[]⟩, .string ⟨#[]⟩, .string ⟨#[]⟩] 85) = w0 at *
  obtain ⟨B, hB⟩ : ∃ B : Addr, B = ⟨y.b, 0, none⟩ := ⟨_, rfl⟩
  rw [← hB] at HG ⊢
  clear hB h
  obtain ⟨V, hV⟩ : ∃ V, V = (Value.tuple #[(openV R via).val, .int .i64 (openE R via)]) := ⟨_, rfl⟩
  rw [← hV]
  unfold openV openE at hV
  generalize getCn R via = o at *
  have HO := Lib.hid hV
  clear hV
  go_enter Tryz.func118, Tryz.ntmps118
  cases o with
  | none =>
    have hv : V = .tuple #[CnV.none.val, .int .i64 110] := by rw [HO.out]; rfl
    unfold cnV CnV.val CnV.none at HG
    dsimp only at HG
    clear HO
    go_wp2_with fail
    try rw [hW0]
    clear hW0
    refine HG.out.mono ?_
    rintro e w1 ⟨rfl, hb1⟩
    have q1' := below_chain ha0 ha0.size hb1
    have k1 := (hb1.block _ (blk_lt hk0)).trans hk0
    have q2' := q1'.alloc q1'.size (.cells #[.int .u64 0, .string ⟨#[]⟩, .string ⟨#[]⟩, .string ⟨#[]⟩] 85)
    replace k1 := (Below.heap_alloc w1 (.cells #[.int .u64 0, .string ⟨#[]⟩, .string ⟨#[]⟩, .string ⟨#[]⟩] 85) _ (blk_lt k1)).trans k1
    clear HG hk0 ha0 hb1 q1'
    have r0 := blk_cell k1 0
    have q0 := blk_free k1 0
    have r1 := blk_cell k1 1
    have q1 := blk_free k1 1
    have r2 := blk_cell k1 2
    have q2 := blk_free k1 2
    have r3 := blk_cell k1 3
    have q3 := blk_free k1 3
    have hk7 := set4P k1 (.int .u64 0) (.string ⟨#[]⟩) (.string ⟨#[]⟩) (.string ⟨#[]⟩)
    have hb7 := below_set4P q2' (Nat.le_refl _) (.int .u64 0) (.string ⟨#[]⟩) (.string ⟨#[]⟩) (.string ⟨#[]⟩)
    have HD := Lib.hid (And.intro (blk_cell hk7 0) (And.intro (blk_cell hk7 1) (And.intro (blk_cell hk7 2) (blk_cell hk7 3))))
    have HVV := Lib.hid hv
    clear hk7 hv
    go_wp2_with fail
    obtain ⟨d0, d1, d2, d3⟩ := HD.out
    refine bodyPost_ret (v := V) ?_ rfl ⟨rfl, hb7⟩
    rw [HVV.out]
    simp at d0 d1 d2 d3
    simp [results, Tryz.results118, go_sem, d0, d1, d2, d3, CnV.val, CnV.none]
  | some c =>
    obtain ⟨st, cl, cc, ct⟩ := c
    unfold cnV CnV.val at HG
    dsimp only at HG
    go_wp2_with fail
    try rw [hW0]
    clear hW0
    refine HG.out.mono ?_
    rintro e w1 ⟨rfl, hb1⟩
    have q1' := below_chain ha0 ha0.size hb1
    have k1 := (hb1.block _ (blk_lt hk0)).trans hk0
    have q2' := q1'.alloc q1'.size (.cells #[.int .u64 (st : Int), .string cl, .string cc, .string ct] 85)
    replace k1 := (Below.heap_alloc w1 (.cells #[.int .u64 (st : Int), .string cl, .string cc, .string ct] 85) _ (blk_lt k1)).trans k1
    have m1 := heap_alloc_new w1 (.cells #[.int .u64 (st : Int), .string cl, .string cc, .string ct] 85)
    clear HG hk0 ha0 hb1 q1'
    have r0 := blk_cell k1 0
    have q0 := blk_free k1 0
    have r1 := blk_cell k1 1
    have q1 := blk_free k1 1
    have r2 := blk_cell k1 2
    have q2 := blk_free k1 2
    have r3 := blk_cell k1 3
    have q3 := blk_free k1 3
    have s0 := blk_cell m1 0
    have s1 := blk_cell m1 1
    have s2 := blk_cell m1 2
    have s3 := blk_cell m1 3
    by_cases h3 : st = 3
    · have hv : V = .tuple #[.agg #[.int .u64 (st : Int), .string cl, .string cc, .string ct], .int .i64 0] := by
        rw [HO.out]
        simp only [if_pos h3]
        rfl
      have hne : ((st : Int) == 3) = true := by
        simp
        omega
      clear HO h3
      have hk7 := set4P k1 (.int .u64 (st : Int)) (.string cl) (.string cc) (.string ct)
      have hb7 := below_set4P q2' (Nat.le_refl _) (.int .u64 (st : Int)) (.string cl) (.string cc) (.string ct)
      have HD := Lib.hid (And.intro (blk_cell hk7 0) (And.intro (blk_cell hk7 1) (And.intro (blk_cell hk7 2) (blk_cell hk7 3))))
      have HVV := Lib.hid hv
      clear hk7 hv
      go_wp2_with fail
      obtain ⟨d0, d1, d2, d3⟩ := HD.out
      refine bodyPost_ret (v := V) ?_ rfl ⟨rfl, hb7⟩
      rw [HVV.out]
      simp at d0 d1 d2 d3
      simp [results, Tryz.results118, go_sem, d0, d1, d2, d3, CnV.val, CnV.none]
    · have hv : V = .tuple #[CnV.none.val, .int .i64 111] := by
        rw [HO.out]
        simp only [if_neg h3]
        rfl
      have hne : ((st : Int) == 3) = false := by
        simp
        omega
      clear HO h3
      have hk7 := set4P k1 (.int .u64 0) (.string ⟨#[]⟩) (.string ⟨#[]⟩) (.string ⟨#[]⟩)
      have hb7 := below_set4P q2' (Nat.le_refl _) (.int .u64 0) (.string ⟨#[]⟩) (.string ⟨#[]⟩) (.string ⟨#[]⟩)
      have HD := Lib.hid (And.intro (blk_cell hk7 0) (And.intro (blk_cell hk7 1) (And.intro (blk_cell hk7 2) (blk_cell hk7 3))))
      have HVV := Lib.hid hv
      clear hk7 hv
      go_wp2_with fail
      obtain ⟨d0, d1, d2, d3⟩ := HD.out
      refine bodyPost_ret (v := V) ?_ rfl ⟨rfl, hb7⟩
      rw [HVV.out]
      simp at d0 d1 d2 d3
      simp [results, Tryz.results118, go_sem, d0, d1, d2, d3, CnV.val, CnV.none]
end Go.Proofs.YtlkbjhhbpmmamaaGreatDoor
namespace Go.Proofs.YtlkbjhhbpmmamaaGreatDoor
set_option maxRecDepth 100000
open Go Go.RowKit
set_option linter.unusedVariables false

theorem chnext_any (a : ByteArray) (w : World) (ha : a.size ≤ 100000000) : Calls Tryz.prog 45 #[.string a] w fun e w' => e = .returned (.string (nextP ++ a)) ∧ w = w' := by
  have s1 : nextP.size = 9 := rfl
  have h1 := fun W => txt_add nextP a (by rw [s1]; omega) W
  unfold nextP at *
  go_enter Tryz.func45, Tryz.ntmps45
  go_wp2
  go_ret
  exact ⟨rfl, rfl⟩
theorem chrecv_any (a : ByteArray) (w : World) (ha : a.size ≤ 100000000) : Calls Tryz.prog 47 #[.string a] w fun e w' => e = .returned (.string (recvP ++ a)) ∧ w = w' := by
  have s1 : recvP.size = 9 := rfl
  have h1 := fun W => txt_add recvP a (by rw [s1]; omega) W
  unfold recvP at *
  go_enter Tryz.func47, Tryz.ntmps47
  go_wp2
  go_ret
  exact ⟨rfl, rfl⟩
theorem chacked_any (a : ByteArray) (w : World) (ha : a.size ≤ 100000000) : Calls Tryz.prog 49 #[.string a] w fun e w' => e = .returned (.string (ackedP ++ a)) ∧ w = w' := by
  have s1 : ackedP.size = 10 := rfl
  have h1 := fun W => txt_add ackedP a (by rw [s1]; omega) W
  unfold ackedP at *
  go_enter Tryz.func49, Tryz.ntmps49
  go_wp2
  go_ret
  exact ⟨rfl, rfl⟩

/-- the numbers that a channel begins with -/
def oneR (ks : List ByteArray) (R : List Pr) : List Pr := ks.foldl (fun R s => setL s (be 1 8) R) R
theorem oneR_next (ks : List ByteArray) (R : List Pr) (j : Nat) (h : j < ks.length) : oneR (ks.take (j + 1)) R = setL ks[j] (be 1 8) (oneR (ks.take j) R) := by
  unfold oneR
  rw [← List.take_append_getElem h, List.foldl_append]
  rfl
theorem numN_small (R : List Pr) (kind : ByteArray) (h : numN R kind < 10) : (newID R kind).size = kind.size + 2 := by
  unfold newID
  rw [ByteArray.size_append, ByteArray.size_append, dash_size, decB_size _ h]
set_option maxHeartbeats 8000000 in
theorem chmade_any {W w : World} {y : Lyr} {l : List Lyr} {R : List Pr} {k : Nat} (h : At W y l R k w) (hn : y.n + k + 5 ≤ maxLen) (hs : numN R sChan < 10) (c : ChV) (h_st : c.st < 18446744073709551616) (h_po : c.po.size ≤ maxLen) (h_cp : c.cp.size ≤ maxLen) (h_cn : c.cn.size ≤ maxLen) (h_cc : c.cc.size ≤ maxLen) (h_ve : c.ve.size ≤ maxLen) :
    Calls Tryz.prog 120 #[.pointer (some ⟨y.b, 0, none⟩), c.val] w fun e w' => e = .returned (.string (newID R sChan)) ∧ At W y l (madeCh R c) (k + 5) w' ∧ Kept w w' := by
  have hbox := heap_alloc_new w (.cells #[.int .u64 (c.st : Int), .bool c.od, .string c.po, .string c.cp, .string c.cn, .string c.cc, .string c.ve] 82)
  have ha0 : Below w.heap.size w (w.alloc (.cells #[.int .u64 (c.st : Int), .bool c.od, .string c.po, .string c.cp, .string c.cn, .string c.cc, .string c.ve] 82)) := (Below.refl _ _).alloc (Nat.le_refl _) _
  have A0 := h.up ha0
  generalize hW0 : w.alloc (.cells #[.int .u64 (c.st : Int), .bool c.od, .string c.po, .string c.cp, .string c.cn, .string c.cc, .string c.ve] 82) = W0 at *
  have HN := Lib.hid (newid_any A0 (by omega) sChan (by decide +kernel) hs)
  have zid := numN_small R sChan hs
  have z4 : sChan.size = 4 := rfl
  have hid : (newID R sChan).size ≤ 100 := by omega
  have HP : Hid (∀ Z, At W y l (newR R sChan) (k + 1) Z → Calls Tryz.prog 175 #[.pointer (some ⟨y.b, 0, none⟩), .string (newID R sChan), c.val] Z fun e w' => e = .returned (.tuple #[]) ∧ At W y l (setL (kChn (newID R sChan)) (chB c) (newR R sChan)) (k + 1 + 1) w' ∧ Kept Z w') :=
    Lib.hid fun Z hz => chput_any hz (by omega) _ (by omega) c h_st h_po h_cp h_cn h_cc h_ve
  have hmade : madeCh R c = oneR [nextP ++ newID R sChan, recvP ++ newID R sChan, ackedP ++ newID R sChan] (setL (kChn (newID R sChan)) (chB c) (newR R sChan)) := rfl
  rw [hmade]
  generalize setL (kChn (newID R sChan)) (chB c) (newR R sChan) = R2 at *
  generalize newR R sChan = R1 at *
  generalize newID R sChan = id at *
  have HK1 := Lib.hid (fun Z : World => chnext_any id Z (by omega))
  have HK2 := Lib.hid (fun Z : World => chrecv_any id Z (by omega))
  have HK3 := Lib.hid (fun Z : World => chacked_any id Z (by omega))
  have y1 : (nextP ++ id).size ≤ maxLen := by rw [ByteArray.size_append, show nextP.size = 9 from rfl]; unfold maxLen; omega
  have y2 : (recvP ++ id).size ≤ maxLen := by rw [ByteArray.size_append, show recvP.size = 9 from rfl]; unfold maxLen; omega
  have y3 : (ackedP ++ id).size ≤ maxLen := by rw [ByteArray.size_append, show ackedP.size = 10 from rfl]; unfold maxLen; omega
  generalize nextP ++ id = k1 at *
  generalize recvP ++ id = k2 at *
  generalize ackedP ++ id = k3 at *
  have HNW : Hid (∀ Z : World, Calls Tryz.prog 67 #[.slice none 0 0, .int .u64 1] Z fun e w' => ∃ v', e = .returned v' ∧ Own w' Z.heap.size v' (be 1 8) ∧ Below Z.heap.size Z w') := Lib.hid fun Z => by
    have := N_any (.slice none 0 0) [] 1 Z (Rd.nil _ _) (by decide) (by simp)
    rwa [List.nil_append] at this
  have HSZ := Lib.hid hn
  have HY := Lib.hid (And.intro y1 (And.intro y2 y3))
  have hkW : Kept w W0 := Kept.of_belowX ha0
  obtain ⟨st, od, po, cp, cn, cc, ve⟩ := c
  unfold ChV.val at *
  dsimp only at *
  have HBX := Lib.hid hbox
  clear hmade hid zid z4 hs h A0 hn y1 y2 y3 ha0 h_st h_po h_cp h_cn h_cc h_ve hbox
  unfold sChan at HN
  go_enter Tryz.func120, Tryz.ntmps120
  go_wp2_with fail
  try rw [hW0]
  clear hW0
  refine HN.out.mono ?_
  rintro e w1 ⟨rfl, A1, hk1⟩
  have HP1 := Lib.hid (HP.out _ A1)
  have b0 := hk1.cell (blk_cell HBX.out 0)
  have b1 := hk1.cell (blk_cell HBX.out 1)
  have b2 := hk1.cell (blk_cell HBX.out 2)
  have b3 := hk1.cell (blk_cell HBX.out 3)
  have b4 := hk1.cell (blk_cell HBX.out 4)
  have b5 := hk1.cell (blk_cell HBX.out 5)
  have b6 := hk1.cell (blk_cell HBX.out 6)
  have hkk := hkW.transX hk1
  clear HN HP A1 hkW hk1
  go_wp2_with fail
  refine HP1.out.mono ?_
  rintro e w2 ⟨rfl, A2, hk2⟩
  have hkk2 := hkk.transX hk2
  clear HP1 b0 b1 b2 b3 b4 b5 b6 hkk hk2 HBX
  go_wp2_with fail
  refine (HK1.out _).mono ?_
  rintro e w3 ⟨rfl, rfl⟩
  go_wp2_with fail
  refine (HK2.out _).mono ?_
  rintro e w3 ⟨rfl, rfl⟩
  go_wp2_with fail
  refine (HK3.out _).mono ?_
  rintro e w3 ⟨rfl, rfl⟩
  clear HK1 HK2 HK3
  have hrow := heap_alloc_new w2 (.cells #[.string k1, .string k2, .string k3] 9)
  have hb3 : Below w2.heap.size w2 (w2.alloc (.cells #[.string k1, .string k2, .string k3] 9)) := (Below.refl _ _).alloc (Nat.le_refl _) _
  have A3 := A2.up hb3
  have hkk3 := hkk2.transX (Kept.of_belowX hb3)
  clear A2 hkk2 hb3
  go_wp2_with fail
  generalize w2.alloc (.cells #[.string k1, .string k2, .string k3] 9) = w3 at *
  generalize w2.heap.size = gs at *
  have HR : Hid (∀ Z, Kept w3 Z → ∀ j (hj : j < 3), Z.cell? ⟨gs, j, none⟩ = some (.string ([k1, k2, k3][j])) ∧ ([k1, k2, k3][j]).size ≤ maxLen) := Lib.hid fun Z hz j hj => by
    obtain ⟨y1, y2, y3⟩ := HY.out
    match j, hj with
    | 0, _ => exact ⟨hz.cell (blk_cell hrow 0), y1⟩
    | 1, _ => exact ⟨hz.cell (blk_cell hrow 1), y2⟩
    | 2, _ => exact ⟨hz.cell (blk_cell hrow 2), y3⟩
  clear hrow HY
  have HA3 := Lib.hid (And.intro A3 hkk3)
  clear A3 hkk3
  go_loopw [7, 22] (fun _ i Z => ∃ j : Nat, j ≤ 3 ∧ i = .int .i64 (j : Int) ∧ Hid (At W y l (oneR ([k1, k2, k3].take j) R2) (k + 1 + 1 + j) Z ∧ Kept w3 Z))
    (fun _ i _ => 3 - (intOf i).toNat)
  case atStart => exact ⟨0, by omega, rfl, Lib.hid ⟨HA3.out.1, Kept.refl _⟩⟩
  case round =>
    obtain ⟨j, hj, rfl, HX⟩ := hrel
    by_cases hlt : j < 3
    · obtain ⟨c1, hsz⟩ := HR.out _ HX.out.2 j hlt
      have hst := oneR_next [k1, k2, k3] R2 j hlt
      have i1 : (0 : Int) ≤ (j : Int) := by omega
      have i2 : (j : Int) < 3 := by omega
      have HS := Lib.hid (fun (Z : World) (hz : Below wr.heap.size wr Z) (v : Value) (B : Nat) (ho : Own Z B v (be 1 8)) => (HX.out.1.up hz).set (by have := HSZ.out; omega) ([k1, k2, k3][j]) hsz v _ ho.rd)
      generalize [k1, k2, k3][j] = key at *
      have HST := Lib.hid hst
      clear hst hsz
      go_wp2_with fail
      refine (HNW.out _).mono ?_
      rintro e w4 ⟨v4, rfl, ho4, hb4⟩
      have HS4 : Hid (Calls Tryz.prog 20 #[.pointer (some ⟨y.b, 0, none⟩), .string key, v4] w4 fun e w' => (∃ c, e = .returned (.int .i64 c)) ∧ At W y l (setL key (be 1 8) (oneR ([k1, k2, k3].take j) R2)) (k + 1 + 1 + j + 1) w' ∧ Kept w4 w') :=
        Lib.hid ((HS.out _ hb4 v4 _ ho4).mono fun e w' ⟨h1, h2, h3⟩ => ⟨⟨_, h1⟩, h2, h3⟩)
      obtain ⟨A4, c4, rfl⟩ := ho4.form
      generalize (be 1 8).length = n4 at *
      clear HS ho4
      go_wp2_with fail
      refine HS4.out.mono ?_
      rintro e w5 ⟨⟨c5, rfl⟩, A5, hk5⟩
      have hkr := (HX.out.2.transX (Kept.of_belowX hb4)).transX hk5
      go_wp2_with fail
      refine ⟨⟨j + 1, by omega, ?_, Lib.hid ⟨?_, hkr⟩⟩, ?_⟩
      · simp
      · rw [HST.out]; exact A5
      · simp [intOf]; omega
    · have i2 : ¬ (j : Int) < 3 := by omega
      obtain rfl : j = 3 := by omega
      have hk5 := HX.out.2
      have A5 : At W y l (oneR [k1, k2, k3] R2) (k + 5) wr := HX.out.1
      have hkf := HA3.out.2.transX hk5
      clear HX HR HNW
      go_wp2_with fail
      go_ret
      exact ⟨rfl, A5, hkf⟩
end Go.Proofs.YtlkbjhhbpmmamaaGreatDoor
namespace Go.Proofs.YtlkbjhhbpmmamaaGreatDoor
set_option maxRecDepth 100000
open Go Go.RowKit
set_option linter.unusedVariables false

def inStE (R : List Pr) (id : ByteArray) (st : Nat) : Int := match getCh R id with
  | none => 120
  | some c => if c.st = st then 0 else 111
def inStV (R : List Pr) (id : ByteArray) (st : Nat) : ChV := if inStE R id st = 0 then (getCh R id).getD ChV.none else ChV.none
set_option maxHeartbeats 4000000 in
theorem instate_any {W w : World} {y : Lyr} {l : List Lyr} {R : List Pr} {k : Nat} (h : At W y l R k w) (id : ByteArray) (hv : id.size ≤ 100000000) (want : Nat) :
    Calls Tryz.prog 174 #[.pointer (some ⟨y.b, 0, none⟩), .string id, .int .u64 (want : Int)] w fun e w' => e = .returned (.tuple #[(inStV R id want).val, .int .i64 (inStE R id want)]) ∧ Below w.heap.size w w' := by
  have hk0 := heap_alloc_new w (.cells #[.int .u64 0, .bool false, .string ⟨#[]⟩, .string ⟨#[]⟩, .string ⟨#[]⟩, .string ⟨#[]⟩, .string ⟨#[]⟩] 82)
  have ha0 : Below w.heap.size w (w.alloc (.cells #[.int .u64 0, .bool false, .string ⟨#[]⟩, .string ⟨#[]⟩, .string ⟨#[]⟩, .string ⟨#[]⟩, .string ⟨#[]⟩] 82)) := (Below.refl _ _).alloc (Nat.le_refl _) _
  have HG := Lib.hid (chget_any (h.up ha0) id hv)
  generalize hW0 : w.alloc (.cells #[.int .u64 0, .bool false, .string ⟨#[]⟩, .string ⟨#[]⟩, .string ⟨#[]⟩, .string ⟨#[]⟩, .string ⟨#[]⟩] 82) = w0 at *
  obtain ⟨B, hB⟩ : ∃ B : Addr, B = ⟨y.b, 0, none⟩ := ⟨_, rfl⟩
  rw [← hB] at HG ⊢
  clear hB h
  obtain ⟨V, hV⟩ : ∃ V, V = (Value.tuple #[(inStV R id want).val, .int .i64 (inStE R id want)]) := ⟨_, rfl⟩
  rw [← hV]
  unfold inStV inStE at hV
  generalize getCh R id = o at *
  have HO := Lib.hid hV
  clear hV
  go_enter Tryz.func174, Tryz.ntmps174
  cases o with
  | none =>
    have hv : V = .tuple #[ChV.none.val, .int .i64 120] := by rw [HO.out]; rfl
    unfold chV ChV.val ChV.none at HG
    dsimp only at HG
    clear HO
    go_wp2_with fail
    try rw [hW0]
    clear hW0
    refine HG.out.mono ?_
    rintro e w1 ⟨rfl, hb1⟩
    have q1' := below_chain ha0 ha0.size hb1
    have k1 := (hb1.block _ (blk_lt hk0)).trans hk0
    have q2' := q1'.alloc q1'.size (.cells #[.int .u64 0, .bool false, .string ⟨#[]⟩, .string ⟨#[]⟩, .string ⟨#[]⟩, .string ⟨#[]⟩, .string ⟨#[]⟩] 82)
    replace k1 := (Below.heap_alloc w1 (.cells #[.int .u64 0, .bool false, .string ⟨#[]⟩, .string ⟨#[]⟩, .string ⟨#[]⟩, .string ⟨#[]⟩, .string ⟨#[]⟩] 82) _ (blk_lt k1)).trans k1
    clear HG hk0 ha0 hb1 q1'
    have r0 := blk_cell k1 0
    have q0 := blk_free k1 0
    have r1 := blk_cell k1 1
    have q1 := blk_free k1 1
    have r2 := blk_cell k1 2
    have q2 := blk_free k1 2
    have r3 := blk_cell k1 3
    have q3 := blk_free k1 3
    have r4 := blk_cell k1 4
    have q4 := blk_free k1 4
    have r5 := blk_cell k1 5
    have q5 := blk_free k1 5
    have r6 := blk_cell k1 6
    have q6 := blk_free k1 6
    have hk7 := set7P k1 (.int .u64 0) (.bool false) (.string ⟨#[]⟩) (.string ⟨#[]⟩) (.string ⟨#[]⟩) (.string ⟨#[]⟩) (.string ⟨#[]⟩)
    have hb7 := below_set7P q2' (Nat.le_refl _) (.int .u64 0) (.bool false) (.string ⟨#[]⟩) (.string ⟨#[]⟩) (.string ⟨#[]⟩) (.string ⟨#[]⟩) (.string ⟨#[]⟩)
    have HD := Lib.hid (And.intro (blk_cell hk7 0) (And.intro (blk_cell hk7 1) (And.intro (blk_cell hk7 2) (And.intro (blk_cell hk7 3) (And.intro (blk_cell hk7 4) (And.intro (blk_cell hk7 5) (blk_cell hk7 6)))))))
    have HVV := Lib.hid hv
    clear hk7 hv
    go_wp2_with fail
    obtain ⟨d0, d1, d2, d3, d4, d5, d6⟩ := HD.out
    refine bodyPost_ret (v := V) ?_ rfl ⟨rfl, hb7⟩
    rw [HVV.out]
    simp at d0 d1 d2 d3 d4 d5 d6
    simp [results, Tryz.results174, go_sem, d0, d1, d2, d3, d4, d5, d6, ChV.val, ChV.none]
  | some c =>
    obtain ⟨st, od, po, cp, cn, cc, ve⟩ := c
    unfold chV ChV.val at HG
    dsimp only at HG
    go_wp2_with fail
    try rw [hW0]
    clear hW0
    refine HG.out.mono ?_
    rintro e w1 ⟨rfl, hb1⟩
    have q1' := below_chain ha0 ha0.size hb1
    have k1 := (hb1.block _ (blk_lt hk0)).trans hk0
    have q2' := q1'.alloc q1'.size (.cells #[.int .u64 (st : Int), .bool od, .string po, .string cp, .string cn, .string cc, .string ve] 82)
    replace k1 := (Below.heap_alloc w1 (.cells #[.int .u64 (st : Int), .bool od, .string po, .string cp, .string cn, .string cc, .string ve] 82) _ (blk_lt k1)).trans k1
    have m1 := heap_alloc_new w1 (.cells #[.int .u64 (st : Int), .bool od, .string po, .string cp, .string cn, .string cc, .string ve] 82)
    clear HG hk0 ha0 hb1 q1'
    have r0 := blk_cell k1 0
    have q0 := blk_free k1 0
    have r1 := blk_cell k1 1
    have q1 := blk_free k1 1
    have r2 := blk_cell k1 2
    have q2 := blk_free k1 2
    have r3 := blk_cell k1 3
    have q3 := blk_free k1 3
    have r4 := blk_cell k1 4
    have q4 := blk_free k1 4
    have r5 := blk_cell k1 5
    have q5 := blk_free k1 5
    have r6 := blk_cell k1 6
    have q6 := blk_free k1 6
    have s0 := blk_cell m1 0
    have s1 := blk_cell m1 1
    have s2 := blk_cell m1 2
    have s3 := blk_cell m1 3
    have s4 := blk_cell m1 4
    have s5 := blk_cell m1 5
    have s6 := blk_cell m1 6
    by_cases h3 : st = want
    · have hv : V = .tuple #[.agg #[.int .u64 (st : Int), .bool od, .string po, .string cp, .string cn, .string cc, .string ve], .int .i64 0] := by
        rw [HO.out]
        simp only [if_pos h3]
        rfl
      have hne : ((st : Int) == (want : Int)) = true := by
        simp
        omega
      clear HO h3
      have hk7 := set7P k1 (.int .u64 (st : Int)) (.bool od) (.string po) (.string cp) (.string cn) (.string cc) (.string ve)
      have hb7 := below_set7P q2' (Nat.le_refl _) (.int .u64 (st : Int)) (.bool od) (.string po) (.string cp) (.string cn) (.string cc) (.string ve)
      have HD := Lib.hid (And.intro (blk_cell hk7 0) (And.intro (blk_cell hk7 1) (And.intro (blk_cell hk7 2) (And.intro (blk_cell hk7 3) (And.intro (blk_cell hk7 4) (And.intro (blk_cell hk7 5) (blk_cell hk7 6)))))))
      have HVV := Lib.hid hv
      clear hk7 hv
      go_wp2_with fail
      obtain ⟨d0, d1, d2, d3, d4, d5, d6⟩ := HD.out
      refine bodyPost_ret (v := V) ?_ rfl ⟨rfl, hb7⟩
      rw [HVV.out]
      simp at d0 d1 d2 d3 d4 d5 d6
      simp [results, Tryz.results174, go_sem, d0, d1, d2, d3, d4, d5, d6, ChV.val, ChV.none]
    · have hv : V = .tuple #[ChV.none.val, .int .i64 111] := by
        rw [HO.out]
        simp only [if_neg h3]
        rfl
      have hne : ((st : Int) == (want : Int)) = false := by
        simp
        omega
      clear HO h3
      have hk7 := set7P k1 (.int .u64 0) (.bool false) (.string ⟨#[]⟩) (.string ⟨#[]⟩) (.string ⟨#[]⟩) (.string ⟨#[]⟩) (.string ⟨#[]⟩)
      have hb7 := below_set7P q2' (Nat.le_refl _) (.int .u64 0) (.bool false) (.string ⟨#[]⟩) (.string ⟨#[]⟩) (.string ⟨#[]⟩) (.string ⟨#[]⟩) (.string ⟨#[]⟩)
      have HD := Lib.hid (And.intro (blk_cell hk7 0) (And.intro (blk_cell hk7 1) (And.intro (blk_cell hk7 2) (And.intro (blk_cell hk7 3) (And.intro (blk_cell hk7 4) (And.intro (blk_cell hk7 5) (blk_cell hk7 6)))))))
      have HVV := Lib.hid hv
      clear hk7 hv
      go_wp2_with fail
      obtain ⟨d0, d1, d2, d3, d4, d5, d6⟩ := HD.out
      refine bodyPost_ret (v := V) ?_ rfl ⟨rfl, hb7⟩
      rw [HVV.out]
      simp at d0 d1 d2 d3 d4 d5 d6
      simp [results, Tryz.results174, go_sem, d0, d1, d2, d3, d4, d5, d6, ChV.val, ChV.none]
set_option maxHeartbeats 4000000 in
theorem chclose_no {W w : World} {y : Lyr} {l : List Lyr} {R : List Pr} {k : Nat} (h : At W y l R k w) (id : ByteArray) (hv : id.size ≤ 100000000) (hne : inStE R id 3 ≠ 0) :
    Calls Tryz.prog 117 #[.pointer (some ⟨y.b, 0, none⟩), .string id] w fun e w' => e = .returned (.int .i64 (inStE R id 3)) ∧ Below w.heap.size w w' := by
  have HI := Lib.hid (instate_any h id hv 3)
  generalize inStV R id 3 = V at *
  generalize inStE R id 3 = E at *
  obtain ⟨st, od, po, cp, cn, cc, ve⟩ := V
  unfold ChV.val at HI
  dsimp only at HI
  have he : (E != 0) = true := by simpa using hne
  clear h hne
  go_enter Tryz.func117, Tryz.ntmps117
  go_wp2_with fail
  refine HI.out.mono ?_
  rintro e w1 ⟨rfl, hb1⟩
  have hb2 := hb1.alloc hb1.size (.cells #[.int .u64 (st : Int), .bool od, .string po, .string cp, .string cn, .string cc, .string ve] 82)
  go_wp2_with fail
  go_ret
  exact ⟨rfl, hb2⟩
theorem openE_zero {R : List Pr} {via : ByteArray} (h : openE R via = 0) : ∃ c, getCn R via = some c ∧ c.st = 3 := by
  unfold openE at h
  split at h
  · cases h
  · next c e =>
    refine ⟨c, e, ?_⟩
    split at h
    · assumption
    · cases h
set_option maxHeartbeats 4000000 in
theorem chbegin_any {W w : World} {y : Lyr} {l : List Lyr} {R : List Pr} {k : Nat} (h : At W y l R k w) (hn : y.n + k + 5 ≤ maxLen) (hs : numN R sChan < 10) (via po cp : ByteArray) (od : Bool) (ve : ByteArray) (h_via : via.size ≤ 100000000) (h_po : po.size ≤ 100000000) (h_cp : cp.size ≤ 100000000) (h_ve : ve.size ≤ 100000000) :
    Calls Tryz.prog 37 #[.pointer (some ⟨y.b, 0, none⟩), .string via, .string po, .string cp, .bool od, .string ve] w fun e w' => e = .returned (.tuple #[.string (beginI R via po cp od ve), .int .i64 (beginE R via po cp od ve)]) ∧ At W y l (beginR R via po cp od ve) (k + 5) w' ∧ Kept w w' := by
  have HO := Lib.hid (chopen_any h via h_via)
  have HF := Lib.hid (fun Z : World => form_any po cp od ve Z h_ve)
  have HM : Hid (∀ Z, Below w.heap.size w Z → Calls Tryz.prog 120 #[.pointer (some ⟨y.b, 0, none⟩), .agg #[.int .u64 1, .bool od, .string po, .string cp, .string via, .string ⟨#[]⟩, .string ve]] Z fun e w' => e = .returned (.string (newID R sChan)) ∧ At W y l (madeCh R ⟨1, od, po, cp, via, ⟨#[]⟩, ve⟩) (k + 5) w' ∧ Kept Z w') :=
    Lib.hid fun Z hz => chmade_any (h.up hz) hn hs ⟨1, od, po, cp, via, ⟨#[]⟩, ve⟩ (by show 1 < _; decide) (by show po.size ≤ _; unfold maxLen; omega) (by show cp.size ≤ _; unfold maxLen; omega) (by show via.size ≤ _; unfold maxLen; omega) (by show 0 ≤ _; omega) (by show ve.size ≤ _; unfold maxLen; omega)
  have HA := Lib.hid (fun (Z : World) (hz : Below w.heap.size w Z) => (h.up hz).more (show k ≤ k + 5 by omega))
  unfold beginI beginR beginE
  generalize madeCh R ⟨1, od, po, cp, via, ⟨#[]⟩, ve⟩ = R2 at *
  generalize newID R sChan = id at *
  generalize formM po cp od ve = F at *
  generalize openV R via = V at *
  generalize openE R via = E at *
  obtain ⟨st, cl, cc, ct⟩ := V
  unfold CnV.val at HO
  dsimp only at HO
  clear h hn hs h_via h_po h_cp h_ve
  have he0 : ∀ E : Int, E ≠ 0 → (E != 0) = true := fun E h => by simpa using h
  by_cases hE : E = 0
  · subst hE
    by_cases hF : F = 0
    · subst hF
      rw [if_pos rfl, if_pos rfl]
      simp only [if_true]
      clear he0
      go_enter Tryz.func37, Tryz.ntmps37
      go_wp2_with fail
      refine HO.out.mono ?_
      rintro e w1 ⟨rfl, hb1⟩
      have hb2 := hb1.alloc hb1.size (.cells #[.int .u64 (st : Int), .string cl, .string cc, .string ct] 85)
      clear hb1 HO
      go_wp2_with fail
      generalize w1.alloc (.cells #[.int .u64 (st : Int), .string cl, .string cc, .string ct] 85) = w2 at *
      refine (HF.out _).mono ?_
      rintro e w3 ⟨rfl, rfl⟩
      have HM2 := Lib.hid (HM.out _ hb2)
      have hk2 := Kept.of_belowX hb2
      clear HF HA HM hb2
      go_wp2_with fail
      refine HM2.out.mono ?_
      rintro e w4 ⟨rfl, A4, hk4⟩
      have hkf := hk2.transX hk4
      go_wp2_with fail
      go_ret2
      exact ⟨rfl, A4, hkf⟩
    · have he := he0 F hF
      simp only [if_true, if_neg hF]
      clear he0 hF
      go_enter Tryz.func37, Tryz.ntmps37
      go_wp2_with fail
      refine HO.out.mono ?_
      rintro e w1 ⟨rfl, hb1⟩
      have hb2 := hb1.alloc hb1.size (.cells #[.int .u64 (st : Int), .string cl, .string cc, .string ct] 85)
      clear hb1 HO
      go_wp2_with fail
      generalize w1.alloc (.cells #[.int .u64 (st : Int), .string cl, .string cc, .string ct] 85) = w2 at *
      refine (HF.out _).mono ?_
      rintro e w3 ⟨rfl, rfl⟩
      have A2 := HA.out _ hb2
      have hk2 := Kept.of_belowX hb2
      clear HF HA HM hb2
      go_wp2_with fail
      go_ret2
      exact ⟨rfl, A2, hk2⟩
  · have he := he0 E hE
    simp only [if_neg hE]
    clear he0 hE
    go_enter Tryz.func37, Tryz.ntmps37
    go_wp2_with fail
    refine HO.out.mono ?_
    rintro e w1 ⟨rfl, hb1⟩
    have hb2 := hb1.alloc hb1.size (.cells #[.int .u64 (st : Int), .string cl, .string cc, .string ct] 85)
    clear hb1 HO
    have A2 := HA.out _ hb2
    have hk2 := Kept.of_belowX hb2
    clear HF HA HM hb2
    go_wp2_with fail
    go_ret2
    exact ⟨rfl, A2, hk2⟩
end Go.Proofs.YtlkbjhhbpmmamaaGreatDoor
