/- Texts joined: CnS, CnR, ChM, CnD. -/
import Derived.Test.YtmphegeiclgjbaaGreatDoorM19
import Derived.Deep.MidRow
namespace Go.Proofs.YtmphegeiclgjbaaGreatDoor
set_option maxRecDepth 100000
open Go Go.RowKit
set_option linter.unusedVariables false

set_option maxHeartbeats 8000000 in
theorem cnmadeU_any {W w : World} {y : Lyr} {l : List Lyr} {R : List Pr} {k : Nat} (h : At W y l R k w) (hn : y.n + k + 2 ≤ maxLen) (hT : Pows w) (o : CnV) (h_st : o.st < 18446744073709551616) (h_cl : o.cl.size ≤ maxLen) (h_c2 : o.cc.size ≤ maxLen) (h_ct : o.ct.size ≤ maxLen) :
    Calls Tryz.prog 120 #[.pointer (some ⟨y.b, 0, none⟩), o.val] w fun e w' => e = .returned (.string (newID R sConn)) ∧ At W y l (madeCn R o) (k + 2) w' ∧ Kept w w' := by
  have zid := newID_len R sConn
  have z4 : sConn.size = 4 := rfl
  have hid : (newID R sConn).size ≤ 100 := by omega
  have HB : Hid (∀ Z : World, Calls Tryz.prog 35 #[o.val] Z fun e w' => ∃ v', e = .returned v' ∧ Own w' Z.heap.size v' (cnB o) ∧ Below Z.heap.size Z w') := Lib.hid fun Z => cnbytes_any o Z h_st h_cl h_c2 h_ct
  have HK : Hid (∀ Z : World, Calls Tryz.prog 34 #[.string (newID R sConn)] Z fun e w' => e = .returned (.string (kConn (newID R sConn))) ∧ Z = w') := Lib.hid fun Z => cnkey_any _ Z (by omega)
  obtain ⟨st, cl, cc, ct⟩ := o
  unfold CnV.val at *
  dsimp only at HB ⊢
  unfold madeCn
  have hbox := heap_alloc_new w (.cells #[.int .u64 (st : Int), .string cl, .string cc, .string ct] 78)
  have ha0 : Below w.heap.size w (w.alloc (.cells #[.int .u64 (st : Int), .string cl, .string cc, .string ct] 78)) := (Below.refl _ _).alloc (Nat.le_refl _) _
  have A0 := h.up ha0
  generalize hW0 : w.alloc (.cells #[.int .u64 (st : Int), .string cl, .string cc, .string ct] 78) = W0 at *
  have HN := Lib.hid (newidU_any A0 (by omega) sConn (by decide +kernel) (hT.kept (Kept.of_belowX ha0)))
  have HS : Hid (∀ (Z : World) (hz : At W y l (newR R sConn) (k + 1) Z) (v : Value) (B : Nat) (ho : Own Z B v (cnB ⟨st, cl, cc, ct⟩)), Calls Tryz.prog 93 #[.pointer (some ⟨y.b, 0, none⟩), .string (kConn (newID R sConn)), v] Z fun e w' => (∃ c, e = .returned (.int .i64 c)) ∧ At W y l (setL (kConn (newID R sConn)) (cnB ⟨st, cl, cc, ct⟩) (newR R sConn)) (k + 1 + 1) w' ∧ Kept Z w') :=
    Lib.hid fun Z hz v B ho => (hz.set (by omega) (kConn (newID R sConn)) (by rw [kConn_size]; unfold maxLen; omega) v _ ho.rd).mono fun e w' ⟨h1, h2, h3⟩ => ⟨⟨_, h1⟩, h2, h3⟩
  have hkW : Kept w W0 := Kept.of_belowX ha0
  generalize setL (kConn (newID R sConn)) (cnB ⟨st, cl, cc, ct⟩) (newR R sConn) = R2 at *
  generalize cnB ⟨st, cl, cc, ct⟩ = L1 at *
  generalize newR R sConn = R1 at *
  generalize kConn (newID R sConn) = key at *
  generalize newID R sConn = ID at *
  unfold sConn at HN
  generalize hgg : w.heap.size = g0 at *
  have HC : Hid (∀ Z, Kept W0 Z → Z.cell? ⟨g0, 0, none⟩ = some (.int .u64 (st : Int)) ∧ Z.cell? ⟨g0, 1, none⟩ = some (.string cl) ∧ Z.cell? ⟨g0, 2, none⟩ = some (.string cc) ∧ Z.cell? ⟨g0, 3, none⟩ = some (.string ct)) := Lib.hid fun Z hz => ⟨hz.cell (blk_cell hbox 0), hz.cell (blk_cell hbox 1), hz.cell (blk_cell hbox 2), hz.cell (blk_cell hbox 3)⟩
  clear hbox h A0 hn hT zid z4 hid h_st h_cl h_c2 h_ct
  go_enter Tryz.func120, Tryz.ntmps120
  go_wp2_with fail
  try rw [hW0]
  clear hW0
  try rw [hgg]
  refine HN.out.mono ?_
  rintro e w1 ⟨rfl, A1, hk1⟩
  have hkD := hk1.transX (Kept.drew w1)
  have A1d := A1.up (Below.drew (Below.refl _ _))
  have hz0 : Below w1.drew.heap.size w1.drew w1.drew := Below.refl _ _
  clear HN A1
  go_wp2_with fail
  go_region_held_law (fun Z => Z.cell? ⟨g0, 0, none⟩ = some (.int .u64 (st : Int)) ∧ Z.cell? ⟨g0, 1, none⟩ = some (.string cl) ∧ Z.cell? ⟨g0, 2, none⟩ = some (.string cc) ∧ Z.cell? ⟨g0, 3, none⟩ = some (.string ct))
    (with_reducible first | exact HC.out _ hkF | exact HC.out _ hk2 | exact HC.out _ hkD)
    ((first
      | (go_at_call 34; refine (HK.out _).mono ?_; rintro e w9 ⟨rfl, rfl⟩)
      | (go_at_call 35; refine (HB.out _).mono ?_; rintro e w2 ⟨v2, rfl, ho2, hb2⟩; have A2 := A1d.up hb2; have hk2 := hkD.transX (Kept.of_belowX hb2))
      | (go_at_call 93; refine (HS.out _ A2 _ _ ho2).mono ?_; rintro e w3 ⟨⟨c3, rfl⟩, AS, hk3⟩; have hkF := hk2.transX hk3)))
  all_goals
    have hfin := hkW.transX hkF
    go_wp2_with fail
    go_ret
    exact ⟨rfl, AS, hfin⟩
set_option maxHeartbeats 4000000 in
theorem cnbeginU_any {W w : World} {y : Lyr} {l : List Lyr} {R : List Pr} {k : Nat} (h : At W y l R k w) (hn : y.n + k + 2 ≤ maxLen) (hT : Pows w) (id other : ByteArray) (h_id : id.size ≤ 100000000) (h_o : other.size ≤ 100000000) :
    Calls Tryz.prog 77 #[.pointer (some ⟨y.b, 0, none⟩), .string id, .string other] w fun e w' => e = .returned (.tuple #[.string (if cnBeginE R id other = 0 then newID R sConn else ⟨#[]⟩), .int .i64 (cnBeginE R id other)]) ∧ At W y l (if cnBeginE R id other = 0 then madeCn R ⟨1, id, other, ⟨#[]⟩⟩ else R) (k + 2) w' ∧ Kept w w' := by
  have HG := Lib.hid (clget_any h id h_id)
  have HI : Hid (∀ Z : World, Calls Tryz.prog 49 #[.string other] Z fun e w' => e = .returned (.bool (identB other)) ∧ Z = w') := Lib.hid fun Z => ident_any other Z (by unfold maxLen; omega)
  have HM : Hid (∀ Z, Below w.heap.size w Z → Calls Tryz.prog 120 #[.pointer (some ⟨y.b, 0, none⟩), .agg #[.int .u64 1, .string id, .string other, .string ⟨#[]⟩]] Z fun e w' => e = .returned (.string (newID R sConn)) ∧ At W y l (madeCn R ⟨1, id, other, ⟨#[]⟩⟩) (k + 2) w' ∧ Kept Z w') :=
    Lib.hid fun Z hz => cnmadeU_any (h.up hz) hn (hT.kept (Kept.of_belowX hz)) ⟨1, id, other, ⟨#[]⟩⟩ (by show 1 < _; decide) (by show id.size ≤ _; unfold maxLen; omega) (by show other.size ≤ _; unfold maxLen; omega) (by show 0 ≤ _; omega)
  have HA := Lib.hid (fun (Z : World) (hz : Below w.heap.size w Z) => (h.up hz).more (show k ≤ k + 2 by omega))
  unfold cnBeginE
  generalize madeCn R ⟨1, id, other, ⟨#[]⟩⟩ = R2 at *
  generalize newID R sConn = ID at *
  have hcl : clV (getCl R id) = .tuple #[((getCl R id).getD ClV.none).val, .bool (getCl R id).isSome] := by cases getCl R id <;> rfl
  rw [hcl] at HG
  generalize (getCl R id).isSome = ok at *
  generalize (getCl R id).getD ClV.none = V at *
  generalize identB other = bi at *
  obtain ⟨ch, la, pe, frz⟩ := V
  unfold ClV.val at HG
  dsimp only at HG
  clear h hn hT h_id h_o hcl
  cases ok with
  | false =>
    simp only [Bool.false_eq_true, if_false, if_neg (show ¬ (100 : Int) = 0 by decide)]
    go_enter Tryz.func77, Tryz.ntmps77
    go_wp2_with fail
    refine HG.out.mono ?_
    rintro e w1 ⟨rfl, hb1⟩
    have b2 := hb1.alloc hb1.size (.cells #[.string ch, .int .u64 (la : Int), .int .u64 (pe : Int), .bool frz] 50)
    have A2 := HA.out _ b2
    have k2 := Kept.of_belowX b2
    clear HG HI HM HA hb1
    go_wp2_with fail
    go_ret2
    exact ⟨rfl, A2, k2⟩
  | true =>
    cases bi with
    | false =>
      simp only [Bool.false_eq_true, if_false, if_true, if_neg (show ¬ (40 : Int) = 0 by decide)]
      go_enter Tryz.func77, Tryz.ntmps77
      go_wp2_with fail
      refine HG.out.mono ?_
      rintro e w1 ⟨rfl, hb1⟩
      have b2 := hb1.alloc hb1.size (.cells #[.string ch, .int .u64 (la : Int), .int .u64 (pe : Int), .bool frz] 50)
      have A2 := HA.out _ b2
      have k2 := Kept.of_belowX b2
      clear HG HM HA hb1
      go_wp2_with fail
      refine (HI.out _).mono ?_
      rintro e w3 ⟨rfl, rfl⟩
      go_wp2_with fail
      go_ret2
      exact ⟨rfl, A2, k2⟩
    | true =>
      simp only [if_true]
      go_enter Tryz.func77, Tryz.ntmps77
      go_wp2_with fail
      refine HG.out.mono ?_
      rintro e w1 ⟨rfl, hb1⟩
      have b2 := hb1.alloc hb1.size (.cells #[.string ch, .int .u64 (la : Int), .int .u64 (pe : Int), .bool frz] 50)
      have HM2 := Lib.hid (HM.out _ b2)
      have k2 := Kept.of_belowX b2
      clear HG HA hb1 HM b2
      go_wp2_with fail
      refine (HI.out _).mono ?_
      rintro e w3 ⟨rfl, rfl⟩
      clear HI
      go_wp2_with fail
      refine HM2.out.mono ?_
      rintro e w4 ⟨rfl, A4, k4⟩
      have kf := k2.transX k4
      go_wp2_with fail
      go_ret2
      exact ⟨rfl, A4, kf⟩
set_option maxHeartbeats 16000000 in
theorem cntry_any {W w : World} {y : Lyr} {l : List Lyr} {R : List Pr} {k : Nat} (h : At W y l R k w) (hn : y.n + k + 2 ≤ maxLen) (hT : Pows w) (id other cconn : ByteArray) (h_id : id.size ≤ 100000000) (h_o : other.size ≤ 100000000) (h_c : cconn.size ≤ 100000000) (ht now : Nat) (h_ht : ht < 18446744073709551616) (h_now : now < 18446744073709551616)
    (n : Int) (A : Option Addr) (m c : Nat) (p : Pf) (hp : ∀ Z, Below w.heap.size w Z → ProofV Z Z.heap.size (.agg #[.int .i64 n, .slice A m c]) p)
    (fr : TypeId × Nat × Nat) (hk : w.heap[0]? = some (.cells kVals fr.1 fr.2)) :
    Calls Tryz.prog 80 #[.pointer (some ⟨y.b, 0, none⟩), .string id, .string other, .string cconn, .int .u64 (ht : Int), .agg #[.int .i64 n, .slice A m c], .int .u64 (now : Int)] w fun e w' => e = .returned (.tuple #[.string (if cnTryE R id other cconn ht now p = 0 then newID R sConn else ⟨#[]⟩), .int .i64 (cnTryP R id other cconn ht now p).1]) ∧ At W y l (cnTryP R id other cconn ht now p).2 (k + 2) w' ∧ Kept w w' := by
  have hbox := heap_alloc_new w (.cells #[.int .i64 n, .slice A m c] 41)
  have ha0 : Below w.heap.size w (w.alloc (.cells #[.int .i64 n, .slice A m c] 41)) := (Below.refl _ _).alloc (Nat.le_refl _) _
  have HG := Lib.hid (clget_any (h.up ha0) id h_id)
  have HI1 : Hid (∀ Z : World, Calls Tryz.prog 49 #[.string other] Z fun e w' => e = .returned (.bool (identB other)) ∧ Z = w') := Lib.hid fun Z => ident_any other Z (by unfold maxLen; omega)
  have HI2 : Hid (∀ Z : World, Calls Tryz.prog 49 #[.string cconn] Z fun e w' => e = .returned (.bool (identB cconn)) ∧ Z = w') := Lib.hid fun Z => ident_any cconn Z (by unfold maxLen; omega)
  have HM := Lib.hid (fun Z : World => mirror_any ⟨#[]⟩ 2 id other cconn 1 Z)
  obtain ⟨E, hE⟩ : ∃ e, e = verifyE R id ht now (kConn cconn) (cnB ⟨1, other, id, ⟨#[]⟩⟩) p := ⟨_, rfl⟩
  have HSH : Hid (∀ Z, Below w.heap.size w Z → Calls Tryz.prog 121 #[.pointer (some ⟨y.b, 0, none⟩), .string id, .string cconn, .agg #[.int .u64 1, .string other, .string id, .string ⟨#[]⟩], .int .u64 (ht : Int), .agg #[.int .i64 n, .slice A m c], .int .u64 (now : Int)] Z fun e w' => e = .returned (.int .i64 E) ∧ Below Z.heap.size Z w') :=
    Lib.hid fun Z hz => by
      have := cnshown_any (h.up hz) id cconn h_id h_c ⟨1, other, id, ⟨#[]⟩⟩ (by show 1 < _; decide) (by show ByteArray.size other ≤ _; unfold maxLen; omega) (by show ByteArray.size id ≤ _; unfold maxLen; omega) (by show 0 ≤ _; omega) ht now h_ht h_now n A m c p (fun Z2 hz2 => hp Z2 (below_chain hz hz.size hz2)) fr ((hz.block _ (blk_lt hk)).trans hk)
      rw [← hE] at this
      exact this
  have HMD : Hid (∀ Z, Below w.heap.size w Z → Calls Tryz.prog 120 #[.pointer (some ⟨y.b, 0, none⟩), .agg #[.int .u64 2, .string id, .string other, .string cconn]] Z fun e w' => e = .returned (.string (newID R sConn)) ∧ At W y l (madeCn R ⟨2, id, other, cconn⟩) (k + 2) w' ∧ Kept Z w') :=
    Lib.hid fun Z hz => cnmadeU_any (h.up hz) hn (hT.kept (Kept.of_belowX hz)) ⟨2, id, other, cconn⟩ (by show 2 < _; decide) (by show ByteArray.size id ≤ _; unfold maxLen; omega) (by show ByteArray.size other ≤ _; unfold maxLen; omega) (by show ByteArray.size cconn ≤ _; unfold maxLen; omega)
  have HA := Lib.hid (fun (Z : World) (hz : Below w.heap.size w Z) => (h.up hz).more (show k ≤ k + 2 by omega))
  unfold cnTryP cnTryE
  rw [← hE]
  dsimp only
  generalize madeCn R ⟨2, id, other, cconn⟩ = R2 at *
  generalize newID R sConn = ID at *
  rw [clV_got] at HG
  generalize (getCl R id).isSome = ok at *
  generalize gotC (getCl R id) = V at *
  generalize identB other = bi at *
  generalize identB cconn = bc at *
  obtain ⟨ch, la, pe, frz⟩ := V
  unfold ClV.val at HG
  dsimp only at HG
  generalize hW0 : w.alloc (.cells #[.int .i64 n, .slice A m c] 41) = W0 at *
  have HW : Hid (∀ Z, Below W0.heap.size W0 Z → Below w.heap.size w Z) := Lib.hid fun Z hz => below_chain ha0 ha0.size hz
  generalize hgg : w.heap.size = g0 at *
  have HP0 : Hid (∀ Z, Below W0.heap.size W0 Z → Z.heap[g0]? = some (.cells #[.int .i64 n, .slice A m c] 41 (0, 0))) := Lib.hid fun Z hz => (hz.block _ (blk_lt hbox)).trans hbox
  have HKP : Hid (∀ Z, Below g0 w Z → Kept w Z) := Lib.hid fun Z hz => Kept.of_belowX (by rw [hgg]; exact hz)
  clear h hn hT h_id h_o h_c hp hk hE hbox ha0 h_ht h_now
  cases ok with
  | false =>
    simp only [Bool.false_eq_true, if_false, if_neg (show ¬ (100 : Int) = 0 by decide)]
    go_enter Tryz.func80, Tryz.ntmps80
    go_wp2_with fail
    try rw [hW0]
    clear hW0
    try rw [hgg]
    refine HG.out.mono ?_
    rintro e w1 ⟨rfl, hb1⟩
    have b2 := hb1.alloc hb1.size (.cells #[.string ch, .int .u64 (la : Int), .int .u64 (pe : Int), .bool frz] 50)
    have A2 := HA.out _ (HW.out _ b2)
    have k2 := HKP.out _ (HW.out _ b2)
    clear HM HSH HMD HA HP0 hb1 b2
    go_wp2_with fail
    go_ret2
    exact ⟨rfl, A2, k2⟩
  | true =>
    cases bi with
    | false =>
      simp only [Bool.false_eq_true, if_false, if_true, if_neg (show ¬ (40 : Int) = 0 by decide)]
      go_enter Tryz.func80, Tryz.ntmps80
      go_wp2_with fail
      try rw [hW0]
      clear hW0
      try rw [hgg]
      refine HG.out.mono ?_
      rintro e w1 ⟨rfl, hb1⟩
      have b2 := hb1.alloc hb1.size (.cells #[.string ch, .int .u64 (la : Int), .int .u64 (pe : Int), .bool frz] 50)
      have A2 := HA.out _ (HW.out _ b2)
      have k2 := HKP.out _ (HW.out _ b2)
      clear HM HSH HMD HA HP0 hb1 b2
      go_wp2_with fail
      refine (HI1.out _).mono ?_
      rintro e w3 ⟨rfl, rfl⟩
      go_wp2_with fail
      go_ret2
      exact ⟨rfl, A2, k2⟩
    | true =>
      cases bc with
      | false =>
        simp only [Bool.false_eq_true, if_false, if_true, if_neg (show ¬ (40 : Int) = 0 by decide)]
        go_enter Tryz.func80, Tryz.ntmps80
        go_wp2_with fail
        try rw [hW0]
        clear hW0
        try rw [hgg]
        refine HG.out.mono ?_
        rintro e w1 ⟨rfl, hb1⟩
        have b2 := hb1.alloc hb1.size (.cells #[.string ch, .int .u64 (la : Int), .int .u64 (pe : Int), .bool frz] 50)
        have A2 := HA.out _ (HW.out _ b2)
        have k2 := HKP.out _ (HW.out _ b2)
        clear HM HSH HMD HA HP0 hb1 b2
        go_wp2_with fail
        refine (HI1.out _).mono ?_
        rintro e w3 ⟨rfl, rfl⟩
        go_wp2_with fail
        refine (HI2.out _).mono ?_
        rintro e w3 ⟨rfl, rfl⟩
        go_wp2_with fail
        go_ret2
        exact ⟨rfl, A2, k2⟩
      | true =>
        simp only [if_true]
        go_enter Tryz.func80, Tryz.ntmps80
        go_wp2_with fail
        try rw [hW0]
        clear hW0
        try rw [hgg]
        refine HG.out.mono ?_
        rintro e w1 ⟨rfl, hb1⟩
        have b2 := hb1.alloc hb1.size (.cells #[.string ch, .int .u64 (la : Int), .int .u64 (pe : Int), .bool frz] 50)
        clear HG hb1
        go_wp2_with fail
        generalize w1.alloc (.cells #[.string ch, .int .u64 (la : Int), .int .u64 (pe : Int), .bool frz] 50) = w2 at *
        refine (HI1.out _).mono ?_
        rintro e w3 ⟨rfl, rfl⟩
        clear HI1
        go_wp2_with fail
        refine (HI2.out _).mono ?_
        rintro e w3 ⟨rfl, rfl⟩
        clear HI2
        have m3 := heap_alloc_new w2 (.cells #[.int .u64 2, .string id, .string other, .string cconn] 78)
        have b3 := b2.alloc b2.size (.cells #[.int .u64 2, .string id, .string other, .string cconn] 78)
        obtain ⟨w3, hw3⟩ : ∃ Z, Z = w2.alloc (.cells #[.int .u64 2, .string id, .string other, .string cconn] 78) := ⟨_, rfl⟩
        go_wp2_with fail
        try rw [← hw3]
        rw [← hw3] at m3 b3
        generalize w2.heap.size = g1 at *
        clear hw3 b2
        have p3 := HP0.out _ b3
        have HC : Hid (∀ Z, Below w3.heap.size w3 Z → Z.cell? ⟨g1, 0, none⟩ = some (.int .u64 2) ∧ Z.cell? ⟨g1, 1, none⟩ = some (.string id) ∧ Z.cell? ⟨g1, 2, none⟩ = some (.string other) ∧ Z.cell? ⟨g1, 3, none⟩ = some (.string cconn) ∧ Z.cell? ⟨g0, 0, none⟩ = some (.int .i64 n) ∧ Z.cell? ⟨g0, 1, none⟩ = some (.slice A m c)) := Lib.hid fun Z hz => ⟨blk_cell ((hz.block _ (blk_lt m3)).trans m3) 0, blk_cell ((hz.block _ (blk_lt m3)).trans m3) 1, blk_cell ((hz.block _ (blk_lt m3)).trans m3) 2, blk_cell ((hz.block _ (blk_lt m3)).trans m3) 3, blk_cell ((hz.block _ (blk_lt p3)).trans p3) 0, blk_cell ((hz.block _ (blk_lt p3)).trans p3) 1⟩
        have HM3 : Hid (∀ Z, Below w3.heap.size w3 Z → Z.heap[g1]? = some (.cells #[.int .u64 2, .string id, .string other, .string cconn] 78 (0, 0))) := Lib.hid fun Z hz => (hz.block _ (blk_lt m3)).trans m3
        have hkD : Below w3.heap.size w3 w3.drew := Below.drew (Below.refl _ _)
        have HSH2 := Lib.hid (fun (Z : World) (hz : Below w3.heap.size w3 Z) => HSH.out Z (HW.out _ (b3.trans (hz.mono b3.size))))
        have B3 := Lib.hid b3
        clear p3 m3 b3 HSH HP0
        go_wp2_with fail
        go_region_held_law (fun Z => Z.cell? ⟨g1, 0, none⟩ = some (.int .u64 2) ∧ Z.cell? ⟨g1, 1, none⟩ = some (.string id) ∧ Z.cell? ⟨g1, 2, none⟩ = some (.string other) ∧ Z.cell? ⟨g1, 3, none⟩ = some (.string cconn) ∧ Z.cell? ⟨g0, 0, none⟩ = some (.int .i64 n) ∧ Z.cell? ⟨g0, 1, none⟩ = some (.slice A m c))
          (with_reducible first | exact HC.out _ hk2 | exact HC.out _ hk1 | exact HC.out _ hkD)
          ((first
            | (go_at_call 122; refine (HM.out _).mono ?_; rintro e w4 ⟨rfl, hb4⟩; have hk1 := below_chain hkD hkD.size hb4)
            | (go_at_call 121; refine (HSH2.out _ hk1).mono ?_; rintro e w5 ⟨rfl, hb5⟩; have hk2 := below_chain hk1 hk1.size hb5)))
        all_goals
          have hq5 := B3.out.trans (hk2.mono B3.out.size)
          have k5 := HKP.out _ (HW.out _ hq5)
          by_cases hz : E = 0
          · subst hz
            obtain ⟨r0, r1, r2, r3, -, -⟩ := HC.out _ hk2
            have HMD2 := Lib.hid (HMD.out _ (HW.out _ hq5))
            clear HMD HA HC HM3 hkD hk1 hk2 hb4 hb5 B3 HSH2 HM
            go_wp2_with fail
            refine HMD2.out.mono ?_
            rintro e w6 ⟨rfl, A6, k6⟩
            have kf := k5.transX k6
            clear r0 r1 r2 r3 HMD2
            go_wp2_with fail
            go_ret2
            exact ⟨by first | rfl | (rw [if_pos rfl]; rfl), by first | exact A6 | (rw [if_pos rfl]; exact A6), kf⟩
          · have hneB : (E != 0) = true := by simpa using hz
            have A5 := HA.out _ (HW.out _ hq5)
            clear HMD HA HC HM3 hkD hk1 hk2 hb4 hb5 B3 HSH2 HM
            go_wp2_with fail
            go_ret2
            exact ⟨by first | rfl | (rw [if_neg hz]; rfl), by first | exact A5 | (rw [if_neg hz]; exact A5), k5⟩
set_option maxHeartbeats 16000000 in
theorem cnackP_any {W w : World} {y : Lyr} {l : List Lyr} {R : List Pr} {k : Nat} (h : At W y l R k w) (hn : y.n + k < maxLen) (id cconn : ByteArray) (h_id : id.size ≤ 100000000) (h_c : cconn.size ≤ 100000000) (ht now : Nat) (h_ht : ht < 18446744073709551616) (h_now : now < 18446744073709551616)
    (n : Int) (A : Option Addr) (m c : Nat) (p : Pf) (hp : ∀ Z, Below w.heap.size w Z → ProofV Z Z.heap.size (.agg #[.int .i64 n, .slice A m c]) p)
    (fr : TypeId × Nat × Nat) (hk : w.heap[0]? = some (.cells kVals fr.1 fr.2)) :
    Calls Tryz.prog 78 #[.pointer (some ⟨y.b, 0, none⟩), .string id, .string cconn, .int .u64 (ht : Int), .agg #[.int .i64 n, .slice A m c], .int .u64 (now : Int)] w fun e w' => e = .returned (.int .i64 (cnAckP R id cconn ht now p).1) ∧ At W y l (cnAckP R id cconn ht now p).2 (k + 1) w' ∧ Kept w w' := by
  have hbox := heap_alloc_new w (.cells #[.int .i64 n, .slice A m c] 41)
  have ha0 : Below w.heap.size w (w.alloc (.cells #[.int .i64 n, .slice A m c] 41)) := (Below.refl _ _).alloc (Nat.le_refl _) _
  have hok : (gotN (getCn R id)).ok := gotN_ok
  have HG := Lib.hid (cnget_any (h.up ha0) id h_id)
  rw [cnV_got] at HG
  unfold cnAckP cnAckE
  dsimp only
  generalize (getCn R id).isSome = ok at *
  generalize gotN (getCn R id) = V at *
  have HI1 : Hid (∀ Z : World, Calls Tryz.prog 49 #[.string cconn] Z fun e w' => e = .returned (.bool (identB cconn)) ∧ Z = w') := Lib.hid fun Z => ident_any cconn Z (by unfold maxLen; omega)
  obtain ⟨st, cl, cc, ct⟩ := V
  obtain ⟨o1, o2, o3, o4⟩ := hok
  dsimp only at o1 o2 o3 o4 HG ⊢
  unfold CnV.val at HG
  dsimp only at HG
  have HM := Lib.hid (fun Z : World => mirror_any id 1 cl cc ct 2 Z)
  obtain ⟨E, hE⟩ : ∃ e, e = verifyE R cl ht now (kConn cconn) (cnB ⟨2, cc, cl, id⟩) p := ⟨_, rfl⟩
  have HSH : Hid (∀ Z, Below w.heap.size w Z → Calls Tryz.prog 121 #[.pointer (some ⟨y.b, 0, none⟩), .string cl, .string cconn, .agg #[.int .u64 2, .string cc, .string cl, .string id], .int .u64 (ht : Int), .agg #[.int .i64 n, .slice A m c], .int .u64 (now : Int)] Z fun e w' => e = .returned (.int .i64 E) ∧ Below Z.heap.size Z w') :=
    Lib.hid fun Z hz => by
      have := cnshown_any (h.up hz) cl cconn (by omega) h_c ⟨2, cc, cl, id⟩ (by show 2 < _; decide) (by show ByteArray.size cc ≤ _; unfold maxLen; omega) (by show ByteArray.size cl ≤ _; unfold maxLen; omega) (by show ByteArray.size id ≤ _; unfold maxLen; omega) ht now h_ht h_now n A m c p (fun Z2 hz2 => hp Z2 (below_chain hz hz.size hz2)) fr ((hz.block _ (blk_lt hk)).trans hk)
      rw [← hE] at this
      exact this
  rw [← hE]
  have HBY : Hid (∀ Z : World, Calls Tryz.prog 35 #[.agg #[.int .u64 3, .string cl, .string cc, .string cconn]] Z fun e w' => ∃ v', e = .returned v' ∧ Own w' Z.heap.size v' (cnB ⟨3, cl, cc, cconn⟩) ∧ Below Z.heap.size Z w') := Lib.hid fun Z => cnbytes_any ⟨3, cl, cc, cconn⟩ Z (by show 3 < _; decide) (by show ByteArray.size cl ≤ _; unfold maxLen; omega) (by show ByteArray.size cc ≤ _; unfold maxLen; omega) (by show ByteArray.size cconn ≤ _; unfold maxLen; omega)
  have HKY : Hid (∀ Z : World, Calls Tryz.prog 34 #[.string id] Z fun e w' => e = .returned (.string (kConn id)) ∧ Z = w') := Lib.hid fun Z => cnkey_any _ Z (by omega)
  have HS : Hid (∀ (Z : World) (hz : Below w.heap.size w Z) (v : Value) (B : Nat) (ho : Own Z B v (cnB ⟨3, cl, cc, cconn⟩)), Calls Tryz.prog 93 #[.pointer (some ⟨y.b, 0, none⟩), .string (kConn id), v] Z fun e w' => (∃ c, e = .returned (.int .i64 c)) ∧ At W y l (setL (kConn id) (cnB ⟨3, cl, cc, cconn⟩) R) (k + 1) w' ∧ Kept Z w') :=
    Lib.hid fun Z hz v B ho => ((h.up hz).set hn (kConn id) (by rw [kConn_size]; unfold maxLen; omega) v _ ho.rd).mono fun e w' ⟨h1, h2, h3⟩ => ⟨⟨_, h1⟩, h2, h3⟩
  have HA := Lib.hid (fun (Z : World) (hz : Below w.heap.size w Z) => (h.up hz).more (show k ≤ k + 1 by omega))
  generalize setL (kConn id) (cnB ⟨3, cl, cc, cconn⟩) R = R2 at *
  generalize cnB ⟨3, cl, cc, cconn⟩ = L1 at *
  generalize kConn id = key at *
  generalize identB cconn = bi at *
  generalize hW0 : w.alloc (.cells #[.int .i64 n, .slice A m c] 41) = W0 at *
  have HW : Hid (∀ Z, Below W0.heap.size W0 Z → Below w.heap.size w Z) := Lib.hid fun Z hz => below_chain ha0 ha0.size hz
  generalize hgg : w.heap.size = g0 at *
  have HP0 : Hid (∀ Z, Below W0.heap.size W0 Z → Z.heap[g0]? = some (.cells #[.int .i64 n, .slice A m c] 41 (0, 0))) := Lib.hid fun Z hz => (hz.block _ (blk_lt hbox)).trans hbox
  have HSZ : Hid (g0 ≤ W0.heap.size) := Lib.hid (by rw [← hgg]; exact ha0.size)
  have HKP : Hid (∀ Z, Below g0 w Z → Kept w Z) := Lib.hid fun Z hz => Kept.of_belowX (by rw [hgg]; exact hz)
  clear h hn h_id h_c hp hk hE hbox ha0 h_ht h_now o1 o2 o3 o4
  cases ok with
  | false =>
    simp only [Bool.false_eq_true, if_false, if_neg (show ¬ (110 : Int) = 0 by decide)]
    go_enter Tryz.func78, Tryz.ntmps78
    go_wp2_with fail
    try rw [hW0]
    clear hW0
    try rw [hgg]
    refine HG.out.mono ?_
    rintro e w1 ⟨rfl, hb1⟩
    have b2 := hb1.alloc hb1.size (.cells #[.int .u64 (st : Int), .string cl, .string cc, .string ct] 78)
    have A2 := HA.out _ (HW.out _ b2)
    have k2 := HKP.out _ (HW.out _ b2)
    clear HM HSH HBY HKY HS HA HP0 hb1 b2
    go_wp2_with fail
    go_ret
    exact ⟨rfl, A2, k2⟩
  | true =>
    by_cases hst : st = 1
    rotate_left
    · simp only [if_true, if_neg hst, if_neg (show ¬ (111 : Int) = 0 by decide)]
      have hsb : ((st : Int) != 1) = true := by simp; omega
      go_enter Tryz.func78, Tryz.ntmps78
      go_wp2_with fail
      try rw [hW0]
      clear hW0
      try rw [hgg]
      refine HG.out.mono ?_
      rintro e w1 ⟨rfl, hb1⟩
      have b2 := hb1.alloc hb1.size (.cells #[.int .u64 (st : Int), .string cl, .string cc, .string ct] 78)
      have m2 := heap_alloc_new w1 (.cells #[.int .u64 (st : Int), .string cl, .string cc, .string ct] 78)
      have s0 := blk_cell m2 0
      clear m2
      have A2 := HA.out _ (HW.out _ b2)
      have k2 := HKP.out _ (HW.out _ b2)
      clear HM HSH HBY HKY HS HA HP0 hb1 b2
      go_wp2_with fail
      go_ret
      exact ⟨rfl, A2, k2⟩
    subst hst
    cases bi with
    | false =>
      simp only [Bool.false_eq_true, if_false, if_true, if_neg (show ¬ (40 : Int) = 0 by decide)]
      go_enter Tryz.func78, Tryz.ntmps78
      go_wp2_with fail
      try rw [hW0]
      clear hW0
      try rw [hgg]
      refine HG.out.mono ?_
      rintro e w1 ⟨rfl, hb1⟩
      have b2 := hb1.alloc hb1.size (.cells #[.int .u64 1, .string cl, .string cc, .string ct] 78)
      have m2 := heap_alloc_new w1 (.cells #[.int .u64 1, .string cl, .string cc, .string ct] 78)
      have s0 := blk_cell m2 0
      clear m2
      have A2 := HA.out _ (HW.out _ b2)
      have k2 := HKP.out _ (HW.out _ b2)
      clear HM HSH HBY HKY HS HA HP0 hb1 b2
      go_wp2_with fail
      refine (HI1.out _).mono ?_
      rintro e w3 ⟨rfl, rfl⟩
      go_wp2_with fail
      go_ret
      exact ⟨rfl, A2, k2⟩
    | true =>
      simp only [if_true]
      go_enter Tryz.func78, Tryz.ntmps78
      go_wp2_with fail
      try rw [hW0]
      clear hW0
      try rw [hgg]
      refine HG.out.mono ?_
      rintro e w1 ⟨rfl, hb1⟩
      have b2 := hb1.alloc hb1.size (.cells #[.int .u64 1, .string cl, .string cc, .string ct] 78)
      have m3 := heap_alloc_new w1 (.cells #[.int .u64 1, .string cl, .string cc, .string ct] 78)
      have s0 := blk_cell m3 0
      have b3 := b2
      have HG1 : Hid (g0 ≤ w1.heap.size) := Lib.hid (Nat.le_trans HSZ.out hb1.size)
      clear HG hb1 b2
      go_wp2_with fail
      clear s0
      generalize w1.alloc (.cells #[.int .u64 1, .string cl, .string cc, .string ct] 78) = w3 at *
      generalize w1.heap.size = g1 at *
      refine (HI1.out _).mono ?_
      rintro e w4 ⟨rfl, rfl⟩
      clear HI1
      have p3 := HP0.out _ b3
      have HC : Hid (∀ Z, Below w3.heap.size w3 Z → Z.cell? ⟨g1, 0, none⟩ = some (.int .u64 1) ∧ Z.cell? ⟨g1, 1, none⟩ = some (.string cl) ∧ Z.cell? ⟨g1, 2, none⟩ = some (.string cc) ∧ Z.cell? ⟨g1, 3, none⟩ = some (.string ct) ∧ Z.cell? ⟨g0, 0, none⟩ = some (.int .i64 n) ∧ Z.cell? ⟨g0, 1, none⟩ = some (.slice A m c)) := Lib.hid fun Z hz => ⟨blk_cell ((hz.block _ (blk_lt m3)).trans m3) 0, blk_cell ((hz.block _ (blk_lt m3)).trans m3) 1, blk_cell ((hz.block _ (blk_lt m3)).trans m3) 2, blk_cell ((hz.block _ (blk_lt m3)).trans m3) 3, blk_cell ((hz.block _ (blk_lt p3)).trans p3) 0, blk_cell ((hz.block _ (blk_lt p3)).trans p3) 1⟩
      have HM3 : Hid (∀ Z, Below w3.heap.size w3 Z → Z.heap[g1]? = some (.cells #[.int .u64 1, .string cl, .string cc, .string ct] 78 (0, 0))) := Lib.hid fun Z hz => (hz.block _ (blk_lt m3)).trans m3
      have hkD : Below w3.heap.size w3 w3.drew := Below.drew (Below.refl _ _)
      have HSH2 := Lib.hid (fun (Z : World) (hz : Below w3.heap.size w3 Z) => HSH.out Z (HW.out _ (b3.trans (hz.mono b3.size))))
      have B3 := Lib.hid b3
      clear p3 m3 b3 HSH HP0
      go_wp2_with fail
      go_region_held_law (fun Z => Z.cell? ⟨g1, 0, none⟩ = some (.int .u64 1) ∧ Z.cell? ⟨g1, 1, none⟩ = some (.string cl) ∧ Z.cell? ⟨g1, 2, none⟩ = some (.string cc) ∧ Z.cell? ⟨g1, 3, none⟩ = some (.string ct) ∧ Z.cell? ⟨g0, 0, none⟩ = some (.int .i64 n) ∧ Z.cell? ⟨g0, 1, none⟩ = some (.slice A m c))
        (with_reducible first | exact HC.out _ hk2 | exact HC.out _ hk1 | exact HC.out _ hkD)
        ((first
          | (go_at_call 122; refine (HM.out _).mono ?_; rintro e w4 ⟨rfl, hb4⟩; have hk1 := below_chain hkD hkD.size hb4)
          | (go_at_call 121; refine (HSH2.out _ hk1).mono ?_; rintro e w5 ⟨rfl, hb5⟩; have hk2 := below_chain hk1 hk1.size hb5)))
      all_goals
        have hq5 := B3.out.trans (hk2.mono B3.out.size)
        have k5 := HKP.out _ (HW.out _ hq5)
        by_cases hz : E = 0
        · subst hz
          have m5 := HM3.out _ hk2
          have r0 := blk_cell m5 0
          have f0 := blk_free m5 0
          have r3 := blk_cell m5 3
          have f3 := blk_free m5 3
          have m6 : ((w5.setCell ⟨g1, 0, none⟩ (.int .u64 3)).setCell ⟨g1, 3, none⟩ (.string cconn)).heap[g1]? = some (.cells #[.int .u64 3, .string cl, .string cc, .string cconn] 78 (0, 0)) := by simpa using blk_set (blk_set m5 0 (.int .u64 3)) 3 (.string cconn)
          have q6 : Below g0 w ((w5.setCell ⟨g1, 0, none⟩ (.int .u64 3)).setCell ⟨g1, 3, none⟩ (.string cconn)) := ((HW.out _ hq5).setCell (p := ⟨g1, 0, none⟩) HG1.out _).setCell (p := ⟨g1, 3, none⟩) HG1.out _
          have HX6 := Lib.hid (And.intro m6 q6)
          clear m5 m6 q6 HC HM3 hkD hk1 hk2 hb4 hb5 hq5 k5 B3 HSH2 HM HA
          go_wp2_with fail
          obtain ⟨m6, q6⟩ := HX6.out
          clear r0 f0 r3 f3 HX6
          generalize ((w5.setCell ⟨g1, 0, none⟩ (.int .u64 3)).setCell ⟨g1, 3, none⟩ (.string cconn)) = w6 at *
          have HC6 : Hid (∀ Z, Kept w6 Z → Z.cell? ⟨g1, 0, none⟩ = some (.int .u64 3) ∧ Z.cell? ⟨g1, 1, none⟩ = some (.string cl) ∧ Z.cell? ⟨g1, 2, none⟩ = some (.string cc) ∧ Z.cell? ⟨g1, 3, none⟩ = some (.string cconn)) := Lib.hid fun Z hz => ⟨hz.cell (blk_cell m6 0), hz.cell (blk_cell m6 1), hz.cell (blk_cell m6 2), hz.cell (blk_cell m6 3)⟩
          have hq6s : g0 ≤ w6.heap.size := by rw [← hgg]; exact q6.size
          have hqD : Below g0 w w6.drew := q6.trans ((Below.drew (Below.refl _ _)).mono hq6s)
          have hzD : Below w6.heap.size w6 w6.drew := Below.drew (Below.refl _ _)
          have hkD6 := Kept.of_belowX hzD
          have HS6 := Lib.hid (fun (Z : World) (hz : Below w6.drew.heap.size w6.drew Z) (v : Value) (B : Nat) (ho : Own Z B v L1) => HS.out Z (hqD.trans (hz.mono (show g0 ≤ w6.drew.heap.size from hq6s))) v B ho)
          have k6 := HKP.out _ q6
          clear m6 q6 hqD hzD hq6s HS HKP HW
          go_region_held_law (fun Z => Z.cell? ⟨g1, 0, none⟩ = some (.int .u64 3) ∧ Z.cell? ⟨g1, 1, none⟩ = some (.string cl) ∧ Z.cell? ⟨g1, 2, none⟩ = some (.string cc) ∧ Z.cell? ⟨g1, 3, none⟩ = some (.string cconn))
            (with_reducible first | exact HC6.out _ hkF | exact HC6.out _ hk7 | exact HC6.out _ hkD6)
            ((first
              | (go_at_call 34; refine (HKY.out _).mono ?_; rintro e w9 ⟨rfl, rfl⟩)
              | (go_at_call 35; refine (HBY.out _).mono ?_; rintro e w7 ⟨v7, rfl, ho7, hb7⟩; have hk7 := hkD6.transX (Kept.of_belowX hb7))
              | (go_at_call 93; refine (HS6.out _ hb7 _ _ ho7).mono ?_; rintro e w8 ⟨⟨c8, rfl⟩, AS, hk8⟩; have hkF := hk7.transX hk8)))
          all_goals
            have hfin := k6.transX hkF
            go_wp2_with fail
            go_ret
            exact ⟨rfl, by first | exact AS | (rw [if_pos rfl]; exact AS), hfin⟩
        · have hneB : (E != 0) = true := by simpa using hz
          have A5 := HA.out _ (HW.out _ hq5)
          clear HBY HKY HS HA HC HM3 hkD hk1 hk2 hb4 hb5 B3 HSH2 HM
          go_wp2_with fail
          go_ret
          exact ⟨rfl, by first | exact A5 | (rw [if_neg hz]; exact A5), k5⟩
set_option maxHeartbeats 16000000 in
theorem cnconP_any {W w : World} {y : Lyr} {l : List Lyr} {R : List Pr} {k : Nat} (h : At W y l R k w) (hn : y.n + k < maxLen) (id : ByteArray) (h_id : id.size ≤ 100000000) (ht now : Nat) (h_ht : ht < 18446744073709551616) (h_now : now < 18446744073709551616)
    (n : Int) (A : Option Addr) (m c : Nat) (p : Pf) (hp : ∀ Z, Below w.heap.size w Z → ProofV Z Z.heap.size (.agg #[.int .i64 n, .slice A m c]) p)
    (fr : TypeId × Nat × Nat) (hk : w.heap[0]? = some (.cells kVals fr.1 fr.2)) :
    Calls Tryz.prog 81 #[.pointer (some ⟨y.b, 0, none⟩), .string id, .int .u64 (ht : Int), .agg #[.int .i64 n, .slice A m c], .int .u64 (now : Int)] w fun e w' => e = .returned (.int .i64 (cnConP R id ht now p).1) ∧ At W y l (cnConP R id ht now p).2 (k + 1) w' ∧ Kept w w' := by
  have hbox := heap_alloc_new w (.cells #[.int .i64 n, .slice A m c] 41)
  have ha0 : Below w.heap.size w (w.alloc (.cells #[.int .i64 n, .slice A m c] 41)) := (Below.refl _ _).alloc (Nat.le_refl _) _
  have hok : (gotN (getCn R id)).ok := gotN_ok
  have HG := Lib.hid (cnget_any (h.up ha0) id h_id)
  rw [cnV_got] at HG
  unfold cnConP cnConE
  dsimp only
  generalize (getCn R id).isSome = ok at *
  generalize gotN (getCn R id) = V at *
  obtain ⟨st, cl, cc, ct⟩ := V
  obtain ⟨o1, o2, o3, o4⟩ := hok
  dsimp only at o1 o2 o3 o4 HG ⊢
  unfold CnV.val at HG
  dsimp only at HG
  have HM := Lib.hid (fun Z : World => mirror_any id 2 cl cc ct 3 Z)
  obtain ⟨E, hE⟩ : ∃ e, e = verifyE R cl ht now (kConn ct) (cnB ⟨3, cc, cl, id⟩) p := ⟨_, rfl⟩
  have HSH : Hid (∀ Z, Below w.heap.size w Z → Calls Tryz.prog 121 #[.pointer (some ⟨y.b, 0, none⟩), .string cl, .string ct, .agg #[.int .u64 3, .string cc, .string cl, .string id], .int .u64 (ht : Int), .agg #[.int .i64 n, .slice A m c], .int .u64 (now : Int)] Z fun e w' => e = .returned (.int .i64 E) ∧ Below Z.heap.size Z w') :=
    Lib.hid fun Z hz => by
      have := cnshown_any (h.up hz) cl ct (by omega) (by omega) ⟨3, cc, cl, id⟩ (by show 3 < _; decide) (by show ByteArray.size cc ≤ _; unfold maxLen; omega) (by show ByteArray.size cl ≤ _; unfold maxLen; omega) (by show ByteArray.size id ≤ _; unfold maxLen; omega) ht now h_ht h_now n A m c p (fun Z2 hz2 => hp Z2 (below_chain hz hz.size hz2)) fr ((hz.block _ (blk_lt hk)).trans hk)
      rw [← hE] at this
      exact this
  rw [← hE]
  have HBY : Hid (∀ Z : World, Calls Tryz.prog 35 #[.agg #[.int .u64 3, .string cl, .string cc, .string ct]] Z fun e w' => ∃ v', e = .returned v' ∧ Own w' Z.heap.size v' (cnB ⟨3, cl, cc, ct⟩) ∧ Below Z.heap.size Z w') := Lib.hid fun Z => cnbytes_any ⟨3, cl, cc, ct⟩ Z (by show 3 < _; decide) (by show ByteArray.size cl ≤ _; unfold maxLen; omega) (by show ByteArray.size cc ≤ _; unfold maxLen; omega) (by show ByteArray.size ct ≤ _; unfold maxLen; omega)
  have HKY : Hid (∀ Z : World, Calls Tryz.prog 34 #[.string id] Z fun e w' => e = .returned (.string (kConn id)) ∧ Z = w') := Lib.hid fun Z => cnkey_any _ Z (by omega)
  have HS : Hid (∀ (Z : World) (hz : Below w.heap.size w Z) (v : Value) (B : Nat) (ho : Own Z B v (cnB ⟨3, cl, cc, ct⟩)), Calls Tryz.prog 93 #[.pointer (some ⟨y.b, 0, none⟩), .string (kConn id), v] Z fun e w' => (∃ c, e = .returned (.int .i64 c)) ∧ At W y l (setL (kConn id) (cnB ⟨3, cl, cc, ct⟩) R) (k + 1) w' ∧ Kept Z w') :=
    Lib.hid fun Z hz v B ho => ((h.up hz).set hn (kConn id) (by rw [kConn_size]; unfold maxLen; omega) v _ ho.rd).mono fun e w' ⟨h1, h2, h3⟩ => ⟨⟨_, h1⟩, h2, h3⟩
  have HA := Lib.hid (fun (Z : World) (hz : Below w.heap.size w Z) => (h.up hz).more (show k ≤ k + 1 by omega))
  generalize setL (kConn id) (cnB ⟨3, cl, cc, ct⟩) R = R2 at *
  generalize cnB ⟨3, cl, cc, ct⟩ = L1 at *
  generalize kConn id = key at *
  generalize hW0 : w.alloc (.cells #[.int .i64 n, .slice A m c] 41) = W0 at *
  have HW : Hid (∀ Z, Below W0.heap.size W0 Z → Below w.heap.size w Z) := Lib.hid fun Z hz => below_chain ha0 ha0.size hz
  generalize hgg : w.heap.size = g0 at *
  have HP0 : Hid (∀ Z, Below W0.heap.size W0 Z → Z.heap[g0]? = some (.cells #[.int .i64 n, .slice A m c] 41 (0, 0))) := Lib.hid fun Z hz => (hz.block _ (blk_lt hbox)).trans hbox
  have HSZ : Hid (g0 ≤ W0.heap.size) := Lib.hid (by rw [← hgg]; exact ha0.size)
  have HKP : Hid (∀ Z, Below g0 w Z → Kept w Z) := Lib.hid fun Z hz => Kept.of_belowX (by rw [hgg]; exact hz)
  clear h hn h_id hp hk hE hbox ha0 h_ht h_now o1 o2 o3 o4
  cases ok with
  | false =>
    simp only [Bool.false_eq_true, if_false, if_neg (show ¬ (110 : Int) = 0 by decide)]
    go_enter Tryz.func81, Tryz.ntmps81
    go_wp2_with fail
    try rw [hW0]
    clear hW0
    try rw [hgg]
    refine HG.out.mono ?_
    rintro e w1 ⟨rfl, hb1⟩
    have b2 := hb1.alloc hb1.size (.cells #[.int .u64 (st : Int), .string cl, .string cc, .string ct] 78)
    have A2 := HA.out _ (HW.out _ b2)
    have k2 := HKP.out _ (HW.out _ b2)
    clear HM HSH HBY HKY HS HA HP0 hb1 b2
    go_wp2_with fail
    go_ret
    exact ⟨rfl, A2, k2⟩
  | true =>
    by_cases hst : st = 2
    rotate_left
    · simp only [if_true, if_neg hst, if_neg (show ¬ (111 : Int) = 0 by decide)]
      have hsb : ((st : Int) != 2) = true := by simp; omega
      go_enter Tryz.func81, Tryz.ntmps81
      go_wp2_with fail
      try rw [hW0]
      clear hW0
      try rw [hgg]
      refine HG.out.mono ?_
      rintro e w1 ⟨rfl, hb1⟩
      have b2 := hb1.alloc hb1.size (.cells #[.int .u64 (st : Int), .string cl, .string cc, .string ct] 78)
      have m2 := heap_alloc_new w1 (.cells #[.int .u64 (st : Int), .string cl, .string cc, .string ct] 78)
      have s0 := blk_cell m2 0
      clear m2
      have A2 := HA.out _ (HW.out _ b2)
      have k2 := HKP.out _ (HW.out _ b2)
      clear HM HSH HBY HKY HS HA HP0 hb1 b2
      go_wp2_with fail
      go_ret
      exact ⟨rfl, A2, k2⟩
    subst hst
    simp only [if_true]
    go_enter Tryz.func81, Tryz.ntmps81
    go_wp2_with fail
    try rw [hW0]
    clear hW0
    try rw [hgg]
    refine HG.out.mono ?_
    rintro e w1 ⟨rfl, hb1⟩
    have b2 := hb1.alloc hb1.size (.cells #[.int .u64 2, .string cl, .string cc, .string ct] 78)
    have m3 := heap_alloc_new w1 (.cells #[.int .u64 2, .string cl, .string cc, .string ct] 78)
    have s0 := blk_cell m3 0
    have b3 := b2
    have HG1 : Hid (g0 ≤ w1.heap.size) := Lib.hid (Nat.le_trans HSZ.out hb1.size)
    clear HG hb1 b2
    go_wp2_with fail
    clear s0
    generalize w1.alloc (.cells #[.int .u64 2, .string cl, .string cc, .string ct] 78) = w3 at *
    generalize w1.heap.size = g1 at *
    have p3 := HP0.out _ b3
    have HC : Hid (∀ Z, Below w3.heap.size w3 Z → Z.cell? ⟨g1, 0, none⟩ = some (.int .u64 2) ∧ Z.cell? ⟨g1, 1, none⟩ = some (.string cl) ∧ Z.cell? ⟨g1, 2, none⟩ = some (.string cc) ∧ Z.cell? ⟨g1, 3, none⟩ = some (.string ct) ∧ Z.cell? ⟨g0, 0, none⟩ = some (.int .i64 n) ∧ Z.cell? ⟨g0, 1, none⟩ = some (.slice A m c)) := Lib.hid fun Z hz => ⟨blk_cell ((hz.block _ (blk_lt m3)).trans m3) 0, blk_cell ((hz.block _ (blk_lt m3)).trans m3) 1, blk_cell ((hz.block _ (blk_lt m3)).trans m3) 2, blk_cell ((hz.block _ (blk_lt m3)).trans m3) 3, blk_cell ((hz.block _ (blk_lt p3)).trans p3) 0, blk_cell ((hz.block _ (blk_lt p3)).trans p3) 1⟩
    have HM3 : Hid (∀ Z, Below w3.heap.size w3 Z → Z.heap[g1]? = some (.cells #[.int .u64 2, .string cl, .string cc, .string ct] 78 (0, 0))) := Lib.hid fun Z hz => (hz.block _ (blk_lt m3)).trans m3
    have hkD : Below w3.heap.size w3 w3.drew := Below.drew (Below.refl _ _)
    have HSH2 := Lib.hid (fun (Z : World) (hz : Below w3.heap.size w3 Z) => HSH.out Z (HW.out _ (b3.trans (hz.mono b3.size))))
    have B3 := Lib.hid b3
    clear p3 m3 b3 HSH HP0
    go_region_held_law (fun Z => Z.cell? ⟨g1, 0, none⟩ = some (.int .u64 2) ∧ Z.cell? ⟨g1, 1, none⟩ = some (.string cl) ∧ Z.cell? ⟨g1, 2, none⟩ = some (.string cc) ∧ Z.cell? ⟨g1, 3, none⟩ = some (.string ct) ∧ Z.cell? ⟨g0, 0, none⟩ = some (.int .i64 n) ∧ Z.cell? ⟨g0, 1, none⟩ = some (.slice A m c))
      (with_reducible first | exact HC.out _ hk2 | exact HC.out _ hk1 | exact HC.out _ hkD)
      ((first
        | (go_at_call 122; refine (HM.out _).mono ?_; rintro e w4 ⟨rfl, hb4⟩; have hk1 := below_chain hkD hkD.size hb4)
        | (go_at_call 121; refine (HSH2.out _ hk1).mono ?_; rintro e w5 ⟨rfl, hb5⟩; have hk2 := below_chain hk1 hk1.size hb5)))
    all_goals
      have hq5 := B3.out.trans (hk2.mono B3.out.size)
      have k5 := HKP.out _ (HW.out _ hq5)
      by_cases hz : E = 0
      · subst hz
        have m5 := HM3.out _ hk2
        have r0 := blk_cell m5 0
        have f0 := blk_free m5 0
        have r3 := blk_cell m5 3
        have f3 := blk_free m5 3
        have m6 : (w5.setCell ⟨g1, 0, none⟩ (.int .u64 3)).heap[g1]? = some (.cells #[.int .u64 3, .string cl, .string cc, .string ct] 78 (0, 0)) := by simpa using blk_set m5 0 (.int .u64 3)
        have q6 : Below g0 w (w5.setCell ⟨g1, 0, none⟩ (.int .u64 3)) := (HW.out _ hq5).setCell (p := ⟨g1, 0, none⟩) HG1.out _
        have HX6 := Lib.hid (And.intro m6 q6)
        clear m5 m6 q6 HC HM3 hkD hk1 hk2 hb4 hb5 hq5 k5 B3 HSH2 HM HA
        go_wp2_with fail
        obtain ⟨m6, q6⟩ := HX6.out
        clear r0 f0 r3 f3 HX6
        generalize (w5.setCell ⟨g1, 0, none⟩ (.int .u64 3)) = w6 at *
        have HC6 : Hid (∀ Z, Kept w6 Z → Z.cell? ⟨g1, 0, none⟩ = some (.int .u64 3) ∧ Z.cell? ⟨g1, 1, none⟩ = some (.string cl) ∧ Z.cell? ⟨g1, 2, none⟩ = some (.string cc) ∧ Z.cell? ⟨g1, 3, none⟩ = some (.string ct)) := Lib.hid fun Z hz => ⟨hz.cell (blk_cell m6 0), hz.cell (blk_cell m6 1), hz.cell (blk_cell m6 2), hz.cell (blk_cell m6 3)⟩
        have hq6s : g0 ≤ w6.heap.size := by rw [← hgg]; exact q6.size
        have hqD : Below g0 w w6.drew := q6.trans ((Below.drew (Below.refl _ _)).mono hq6s)
        have hzD : Below w6.heap.size w6 w6.drew := Below.drew (Below.refl _ _)
        have hkD6 := Kept.of_belowX hzD
        have HS6 := Lib.hid (fun (Z : World) (hz : Below w6.drew.heap.size w6.drew Z) (v : Value) (B : Nat) (ho : Own Z B v L1) => HS.out Z (hqD.trans (hz.mono (show g0 ≤ w6.drew.heap.size from hq6s))) v B ho)
        have k6 := HKP.out _ q6
        clear m6 q6 hqD hzD hq6s HS HKP HW
        go_region_held_law (fun Z => Z.cell? ⟨g1, 0, none⟩ = some (.int .u64 3) ∧ Z.cell? ⟨g1, 1, none⟩ = some (.string cl) ∧ Z.cell? ⟨g1, 2, none⟩ = some (.string cc) ∧ Z.cell? ⟨g1, 3, none⟩ = some (.string ct))
          (with_reducible first | exact HC6.out _ hkF | exact HC6.out _ hk7 | exact HC6.out _ hkD6)
          ((first
            | (go_at_call 34; refine (HKY.out _).mono ?_; rintro e w9 ⟨rfl, rfl⟩)
            | (go_at_call 35; refine (HBY.out _).mono ?_; rintro e w7 ⟨v7, rfl, ho7, hb7⟩; have hk7 := hkD6.transX (Kept.of_belowX hb7))
            | (go_at_call 93; refine (HS6.out _ hb7 _ _ ho7).mono ?_; rintro e w8 ⟨⟨c8, rfl⟩, AS, hk8⟩; have hkF := hk7.transX hk8)))
        all_goals
          have hfin := k6.transX hkF
          go_wp2_with fail
          go_ret
          exact ⟨rfl, by first | exact AS | (rw [if_pos rfl]; exact AS), hfin⟩
      · have hneB : (E != 0) = true := by simpa using hz
        have A5 := HA.out _ (HW.out _ hq5)
        clear HBY HKY HS HA HC HM3 hkD hk1 hk2 hb4 hb5 B3 HSH2 HM
        go_wp2_with fail
        go_ret
        exact ⟨rfl, by first | exact A5 | (rw [if_neg hz]; exact A5), k5⟩
end Go.Proofs.YtmphegeiclgjbaaGreatDoor
namespace Go.Proofs.YtmphegeiclgjbaaGreatDoor
set_option maxRecDepth 100000
open Go Go.RowKit
set_option linter.unusedVariables false

end Go.Proofs.YtmphegeiclgjbaaGreatDoor
namespace Go.Proofs.YtmphegeiclgjbaaGreatDoor
set_option maxRecDepth 100000
open Go Go.RowKit
set_option linter.unusedVariables false

def ChV.ok (v : ChV) : Prop := v.st < 18446744073709551616 ∧ v.po.size ≤ 65535 ∧ v.cp.size ≤ 65535 ∧ v.cn.size ≤ 65535 ∧ v.cc.size ≤ 65535 ∧ v.ve.size ≤ 65535
def chShowE (R : List Pr) (id : ByteArray) (c : ChV) (st ht now : Nat) (p : Pf) : Int :=
  if openE R c.cn = 0 then verifyE R (openV R c.cn).cl ht now (kChn c.cc) (chB ⟨st, c.od, c.cp, c.po, (openV R c.cn).ct, id, c.ve⟩) p else openE R c.cn
def chTryE (R : List Pr) (c : ChV) (ht now : Nat) (p : Pf) : Int :=
  if openE R c.cn = 0 then (if formM c.cp c.po c.od c.ve = 0 then (if identB c.cc = true then chShowE R ⟨#[]⟩ c 1 ht now p else 40) else formM c.cp c.po c.od c.ve) else openE R c.cn
def chAckE (R : List Pr) (id cch : ByteArray) (ht now : Nat) (p : Pf) : Int :=
  if inStE R id 1 = 0 then (if identB cch = true then chShowE R id ⟨(inStV R id 1).st, (inStV R id 1).od, (inStV R id 1).po, (inStV R id 1).cp, (inStV R id 1).cn, cch, (inStV R id 1).ve⟩ 2 ht now p else 40) else inStE R id 1
def chFolE (R : List Pr) (id : ByteArray) (fm to ht now : Nat) (p : Pf) : Int :=
  if inStE R id fm = 0 then chShowE R id (inStV R id fm) to ht now p else inStE R id fm
def chCloE (R : List Pr) (id : ByteArray) : Int := if inStE R id 3 = 0 then (if (inStV R id 3).od = true then 0 else 122) else inStE R id 3
def chBeginP (R : List Pr) (via po cp : ByteArray) (od : Bool) (ve : ByteArray) : Int × List Pr := (beginE R via po cp od ve, beginR R via po cp od ve)
def chTryP (R : List Pr) (c : ChV) (ht now : Nat) (p : Pf) : Int × List Pr := (chTryE R c ht now p, if chTryE R c ht now p = 0 then madeCh R ⟨2, c.od, c.po, c.cp, c.cn, c.cc, c.ve⟩ else R)
def chAckP (R : List Pr) (id cch : ByteArray) (ht now : Nat) (p : Pf) : Int × List Pr := (chAckE R id cch ht now p, if chAckE R id cch ht now p = 0 then setL (kChn id) (chB ⟨3, (inStV R id 1).od, (inStV R id 1).po, (inStV R id 1).cp, (inStV R id 1).cn, cch, (inStV R id 1).ve⟩) R else R)
def chFolP (R : List Pr) (id : ByteArray) (fm to ht now : Nat) (p : Pf) : Int × List Pr := (chFolE R id fm to ht now p, if chFolE R id fm to ht now p = 0 then setL (kChn id) (chB ⟨to, (inStV R id fm).od, (inStV R id fm).po, (inStV R id fm).cp, (inStV R id fm).cn, (inStV R id fm).cc, (inStV R id fm).ve⟩) R else R)
def chCloP (R : List Pr) (id : ByteArray) : Int × List Pr := (chCloE R id, if chCloE R id = 0 then setL (kChn id) (chB ⟨4, (inStV R id 3).od, (inStV R id 3).po, (inStV R id 3).cp, (inStV R id 3).cn, (inStV R id 3).cc, (inStV R id 3).ve⟩) R else R)
/-- a step of layers 14 to 16 -/
def stepM16 (R : List Pr) (x : StepV) : Int × List Pr :=
  if x.m.kd = 2 then (createE (hdOf x.m.h) x.m.per x.now, if createE (hdOf x.m.h) x.m.per x.now = 0 then createR R (hdOf x.m.h) x.m.per else R)
  else if x.m.kd = 3 then updM R x.m.cl (nwOf x.m) x.now
  else if x.m.kd = 4 then misM R x.m.cl (nwOf x.m) (nw2Of x.m) x.now
  else if x.m.kd = 5 then cnBeginP R x.m.cl x.m.cc
  else if x.m.kd = 6 then cnTryP R x.m.cl x.m.cc x.m.cd x.m.ht x.now x.m.pf
  else if x.m.kd = 7 then cnAckP R x.m.cn x.m.cd x.m.ht x.now x.m.pf
  else if x.m.kd = 8 then cnConP R x.m.cn x.m.ht x.now x.m.pf
  else if x.m.kd = 9 then chBeginP R x.m.cn x.m.po x.m.pe x.m.od x.m.ve
  else if x.m.kd = 10 then chTryP R ⟨0, x.m.od, x.m.po, x.m.pe, x.m.cn, x.m.ce, x.m.ve⟩ x.m.ht x.now x.m.pf
  else if x.m.kd = 11 then chAckP R x.m.ch x.m.ce x.m.ht x.now x.m.pf
  else if x.m.kd = 12 then chFolP R x.m.ch 2 3 x.m.ht x.now x.m.pf
  else if x.m.kd = 13 then chCloP R x.m.ch
  else if x.m.kd = 14 then chFolP R x.m.ch 3 4 x.m.ht x.now x.m.pf
  else (83, R)
theorem readCh_ok {l : List UInt8} {c : ChV} (h : readCh l = some c) : l = chB c ∧ c.ok := by
  unfold readCh at h
  rcases e1 : rN l 0 with ⟨a, l1, f1⟩
  rw [e1] at h
  dsimp only at h
  rcases e2 : rF l1 f1 with ⟨b, l2, f2⟩
  rw [e2] at h
  dsimp only at h
  rcases e3 : rB l2 f2 with ⟨s3, l3, f3⟩
  rw [e3] at h
  dsimp only at h
  rcases e4 : rB l3 f3 with ⟨s4, l4, f4⟩
  rw [e4] at h
  dsimp only at h
  rcases e5 : rB l4 f4 with ⟨s5, l5, f5⟩
  rw [e5] at h
  dsimp only at h
  rcases e6 : rB l5 f5 with ⟨s6, l6, f6⟩
  rw [e6] at h
  dsimp only at h
  rcases e7 : rB l6 f6 with ⟨s7, l7, f7⟩
  rw [e7] at h
  dsimp only at h
  split at h
  · next he =>
    injection h with h
    obtain ⟨z7, h8⟩ := rEnd_zero he
    obtain ⟨z6, h7⟩ := rB_ok (l := l6) (f := f6) (by rw [e7]; exact z7)
    obtain ⟨z5, h6⟩ := rB_ok (l := l5) (f := f5) (by rw [e6]; exact z6)
    obtain ⟨z4, h5⟩ := rB_ok (l := l4) (f := f4) (by rw [e5]; exact z5)
    obtain ⟨z3, h4⟩ := rB_ok (l := l3) (f := f3) (by rw [e4]; exact z4)
    obtain ⟨z2, h3⟩ := rB_ok (l := l2) (f := f2) (by rw [e3]; exact z3)
    obtain ⟨z1, h2⟩ := rF_ok (l := l1) (f := f1) (by rw [e2]; exact z2)
    obtain ⟨z0, h1⟩ := rN_ok (l := l) (f := 0) (by rw [e1]; exact z1)
    rw [e7] at h7
    rw [e6] at h6
    rw [e5] at h5
    rw [e4] at h4
    rw [e3] at h3
    rw [e2] at h2
    rw [e1] at h1
    have b0 := rN_ltP l 0
    rw [e1] at b0
    have b3 := rB_le l2 f2
    rw [e3] at b3
    have b4 := rB_le l3 f3
    rw [e4] at b4
    have b5 := rB_le l4 f4
    rw [e5] at b5
    have b6 := rB_le l5 f5
    rw [e6] at b6
    have b7 := rB_le l6 f6
    rw [e7] at b7
    dsimp only at h1 h2 h3 h4 h5 h6 h7 b0 b3 b4 b5 b6 b7
    subst h
    refine ⟨?_, b0, by simpa [ByteArray.size] using b3, by simpa [ByteArray.size] using b4, by simpa [ByteArray.size] using b5, by simpa [ByteArray.size] using b6, by simpa [ByteArray.size] using b7⟩
    unfold chB
    dsimp only
    rw [encB_take _ b3, encB_take _ b4, encB_take _ b5, encB_take _ b6, encB_take _ b7]
    rw [h1, h2, h3, h4, h5, h6, h7, h8]
    simp only [List.append_assoc, List.append_nil, List.cons_append, List.nil_append]
  · cases h
theorem getCh_some {R : List Pr} {id : ByteArray} {c : ChV} (h : getCh R id = some c) : identB id = true ∧ getL R (kChn id) = some (chB c) ∧ c.ok := by
  unfold getCh at h
  split at h
  · next hi =>
    cases hl : getL R (kChn id) with
    | none => rw [hl] at h; cases h
    | some l =>
      rw [hl] at h
      obtain ⟨h1, h2⟩ := readCh_ok (show readCh l = some c from h)
      exact ⟨hi, by rw [h1], h2⟩
  · cases h
theorem inStV_ok {R : List Pr} {id : ByteArray} {st : Nat} : (inStV R id st).ok := by
  unfold inStV
  split
  · cases hc : getCh R id with
    | none => exact ⟨by show 0 < _; decide, by show 0 ≤ _; omega, by show 0 ≤ _; omega, by show 0 ≤ _; omega, by show 0 ≤ _; omega, by show 0 ≤ _; omega⟩
    | some c => exact (getCh_some hc).2.2
  · exact ⟨by show 0 < _; decide, by show 0 ≤ _; omega, by show 0 ≤ _; omega, by show 0 ≤ _; omega, by show 0 ≤ _; omega, by show 0 ≤ _; omega⟩
theorem openV_ok {R : List Pr} {via : ByteArray} : (openV R via).ok := by
  unfold openV
  split
  · exact gotN_ok
  · exact ⟨by show 0 < _; decide, by show 0 ≤ _; omega, by show 0 ≤ _; omega, by show 0 ≤ _; omega⟩
end Go.Proofs.YtmphegeiclgjbaaGreatDoor
namespace Go.Proofs.YtmphegeiclgjbaaGreatDoor
set_option maxRecDepth 100000
open Go Go.RowKit
set_option linter.unusedVariables false

/-! ### how many pairs -/
theorem setL_lenC (key : ByteArray) (v : List UInt8) (R : List Pr) : (setL key v R).length ≤ R.length + 1 := by
  unfold setL putL
  split
  · exact putG_length _ _ _
  · omega
theorem createR_len (R : List Pr) (h : HdV) (pe : Nat) : (createR R h pe).length ≤ R.length + 3 := by
  unfold createR newR
  refine Nat.le_trans (setL_lenC _ _ _) ?_
  have h1 := setL_lenC (kCli (newID R sClient)) (clB ⟨h.ch, h.ht, pe, false⟩) (setL (kNum sClient) (be ((numN R sClient + 1) % 18446744073709551616) 8) R)
  have h2 := setL_lenC (kNum sClient) (be ((numN R sClient + 1) % 18446744073709551616) 8) R
  omega
theorem updM_len (R : List Pr) (id : ByteArray) (u : NwW) (now : Nat) : (updM R id u now).2.length ≤ R.length + 3 := by
  unfold updM
  split
  · split
    · split
      · dsimp only
        split
        · exact Nat.le_trans (setL_lenC _ _ _) (by omega)
        · omega
      · dsimp only
        refine Nat.le_trans (setL_lenC _ _ _) ?_
        have := setL_lenC (kCons id u.h.ht) (csB ⟨u.h.tm, u.h.rt, u.h.nx⟩) R
        omega
    · dsimp only; omega
  · dsimp only; omega
theorem misM_len (R : List Pr) (id : ByteArray) (u v : NwW) (now : Nat) : (misM R id u v now).2.length ≤ R.length + 3 := by
  unfold misM
  split
  · split
    · split
      · dsimp only; omega
      · split
        · split
          · exact Nat.le_trans (setL_lenC _ _ _) (by omega)
          · dsimp only; omega
        · dsimp only; omega
    · dsimp only; omega
  · dsimp only; omega
theorem madeCn_len (R : List Pr) (c : CnV) : (madeCn R c).length ≤ R.length + 2 := by
  unfold madeCn newR
  refine Nat.le_trans (setL_lenC _ _ _) ?_
  have := setL_lenC (kNum sConn) (be ((numN R sConn + 1) % 18446744073709551616) 8) R
  omega
theorem step15_len (R : List Pr) (x : StepV) : (stepM15 R x).2.length ≤ R.length + 3 := by
  unfold stepM15
  split
  · dsimp only
    split
    · exact createR_len _ _ _
    · omega
  split
  · exact updM_len _ _ _ _
  split
  · exact misM_len _ _ _ _ _
  split
  · unfold cnBeginP
    dsimp only
    split
    · exact Nat.le_trans (madeCn_len _ _) (by omega)
    · omega
  split
  · unfold cnTryP
    dsimp only
    split
    · exact Nat.le_trans (madeCn_len _ _) (by omega)
    · omega
  split
  · unfold cnAckP
    dsimp only
    split
    · exact Nat.le_trans (setL_lenC _ _ _) (by omega)
    · omega
  split
  · unfold cnConP
    dsimp only
    split
    · exact Nat.le_trans (setL_lenC _ _ _) (by omega)
    · omega
  dsimp only
  omega
/-! ### how often a step may turn a connection -/
def TurnR (L : List Pr) (nm : ByteArray) (q t : Nat) : Prop := t = 0 ∨ (t = 1 ∧ ∃ (i : Nat) (h : i < L.length), i < q ∧ L[i].1 = kConn nm)
theorem TurnR.next {L : List Pr} {nm : ByteArray} {q t : Nat} (h : TurnR L nm q t) : TurnR L nm (q + 1) t := by
  rcases h with h | ⟨h1, i, h2, h3, h4⟩
  · exact .inl h
  · exact .inr ⟨h1, i, h2, by omega, h4⟩
theorem TurnR.turn {L : List Pr} (hr : Rise L) {nm : ByteArray} {q t : Nat} (h : TurnR L nm q t) (hq : q < L.length) (e : L[q].1 = kConn nm) : t = 0 ∧ TurnR L nm (q + 1) 1 := by
  rcases h with h | ⟨h1, i, h2, h3, h4⟩
  · exact ⟨h, .inr ⟨rfl, q, hq, by omega, e⟩⟩
  · have := List.pairwise_iff_getElem.1 hr i q h2 hq h3
    exact absurd (h4.trans e.symm) (ltS_ne this)
end Go.Proofs.YtmphegeiclgjbaaGreatDoor
