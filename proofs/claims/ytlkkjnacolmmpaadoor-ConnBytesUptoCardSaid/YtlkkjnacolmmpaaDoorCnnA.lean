
/- The walks of a connection's other end, shown; of a new connection, asked for; of one acknowledged, where that isn't shown. -/
import Derived.Test.YtlkkjnacolmmpaaDoorClnA0
import Derived.Test.YtlkkjnacolmmpaaDoorClnP0
namespace Go.Proofs.YtlkkjnacolmmpaaDoor
set_option maxRecDepth 100000
open Go Go.RowKit
set_option linter.unusedVariables false

theorem set4_new (w : World) (t : TypeId) (cs : Array Value) : (w.alloc (.cells cs t)).heap[w.heap.size]? = some (.cells cs t (0, 0)) := heap_alloc_new w _
set_option maxHeartbeats 2000000 in
theorem mirror_any (id : ByteArray) (st : Nat) (cl cc ct : ByteArray) (sn : Nat) (w : World) :
    Calls Tryd.prog 87 #[.string id, .agg #[.int .u64 (st : Int), .string cl, .string cc, .string ct], .int .u64 (sn : Int)] w fun e w' => e = .returned (.agg #[.int .u64 (sn : Int), .string cc, .string cl, .string id]) ∧ Below w.heap.size w w' := by
  have hbox := heap_alloc_new w (.cells #[.int .u64 (st : Int), .string cl, .string cc, .string ct] 34)
  have ha0 : Below w.heap.size w (w.alloc (.cells #[.int .u64 (st : Int), .string cl, .string cc, .string ct] 34)) := (Below.refl _ _).alloc (Nat.le_refl _) _
  have ha1 := ha0.alloc ha0.size (.cells #[.int .u64 0, .string ⟨#[]⟩, .string ⟨#[]⟩, .string ⟨#[]⟩] 34)
  have k1 := (Below.heap_alloc (w.alloc (.cells #[.int .u64 (st : Int), .string cl, .string cc, .string ct] 34)) (.cells #[.int .u64 0, .string ⟨#[]⟩, .string ⟨#[]⟩, .string ⟨#[]⟩] 34) _ (blk_lt hbox)).trans hbox
  have m1 := heap_alloc_new (w.alloc (.cells #[.int .u64 (st : Int), .string cl, .string cc, .string ct] 34)) (.cells #[.int .u64 0, .string ⟨#[]⟩, .string ⟨#[]⟩, .string ⟨#[]⟩] 34)
  rw [show (w.alloc (.cells #[.int .u64 (st : Int), .string cl, .string cc, .string ct] 34)).heap.size = w.heap.size + 1 by simp] at m1
  generalize hW : (w.alloc (.cells #[.int .u64 (st : Int), .string cl, .string cc, .string ct] 34)).alloc (.cells #[.int .u64 0, .string ⟨#[]⟩, .string ⟨#[]⟩, .string ⟨#[]⟩] 34) = w1 at *
  have c1 := blk_cell k1 1
  have c2 := blk_cell k1 2
  have r0 := blk_cell m1 0
  have q0 := blk_free m1 0
  have r1 := blk_cell m1 1
  have q1 := blk_free m1 1
  have r2 := blk_cell m1 2
  have q2 := blk_free m1 2
  have r3 := blk_cell m1 3
  have q3 := blk_free m1 3
  have hk7 := set4P m1 (.int .u64 (sn : Int)) (.string cc) (.string cl) (.string id)
  have hb7 := below_set4P ha1 (show w.heap.size ≤ w.heap.size + 1 by omega) (.int .u64 (sn : Int)) (.string cc) (.string cl) (.string id)
  have HD := Lib.hid (And.intro (blk_cell hk7 0) (And.intro (blk_cell hk7 1) (And.intro (blk_cell hk7 2) (blk_cell hk7 3))))
  clear hk7 hbox k1 m1 ha0 ha1
  go_enter Tryd.func87, Tryd.ntmps87
  go_wp2_with fail
  try rw [hW]
  clear hW
  go_wp2_with fail
  obtain ⟨d0, d1, d2, d3⟩ := HD.out
  refine bodyPost_ret (v := .agg #[.int .u64 (sn : Int), .string cc, .string cl, .string id]) ?_ rfl ⟨rfl, hb7⟩
  simp at d0 d1 d2 d3
  simp [results, Tryd.results87, go_sem, d0, d1, d2, d3]
set_option maxHeartbeats 8000000 in
theorem cnshown_any {W w : World} {y : Lyr} {l : List Lyr} {R : List Pr} {k : Nat} (h : At W y l R k w) (by_ cconn : ByteArray) (hby : by_.size ≤ 100000000) (hcc : cconn.size ≤ 100000000) (o : CnV) (h_st : o.st < 18446744073709551616) (h_cl : o.cl.size ≤ maxLen) (h_c2 : o.cc.size ≤ maxLen) (h_ct : o.ct.size ≤ maxLen) (ht now : Nat) (h_ht : ht < 18446744073709551616) (h_now : now < 18446744073709551616)
    (n : Int) (A : Option Addr) (m c : Nat) (p : Pf) (hp : ∀ Z, Below w.heap.size w Z → ProofV Z Z.heap.size (.agg #[.int .i64 n, .slice A m c]) p)
    (fr : TypeId × Nat × Nat) (hk : w.heap[0]? = some (.cells kVals fr.1 fr.2)) :
    Calls Tryd.prog 86 #[.pointer (some ⟨y.b, 0, none⟩), .string by_, .string cconn, o.val, .int .u64 (ht : Int), .agg #[.int .i64 n, .slice A m c], .int .u64 (now : Int)] w fun e w' => e = .returned (.int .i64 (verifyE R by_ ht now (kConn cconn) (cnB o) p)) ∧ Below w.heap.size w w' := by
  have HB : Hid (∀ Z : World, Calls Tryd.prog 15 #[o.val] Z fun e w' => ∃ v', e = .returned v' ∧ Own w' Z.heap.size v' (cnB o) ∧ Below Z.heap.size Z w') := Lib.hid fun Z => cnbytes_any o Z h_st h_cl h_c2 h_ct
  have HK : Hid (∀ Z : World, Calls Tryd.prog 11 #[.string cconn] Z fun e w' => e = .returned (.string (kConn cconn)) ∧ Z = w') := Lib.hid fun Z => cnkey_any cconn Z hcc
  have HV : Hid (∀ (Z : World) (hz : Below w.heap.size w Z) (v : Value) (B : Nat) (ho : Own Z B v (cnB o)), Calls Tryd.prog 119 #[.pointer (some ⟨y.b, 0, none⟩), .string by_, .int .u64 (ht : Int), .string (kConn cconn), v, .agg #[.int .i64 n, .slice A m c], .int .u64 (now : Int)] Z fun e w' => e = .returned (.int .i64 (verifyE R by_ ht now (kConn cconn) (cnB o) p)) ∧ Below Z.heap.size Z w') :=
    Lib.hid fun Z hz v B ho => clverify_any (h.up hz) by_ ht now hby h_ht h_now (kConn cconn) v _ n A m c p (fun Z2 hz2 => hp Z2 (below_chain hz hz.size hz2)) ho.rd fr ((hz.block _ (blk_lt hk)).trans hk)
  obtain ⟨st, cl, cc, ct⟩ := o
  unfold CnV.val at *
  dsimp only at HB HV ⊢
  generalize verifyE R by_ ht now (kConn cconn) (cnB ⟨st, cl, cc, ct⟩) p = E at *
  generalize cnB ⟨st, cl, cc, ct⟩ = L1 at *
  generalize kConn cconn = key at *
  have hbox := heap_alloc_new w (.cells #[.int .u64 (st : Int), .string cl, .string cc, .string ct] 34)
  have ha0 : Below w.heap.size w (w.alloc (.cells #[.int .u64 (st : Int), .string cl, .string cc, .string ct] 34)) := (Below.refl _ _).alloc (Nat.le_refl _) _
  have ha1 := ha0.alloc ha0.size (.cells #[.int .i64 n, .slice A m c] 77)
  have k1 := (Below.heap_alloc (w.alloc (.cells #[.int .u64 (st : Int), .string cl, .string cc, .string ct] 34)) (.cells #[.int .i64 n, .slice A m c] 77) _ (blk_lt hbox)).trans hbox
  have m1 := heap_alloc_new (w.alloc (.cells #[.int .u64 (st : Int), .string cl, .string cc, .string ct] 34)) (.cells #[.int .i64 n, .slice A m c] 77)
  rw [show (w.alloc (.cells #[.int .u64 (st : Int), .string cl, .string cc, .string ct] 34)).heap.size = w.heap.size + 1 by simp] at m1
  generalize hW0 : (w.alloc (.cells #[.int .u64 (st : Int), .string cl, .string cc, .string ct] 34)).alloc (.cells #[.int .i64 n, .slice A m c] 77) = W0 at *
  have hl1 := blk_lt k1
  have hl2 := blk_lt m1
  generalize hgg : w.heap.size = g0 at *
  have HC : Hid (∀ Z, Below W0.heap.size W0 Z → Z.cell? ⟨g0, 0, none⟩ = some (.int .u64 (st : Int)) ∧ Z.cell? ⟨g0, 1, none⟩ = some (.string cl) ∧ Z.cell? ⟨g0, 2, none⟩ = some (.string cc) ∧ Z.cell? ⟨g0, 3, none⟩ = some (.string ct) ∧ Z.cell? ⟨g0 + 1, 0, none⟩ = some (.int .i64 n) ∧ Z.cell? ⟨g0 + 1, 1, none⟩ = some (.slice A m c)) := Lib.hid fun Z hz => ⟨blk_cell ((hz.block _ hl1).trans k1) 0, blk_cell ((hz.block _ hl1).trans k1) 1, blk_cell ((hz.block _ hl1).trans k1) 2, blk_cell ((hz.block _ hl1).trans k1) 3, blk_cell ((hz.block _ hl2).trans m1) 0, blk_cell ((hz.block _ hl2).trans m1) 1⟩
  have hkD : Below W0.heap.size W0 W0.drew := Below.drew (Below.refl _ _)
  have hs1 : g0 ≤ W0.heap.size := by rw [← hgg]; exact ha1.size
  have HV2 : Hid (∀ (Z : World) (hz : Below W0.heap.size W0 Z) (v : Value) (B : Nat) (ho : Own Z B v L1), Calls Tryd.prog 119 #[.pointer (some ⟨y.b, 0, none⟩), .string by_, .int .u64 (ht : Int), .string key, v, .agg #[.int .i64 n, .slice A m c], .int .u64 (now : Int)] Z fun e w' => e = .returned (.int .i64 E) ∧ Below Z.heap.size Z w') :=
    Lib.hid fun Z hz v B ho => HV.out Z (below_chain ha1 hs1 hz) v B ho
  clear hbox k1 m1 hl1 hl2 h hp hk HV ha0 h_st h_cl h_c2 h_ct
  go_enter Tryd.func86, Tryd.ntmps86
  go_wp2_with fail
  try rw [hgg]
  try rw [hW0]
  clear hW0
  go_region_held_law (fun Z => Z.cell? ⟨g0, 0, none⟩ = some (.int .u64 (st : Int)) ∧ Z.cell? ⟨g0, 1, none⟩ = some (.string cl) ∧ Z.cell? ⟨g0, 2, none⟩ = some (.string cc) ∧ Z.cell? ⟨g0, 3, none⟩ = some (.string ct) ∧ Z.cell? ⟨g0 + 1, 0, none⟩ = some (.int .i64 n) ∧ Z.cell? ⟨g0 + 1, 1, none⟩ = some (.slice A m c))
    (with_reducible first | exact HC.out _ hk2 | exact HC.out _ hk1 | exact HC.out _ hkD)
    ((first
      | (go_at_call 11; refine (HK.out _).mono ?_; rintro e w9 ⟨rfl, rfl⟩)
      | (go_at_call 15; refine (HB.out _).mono ?_; rintro e w1 ⟨v1, rfl, ho1, hb1⟩; have hk1 := below_chain hkD hkD.size hb1)
      | (go_at_call 119; refine (HV2.out _ hk1 _ _ ho1).mono ?_; rintro e w2 ⟨rfl, hb2⟩; have hk2 := below_chain hk1 hk1.size hb2)))
  all_goals
    have hfin := below_chain ha1 hs1 hk2
    go_wp2_with fail
    go_ret
    exact ⟨rfl, hfin⟩
def madeCn (R : List Pr) (c : CnV) : List Pr := setL (kConn (newID R sConn)) (cnB c) (newR R sConn)
set_option maxHeartbeats 8000000 in
theorem cnmade_any {W w : World} {y : Lyr} {l : List Lyr} {R : List Pr} {k : Nat} (h : At W y l R k w) (hn : y.n + k + 2 ≤ maxLen) (hs : numN R sConn < 10) (o : CnV) (h_st : o.st < 18446744073709551616) (h_cl : o.cl.size ≤ maxLen) (h_c2 : o.cc.size ≤ maxLen) (h_ct : o.ct.size ≤ maxLen) :
    Calls Tryd.prog 85 #[.pointer (some ⟨y.b, 0, none⟩), o.val] w fun e w' => e = .returned (.string (newID R sConn)) ∧ At W y l (madeCn R o) (k + 2) w' ∧ Kept w w' := by
  have zid := numN_small R sConn hs
  have z4 : sConn.size = 4 := rfl
  have hid : (newID R sConn).size ≤ 100 := by omega
  have HB : Hid (∀ Z : World, Calls Tryd.prog 15 #[o.val] Z fun e w' => ∃ v', e = .returned v' ∧ Own w' Z.heap.size v' (cnB o) ∧ Below Z.heap.size Z w') := Lib.hid fun Z => cnbytes_any o Z h_st h_cl h_c2 h_ct
  have HK : Hid (∀ Z : World, Calls Tryd.prog 11 #[.string (newID R sConn)] Z fun e w' => e = .returned (.string (kConn (newID R sConn))) ∧ Z = w') := Lib.hid fun Z => cnkey_any _ Z (by omega)
  obtain ⟨st, cl, cc, ct⟩ := o
  unfold CnV.val at *
  dsimp only at HB ⊢
  unfold madeCn
  have hbox := heap_alloc_new w (.cells #[.int .u64 (st : Int), .string cl, .string cc, .string ct] 34)
  have ha0 : Below w.heap.size w (w.alloc (.cells #[.int .u64 (st : Int), .string cl, .string cc, .string ct] 34)) := (Below.refl _ _).alloc (Nat.le_refl _) _
  have A0 := h.up ha0
  generalize hW0 : w.alloc (.cells #[.int .u64 (st : Int), .string cl, .string cc, .string ct] 34) = W0 at *
  have HN := Lib.hid (newid_any A0 (by omega) sConn (by decide +kernel) hs)
  have HS : Hid (∀ (Z : World) (hz : At W y l (newR R sConn) (k + 1) Z) (v : Value) (B : Nat) (ho : Own Z B v (cnB ⟨st, cl, cc, ct⟩)), Calls Tryd.prog 40 #[.pointer (some ⟨y.b, 0, none⟩), .string (kConn (newID R sConn)), v] Z fun e w' => (∃ c, e = .returned (.int .i64 c)) ∧ At W y l (setL (kConn (newID R sConn)) (cnB ⟨st, cl, cc, ct⟩) (newR R sConn)) (k + 1 + 1) w' ∧ Kept Z w') :=
    Lib.hid fun Z hz v B ho => (hz.set (by omega) (kConn (newID R sConn)) (by rw [kConn_size]; unfold maxLen; omega) v _ ho.rd).mono fun e w' ⟨h1, h2, h3⟩ => ⟨⟨_, h1⟩, h2, h3⟩
  have hkW : Kept w W0 := Kept.of_belowX ha0
  generalize setL (kConn (newID R sConn)) (cnB ⟨st, cl, cc, ct⟩) (newR R sConn) = R2 at *
  generalize cnB ⟨st, cl, cc, ct⟩ = L1 at *
  generalize newR R sConn = R1 at *
  generalize kConn (newID R sConn) = key at *
  generalize newID R sConn = ID at *
  unfold sConn at HN
  generalize hgg : w.heap.size = g0 at *
  have HC : Hid (∀ Z, Kept W0 Z → Z.cell? ⟨g0, 0, none⟩ = some (.int .u64 (st : Int)) ∧ Z.cell? ⟨g0, 1, none⟩ = some (.string cl) ∧ Z.cell? ⟨g0, 2, none⟩ = some (.string cc) ∧ Z.cell? ⟨g0, 3, none⟩ = some (.string ct)) := Lib.hid fun Z hz => ⟨hz.cell (blk_cell hbox 0), hz.cell (blk_cell hbox 1), hz.cell (blk_cell hbox 2), hz.cell (blk_cell hbox 3)⟩
  clear hbox h A0 hn hs zid z4 hid h_st h_cl h_c2 h_ct
  go_enter Tryd.func85, Tryd.ntmps85
  go_wp2_with fail
  try rw [hW0]
  clear hW0
  try rw [hgg]
  refine HN.out.mono ?_
  rintro e w1 ⟨rfl, A1, hk1⟩
  have hkD := hk1.transX (Kept.drew w1)
  have A1d := A1.up (Below.drew (Below.refl _ _))
  have hz0 : Below w1.drew.heap.size w1.drew w1.drew := Below.refl _ _
  clear HN A1
  go_wp2_with fail
  go_region_held_law (fun Z => Z.cell? ⟨g0, 0, none⟩ = some (.int .u64 (st : Int)) ∧ Z.cell? ⟨g0, 1, none⟩ = some (.string cl) ∧ Z.cell? ⟨g0, 2, none⟩ = some (.string cc) ∧ Z.cell? ⟨g0, 3, none⟩ = some (.string ct))
    (with_reducible first | exact HC.out _ hkF | exact HC.out _ hk2 | exact HC.out _ hkD)
    ((first
      | (go_at_call 11; refine (HK.out _).mono ?_; rintro e w9 ⟨rfl, rfl⟩)
      | (go_at_call 15; refine (HB.out _).mono ?_; rintro e w2 ⟨v2, rfl, ho2, hb2⟩; have A2 := A1d.up hb2; have hk2 := hkD.transX (Kept.of_belowX hb2))
      | (go_at_call 40; refine (HS.out _ A2 _ _ ho2).mono ?_; rintro e w3 ⟨⟨c3, rfl⟩, AS, hk3⟩; have hkF := hk2.transX hk3)))
  all_goals
    have hfin := hkW.transX hkF
    go_wp2_with fail
    go_ret
    exact ⟨rfl, AS, hfin⟩
def cnBeginE (R : List Pr) (id other : ByteArray) : Int := if (getCl R id).isSome = true then (if identB other = true then 0 else 40) else 100
set_option maxHeartbeats 4000000 in
theorem cnbegin_any {W w : World} {y : Lyr} {l : List Lyr} {R : List Pr} {k : Nat} (h : At W y l R k w) (hn : y.n + k + 2 ≤ maxLen) (hs : numN R sConn < 10) (id other : ByteArray) (h_id : id.size ≤ 100000000) (h_o : other.size ≤ 100000000) :
    Calls Tryd.prog 43 #[.pointer (some ⟨y.b, 0, none⟩), .string id, .string other] w fun e w' => e = .returned (.tuple #[.string (if cnBeginE R id other = 0 then newID R sConn else ⟨#[]⟩), .int .i64 (cnBeginE R id other)]) ∧ At W y l (if cnBeginE R id other = 0 then madeCn R ⟨1, id, other, ⟨#[]⟩⟩ else R) (k + 2) w' ∧ Kept w w' := by
  have HG := Lib.hid (clget_any h id h_id)
  have HI : Hid (∀ Z : World, Calls Tryd.prog 46 #[.string other] Z fun e w' => e = .returned (.bool (identB other)) ∧ Z = w') := Lib.hid fun Z => ident_any other Z (by unfold maxLen; omega)
  have HM : Hid (∀ Z, Below w.heap.size w Z → Calls Tryd.prog 85 #[.pointer (some ⟨y.b, 0, none⟩), .agg #[.int .u64 1, .string id, .string other, .string ⟨#[]⟩]] Z fun e w' => e = .returned (.string (newID R sConn)) ∧ At W y l (madeCn R ⟨1, id, other, ⟨#[]⟩⟩) (k + 2) w' ∧ Kept Z w') :=
    Lib.hid fun Z hz => cnmade_any (h.up hz) hn hs ⟨1, id, other, ⟨#[]⟩⟩ (by show 1 < _; decide) (by show id.size ≤ _; unfold maxLen; omega) (by show other.size ≤ _; unfold maxLen; omega) (by show 0 ≤ _; omega)
  have HA := Lib.hid (fun (Z : World) (hz : Below w.heap.size w Z) => (h.up hz).more (show k ≤ k + 2 by omega))
  unfold cnBeginE
  generalize madeCn R ⟨1, id, other, ⟨#[]⟩⟩ = R2 at *
  generalize newID R sConn = ID at *
  have hcl : clV (getCl R id) = .tuple #[((getCl R id).getD ClV.none).val, .bool (getCl R id).isSome] := by cases getCl R id <;> rfl
  rw [hcl] at HG
  generalize (getCl R id).isSome = ok at *
  generalize (getCl R id).getD ClV.none = V at *
  generalize identB other = bi at *
  obtain ⟨ch, la, pe, frz⟩ := V
  unfold ClV.val at HG
  dsimp only at HG
  clear h hn hs h_id h_o hcl
  cases ok with
  | false =>
    simp only [Bool.false_eq_true, if_false, if_neg (show ¬ (100 : Int) = 0 by decide)]
    go_enter Tryd.func43, Tryd.ntmps43
    go_wp2_with fail
    refine HG.out.mono ?_
    rintro e w1 ⟨rfl, hb1⟩
    have b2 := hb1.alloc hb1.size (.cells #[.string ch, .int .u64 (la : Int), .int .u64 (pe : Int), .bool frz] 108)
    have A2 := HA.out _ b2
    have k2 := Kept.of_belowX b2
    clear HG HI HM HA hb1
    go_wp2_with fail
    go_ret2
    exact ⟨rfl, A2, k2⟩
  | true =>
    cases bi with
    | false =>
      simp only [Bool.false_eq_true, if_false, if_true, if_neg (show ¬ (40 : Int) = 0 by decide)]
      go_enter Tryd.func43, Tryd.ntmps43
      go_wp2_with fail
      refine HG.out.mono ?_
      rintro e w1 ⟨rfl, hb1⟩
      have b2 := hb1.alloc hb1.size (.cells #[.string ch, .int .u64 (la : Int), .int .u64 (pe : Int), .bool frz] 108)
      have A2 := HA.out _ b2
      have k2 := Kept.of_belowX b2
      clear HG HM HA hb1
      go_wp2_with fail
      refine (HI.out _).mono ?_
      rintro e w3 ⟨rfl, rfl⟩
      go_wp2_with fail
      go_ret2
      exact ⟨rfl, A2, k2⟩
    | true =>
      simp only [if_true]
      go_enter Tryd.func43, Tryd.ntmps43
      go_wp2_with fail
      refine HG.out.mono ?_
      rintro e w1 ⟨rfl, hb1⟩
      have b2 := hb1.alloc hb1.size (.cells #[.string ch, .int .u64 (la : Int), .int .u64 (pe : Int), .bool frz] 108)
      have HM2 := Lib.hid (HM.out _ b2)
      have k2 := Kept.of_belowX b2
      clear HG HA hb1 HM b2
      go_wp2_with fail
      refine (HI.out _).mono ?_
      rintro e w3 ⟨rfl, rfl⟩
      clear HI
      go_wp2_with fail
      refine HM2.out.mono ?_
      rintro e w4 ⟨rfl, A4, k4⟩
      have kf := k2.transX k4
      go_wp2_with fail
      go_ret2
      exact ⟨rfl, A4, kf⟩
set_option maxHeartbeats 8000000 in
theorem cnack_no {W w : World} {y : Lyr} {l : List Lyr} {R : List Pr} {k : Nat} (h : At W y l R k w) (id cconn : ByteArray) (hid : id.size ≤ 100000000) (hcc : cconn.size ≤ 100000000) (o : CnV) (ho : getCn R id = some o) (h1 : o.st = 1) (hi : identB cconn = true) (h_cl : o.cl.size ≤ 100000000) (h_c2 : o.cc.size ≤ maxLen) (ht now : Nat) (h_ht : ht < 18446744073709551616) (h_now : now < 18446744073709551616)
    (n : Int) (A : Option Addr) (m c : Nat) (p : Pf) (hp : ∀ Z, Below w.heap.size w Z → ProofV Z Z.heap.size (.agg #[.int .i64 n, .slice A m c]) p)
    (fr : TypeId × Nat × Nat) (hk : w.heap[0]? = some (.cells kVals fr.1 fr.2)) (E : Int) (hE : verifyE R o.cl ht now (kConn cconn) (cnB ⟨2, o.cc, o.cl, id⟩) p = E) (hne : E ≠ 0) :
    Calls Tryd.prog 44 #[.pointer (some ⟨y.b, 0, none⟩), .string id, .string cconn, .int .u64 (ht : Int), .agg #[.int .i64 n, .slice A m c], .int .u64 (now : Int)] w fun e w' => e = .returned (.int .i64 E) ∧ Below w.heap.size w w' := by
  obtain ⟨st, cl, cc, ct⟩ := o
  dsimp only at h1 h_cl h_c2 hE
  subst h1
  have hbox := heap_alloc_new w (.cells #[.int .i64 n, .slice A m c] 77)
  have ha0 : Below w.heap.size w (w.alloc (.cells #[.int .i64 n, .slice A m c] 77)) := (Below.refl _ _).alloc (Nat.le_refl _) _
  have HG := Lib.hid (cnget_any (h.up ha0) id hid)
  rw [ho] at HG
  unfold cnV CnV.val at HG
  dsimp only at HG
  have HI : Hid (∀ Z : World, Calls Tryd.prog 46 #[.string cconn] Z fun e w' => e = .returned (.bool true) ∧ Z = w') := Lib.hid fun Z => by
    rw [← hi]
    exact ident_any cconn Z (by unfold maxLen; omega)
  have HM := Lib.hid (fun Z : World => mirror_any id 1 cl cc ct 2 Z)
  have HSH : Hid (∀ Z, Below w.heap.size w Z → Calls Tryd.prog 86 #[.pointer (some ⟨y.b, 0, none⟩), .string cl, .string cconn, .agg #[.int .u64 2, .string cc, .string cl, .string id], .int .u64 (ht : Int), .agg #[.int .i64 n, .slice A m c], .int .u64 (now : Int)] Z fun e w' => e = .returned (.int .i64 E) ∧ Below Z.heap.size Z w') :=
    Lib.hid fun Z hz => by
      have := cnshown_any (h.up hz) cl cconn h_cl hcc ⟨2, cc, cl, id⟩ (by show 2 < _; decide) (by show cc.size ≤ _; exact h_c2) (by show cl.size ≤ _; unfold maxLen; omega) (by show id.size ≤ _; unfold maxLen; omega) ht now h_ht h_now n A m c p (fun Z2 hz2 => hp Z2 (below_chain hz hz.size hz2)) fr ((hz.block _ (blk_lt hk)).trans hk)
      rw [hE] at this
      exact this
  have hneB : (E != 0) = true := by simpa using hne
  generalize hW0 : w.alloc (.cells #[.int .i64 n, .slice A m c] 77) = W0 at *
  have hl0 := blk_lt hbox
  clear h ho hi hp hk hE hne h_cl h_c2 h_ht h_now hid hcc
  go_enter Tryd.func44, Tryd.ntmps44
  go_wp2_with fail
  try rw [hW0]
  clear hW0
  refine HG.out.mono ?_
  rintro e w1 ⟨rfl, hb1⟩
  have q1 := below_chain ha0 ha0.size hb1
  have k1 := (hb1.block _ hl0).trans hbox
  have k2 := (Below.heap_alloc w1 (.cells #[.int .u64 1, .string cl, .string cc, .string ct] 34) _ (blk_lt k1)).trans k1
  have m2 := heap_alloc_new w1 (.cells #[.int .u64 1, .string cl, .string cc, .string ct] 34)
  have q2 := q1.alloc q1.size (.cells #[.int .u64 1, .string cl, .string cc, .string ct] 34)
  have s0 := blk_cell m2 0
  clear HG hbox ha0 hb1 q1 k1 hl0
  go_wp2_with fail
  generalize w1.alloc (.cells #[.int .u64 1, .string cl, .string cc, .string ct] 34) = w2 at *
  generalize w1.heap.size = g1 at *
  refine (HI.out _).mono ?_
  rintro e w3 ⟨rfl, rfl⟩
  clear HI s0
  have hl1 := blk_lt m2
  have hl2 := blk_lt k2
  have hs2 := q2.size
  have HSH2 : Hid (∀ Z, Below w2.heap.size w2 Z → Calls Tryd.prog 86 #[.pointer (some ⟨y.b, 0, none⟩), .string cl, .string cconn, .agg #[.int .u64 2, .string cc, .string cl, .string id], .int .u64 (ht : Int), .agg #[.int .i64 n, .slice A m c], .int .u64 (now : Int)] Z fun e w' => e = .returned (.int .i64 E) ∧ Below Z.heap.size Z w') := Lib.hid fun Z hz => HSH.out Z (below_chain q2 hs2 hz)
  generalize hgg : w.heap.size = g0 at *
  have HC : Hid (∀ Z, Below w2.heap.size w2 Z → Z.cell? ⟨g1, 0, none⟩ = some (.int .u64 1) ∧ Z.cell? ⟨g1, 1, none⟩ = some (.string cl) ∧ Z.cell? ⟨g1, 2, none⟩ = some (.string cc) ∧ Z.cell? ⟨g1, 3, none⟩ = some (.string ct) ∧ Z.cell? ⟨g0, 0, none⟩ = some (.int .i64 n) ∧ Z.cell? ⟨g0, 1, none⟩ = some (.slice A m c)) := Lib.hid fun Z hz => ⟨blk_cell ((hz.block _ hl1).trans m2) 0, blk_cell ((hz.block _ hl1).trans m2) 1, blk_cell ((hz.block _ hl1).trans m2) 2, blk_cell ((hz.block _ hl1).trans m2) 3, blk_cell ((hz.block _ hl2).trans k2) 0, blk_cell ((hz.block _ hl2).trans k2) 1⟩
  have hkD : Below w2.heap.size w2 w2.drew := Below.drew (Below.refl _ _)
  have hs3 : g0 ≤ w2.heap.size := hs2
  clear k2 m2 hl1 hl2 HSH hs2
  go_wp2_with fail
  go_region_held_law (fun Z => Z.cell? ⟨g1, 0, none⟩ = some (.int .u64 1) ∧ Z.cell? ⟨g1, 1, none⟩ = some (.string cl) ∧ Z.cell? ⟨g1, 2, none⟩ = some (.string cc) ∧ Z.cell? ⟨g1, 3, none⟩ = some (.string ct) ∧ Z.cell? ⟨g0, 0, none⟩ = some (.int .i64 n) ∧ Z.cell? ⟨g0, 1, none⟩ = some (.slice A m c))
    (with_reducible first | exact HC.out _ hk2 | exact HC.out _ hk1 | exact HC.out _ hkD)
    ((first
      | (go_at_call 87; refine (HM.out _).mono ?_; rintro e w4 ⟨rfl, hb4⟩; have hk1 := below_chain hkD hkD.size hb4)
      | (go_at_call 86; refine (HSH2.out _ hk1).mono ?_; rintro e w5 ⟨rfl, hb5⟩; have hk2 := below_chain hk1 hk1.size hb5)))
  all_goals
    have hfin := below_chain q2 hs3 hk2
    go_wp2_with fail
    go_ret
    exact ⟨rfl, by rw [hgg]; exact hfin⟩
end Go.Proofs.YtlkkjnacolmmpaaDoor
