
/- The law: a connection's bytes and key are the document's. -/
import Derived.Test.YtlkkjnacolmmpaaDoorCnnF
import Derived.Test.YtlkkjnacolmmpaaDoorRConB
import Derived.Test.YtlkkjnacolmmpaaDoorRConG
namespace Go.Proofs.YtlkkjnacolmmpaaDoor
set_option maxRecDepth 100000
open Go Go.RowKit
set_option linter.unusedVariables false

set_option maxHeartbeats 8000000 in
theorem cnbytes_law (w : World) (st : Nat) (cl cc ct a : ByteArray) (h_st : st < 18446744073709551616) (h_cl : cl.size ≤ maxLen) (h_cc : cc.size ≤ maxLen) (h_ct : ct.size ≤ maxLen) (ha : a.size ≤ 100000000)
    (fr : TypeId × Nat × Nat) (hk : w.heap[0]? = some (.cells kVals fr.1 fr.2)) :
    Calls Tryd.prog 4 #[.agg #[.int .u64 (st : Int), .string cl, .string cc, .string ct], .string a] w fun e w' => e = .returned (.bool true) ∧ Below w.heap.size w w' := by
  have HF : Hid (∀ Z, Below w.heap.size w Z → Calls Tryd.prog 10 #[] Z fun e w' => e = .returned (.bool true) ∧ Below Z.heap.size Z w') := Lib.hid fun Z hz => cnfixed_any Z fr ((hz.block _ (blk_lt hk)).trans hk)
  have HK1 := Lib.hid (fun Z : World => cnkey_any a Z ha)
  have HK2 := Lib.hid (fun Z : World => rcnkey_any a Z ha)
  generalize kConn a = kk at HK1 HK2
  have hkk : (kk.toList == kk.toList) = true := beq_self_eq_true _
  have HB : Hid (∀ Z : World, Calls Tryd.prog 15 #[.agg #[.int .u64 (st : Int), .string cl, .string cc, .string ct]] Z fun e w' => ∃ v', e = .returned v' ∧ Own w' Z.heap.size v' (cnB ⟨st, cl, cc, ct⟩) ∧ Below Z.heap.size Z w') := Lib.hid fun Z => cnbytes_any ⟨st, cl, cc, ct⟩ Z h_st h_cl h_cc h_ct
  have HB' : Hid (∀ Z : World, Calls Tryd.prog 16 #[.agg #[.int .u64 (st : Int), .string cl, .string cc, .string ct]] Z fun e w' => ∃ v', e = .returned v' ∧ Own w' Z.heap.size v' (cnB ⟨st, cl, cc, ct⟩) ∧ Below Z.heap.size Z w') := Lib.hid fun Z => rcnbytes_any ⟨st, cl, cc, ct⟩ Z h_st h_cl h_cc h_ct
  generalize cnB ⟨st, cl, cc, ct⟩ = LB at *
  obtain ⟨S, hS⟩ : ∃ S : ByteArray, S = ⟨LB.toArray⟩ := ⟨_, rfl⟩
  have HCS : Hid (∀ (Z : World) (v : Value), Rd Z Z.heap.size v LB → (convert 41 9 v).run Tryd.prog Z = .ok (.string S) Z) := Lib.hid fun Z v h => by rw [hS]; exact run_str Tryd.underlying41 Tryd.underlying5 Tryd.isString h
  have hss : (S.toList == S.toList) = true := beq_self_eq_true _
  have hbox := heap_alloc_new w (.cells #[.int .u64 (st : Int), .string cl, .string cc, .string ct] 34)
  have ha0 : Below w.heap.size w (w.alloc (.cells #[.int .u64 (st : Int), .string cl, .string cc, .string ct] 34)) := (Below.refl _ _).alloc (Nat.le_refl _) _
  generalize hW0 : w.alloc (.cells #[.int .u64 (st : Int), .string cl, .string cc, .string ct] 34) = W0 at *
  clear hS hk h_st h_cl h_cc h_ct ha
  go_enter Tryd.func4, Tryd.ntmps4
  go_wp2_with fail
  try rw [hW0]
  clear hW0
  refine (HF.out _ ha0).mono ?_
  rintro e w1 ⟨rfl, hb1⟩
  have b1 := below_chain ha0 ha0.size hb1
  have k1 := (hb1.block _ (blk_lt hbox)).trans hbox
  clear HF hb1 hbox ha0
  go_wp2_with fail
  refine (HK1.out _).mono ?_
  rintro e w4 ⟨rfl, rfl⟩
  go_wp2_with fail
  refine (HK2.out _).mono ?_
  rintro e w4 ⟨rfl, rfl⟩
  have c0 := blk_cell k1 0
  have c1 := blk_cell k1 1
  have c2 := blk_cell k1 2
  have c3 := blk_cell k1 3
  have k2 := (Below.heap_alloc w1 (.cells #[.int .u64 (st : Int), .string cl, .string cc, .string ct] 37) _ (blk_lt k1)).trans k1
  have m2 := heap_alloc_new w1 (.cells #[.int .u64 (st : Int), .string cl, .string cc, .string ct] 37)
  have b2 := b1.alloc b1.size (.cells #[.int .u64 (st : Int), .string cl, .string cc, .string ct] 37)
  clear HK1 HK2 k1
  go_wp2_with fail
  generalize w1.alloc (.cells #[.int .u64 (st : Int), .string cl, .string cc, .string ct] 37) = w2 at *
  generalize w1.heap.size = g1 at *
  clear c0 c1 c2 c3
  have hl1 := blk_lt k2
  have hl2 := blk_lt m2
  generalize hgg : w.heap.size = g0 at *
  have HC : Hid (∀ Z, Below w2.heap.size w2 Z → Z.cell? ⟨g0, 0, none⟩ = some (.int .u64 (st : Int)) ∧ Z.cell? ⟨g0, 1, none⟩ = some (.string cl) ∧ Z.cell? ⟨g0, 2, none⟩ = some (.string cc) ∧ Z.cell? ⟨g0, 3, none⟩ = some (.string ct) ∧ Z.cell? ⟨g1, 0, none⟩ = some (.int .u64 (st : Int)) ∧ Z.cell? ⟨g1, 1, none⟩ = some (.string cl) ∧ Z.cell? ⟨g1, 2, none⟩ = some (.string cc) ∧ Z.cell? ⟨g1, 3, none⟩ = some (.string ct)) := Lib.hid fun Z hz => ⟨blk_cell ((hz.block _ hl1).trans k2) 0, blk_cell ((hz.block _ hl1).trans k2) 1, blk_cell ((hz.block _ hl1).trans k2) 2, blk_cell ((hz.block _ hl1).trans k2) 3, blk_cell ((hz.block _ hl2).trans m2) 0, blk_cell ((hz.block _ hl2).trans m2) 1, blk_cell ((hz.block _ hl2).trans m2) 2, blk_cell ((hz.block _ hl2).trans m2) 3⟩
  have hkD : Below w2.heap.size w2 w2.drew := Below.drew (Below.refl _ _)
  have hs3 : g0 ≤ w2.heap.size := by rw [← hgg]; exact b2.size
  clear k2 m2 hl1 hl2 b1
  go_region_held_law (fun Z => Z.cell? ⟨g0, 0, none⟩ = some (.int .u64 (st : Int)) ∧ Z.cell? ⟨g0, 1, none⟩ = some (.string cl) ∧ Z.cell? ⟨g0, 2, none⟩ = some (.string cc) ∧ Z.cell? ⟨g0, 3, none⟩ = some (.string ct) ∧ Z.cell? ⟨g1, 0, none⟩ = some (.int .u64 (st : Int)) ∧ Z.cell? ⟨g1, 1, none⟩ = some (.string cl) ∧ Z.cell? ⟨g1, 2, none⟩ = some (.string cc) ∧ Z.cell? ⟨g1, 3, none⟩ = some (.string ct))
    (with_reducible first | exact HC.out _ hk2 | exact HC.out _ hk1 | exact HC.out _ hkD)
    ((first
      | (go_at_call 15; refine (HB.out _).mono ?_; rintro e w4 ⟨v4, rfl, ho4, hb4⟩; have hk1 := below_chain hkD hkD.size hb4; have hc4 := HCS.out w4 v4 ho4.rd)
      | (go_at_call 16; refine (HB'.out _).mono ?_; rintro e w5 ⟨v5, rfl, ho5, hb5⟩; have hk2 := below_chain hk1 hk1.size hb5; have hc5 := HCS.out w5 v5 ho5.rd; have hc45 := HCS.out w5 v4 ((ho4.rd).up (Nat.le_refl _) hb5))))
  all_goals
    have hfin := below_chain b2 hs3 hk2
    go_wp2_with fail
    go_ret
    exact ⟨rfl, by rw [hgg]; exact hfin⟩
end Go.Proofs.YtlkkjnacolmmpaaDoor
