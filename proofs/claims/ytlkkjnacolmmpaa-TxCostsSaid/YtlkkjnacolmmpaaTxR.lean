
/- The walks of a transaction's reader, where nothing is wrong. -/
import Derived.Test.YtlkkjnacolmmpaaTxW
import Derived.Test.YtlkkjnacolmmpaaLimbN0
namespace Go.Proofs.Ytlkkjnacolmmpaa
set_option maxRecDepth 100000
open Go Go.RowKit
set_option linter.unusedVariables false

/-- a transaction's reader at gr over the bytes' reader at g, without a fault of an amount -/
def TxRd (W : World) (gr g : Nat) : Prop := W.heap[gr]? = some (.cells #[.pointer (some ⟨g, 0, none⟩), .int .i64 0] 62 (0, 0))
set_option maxHeartbeats 2000000 in
theorem txt_any {w : World} {gr g lo : Nat} {l : List UInt8} {f : Int} (h : TxRd w gr g) (hr : Rdr w lo g l f) :
    Calls Try.prog 16 #[.pointer (some ⟨gr, 0, none⟩)] w fun e w' => e = .returned (.string ⟨(rB l f).1.toArray⟩) ∧ Rdr w' lo g (rB l f).2.1 (rB l f).2.2 ∧ w.grownBy w' (some g) := by
  have c0 : w.cell? ⟨gr, 0, none⟩ = some (.pointer (some ⟨g, 0, none⟩)) := blk_cell h 0
  have HR := Lib.hid (rdT_any hr)
  clear h hr
  go_enter Try.func16, Try.ntmps16
  go_wp2_with fail
  refine HR.out.mono ?_
  rintro e w1 ⟨rfl, h1, h2⟩
  go_wp2_with fail
  go_ret
  exact ⟨rfl, h1, h2⟩
set_option maxHeartbeats 2000000 in
theorem txn_any {w : World} {gr g lo : Nat} {l : List UInt8} {f : Int} (h : TxRd w gr g) (hr : Rdr w lo g l f) :
    Calls Try.prog 17 #[.pointer (some ⟨gr, 0, none⟩)] w fun e w' => e = .returned (.int .u64 ((rN l f).1 : Nat)) ∧ Rdr w' lo g (rN l f).2.1 (rN l f).2.2 ∧ w.grownBy w' (some g) := by
  have c0 : w.cell? ⟨gr, 0, none⟩ = some (.pointer (some ⟨g, 0, none⟩)) := blk_cell h 0
  have HR := Lib.hid (rN_any hr)
  clear h hr
  go_enter Try.func17, Try.ntmps17
  go_wp2_with fail
  refine HR.out.mono ?_
  rintro e w1 ⟨rfl, h1, h2⟩
  go_wp2_with fail
  go_ret
  exact ⟨rfl, h1, h2⟩
set_option maxHeartbeats 2000000 in
theorem txb_any {w : World} {gr g lo : Nat} {l : List UInt8} {f : Int} (h : TxRd w gr g) (hr : Rdr w lo g l f) :
    Calls Try.prog 21 #[.pointer (some ⟨gr, 0, none⟩)] w fun e w' => ∃ v, e = .returned v ∧ Own w' w.heap.size v (rB l f).1 ∧ Rdr w' lo g (rB l f).2.1 (rB l f).2.2 ∧ w.grownBy w' (some g) := by
  have c0 : w.cell? ⟨gr, 0, none⟩ = some (.pointer (some ⟨g, 0, none⟩)) := blk_cell h 0
  have HR := Lib.hid (rdB_any hr)
  clear h hr
  go_enter Try.func21, Try.ntmps21
  go_wp2_with fail
  refine HR.out.mono ?_
  rintro e w1 ⟨v, rfl, ho, h1, h2⟩
  have HO := Lib.hid ho
  obtain ⟨A, c, rfl⟩ := ho.form
  clear ho
  go_wp2_with fail
  go_ret
  exact ⟨_, rfl, HO.out, h1, h2⟩
set_option maxHeartbeats 2000000 in
theorem txcount_any {w : World} {gr g lo : Nat} {l : List UInt8} {f : Int} (h : TxRd w gr g) (hr : Rdr w lo g l f) (most : Int) (hm : most ≤ 9223372036854775807) (hm' : -9223372036854775808 ≤ most) :
    Calls Try.prog 19 #[.pointer (some ⟨gr, 0, none⟩), .int .i64 most] w fun e w' => e = .returned (.int .i64 (rC most l f).1) ∧ Rdr w' lo g (rC most l f).2.1 (rC most l f).2.2 ∧ w.grownBy w' (some g) := by
  have c0 : w.cell? ⟨gr, 0, none⟩ = some (.pointer (some ⟨g, 0, none⟩)) := blk_cell h 0
  have c1 : w.cell? ⟨gr, 1, none⟩ = some (.int .i64 0) := blk_cell h 1
  have HR := Lib.hid (rdC_any hr most hm hm')
  clear h hr hm hm'
  go_enter Try.func19, Try.ntmps19
  go_wp2_with fail
  refine HR.out.mono ?_
  rintro e w1 ⟨rfl, h1, h2⟩
  go_wp2_with fail
  go_ret
  exact ⟨rfl, h1, h2⟩
set_option maxHeartbeats 2000000 in
theorem txend_any {w : World} {gr g lo : Nat} {l : List UInt8} {f : Int} (h : TxRd w gr g) (hr : Rdr w lo g l f) :
    Calls Try.prog 23 #[.pointer (some ⟨gr, 0, none⟩)] w fun e w' => e = .returned (.int .i64 (rEnd l f)) ∧ w = w' := by
  have c0 : w.cell? ⟨gr, 0, none⟩ = some (.pointer (some ⟨g, 0, none⟩)) := blk_cell h 0
  have c1 : w.cell? ⟨gr, 1, none⟩ = some (.int .i64 0) := blk_cell h 1
  have HR := Lib.hid (rdEnd_any hr)
  clear h hr
  go_enter Try.func23, Try.ntmps23
  go_wp2_with fail
  refine HR.out.mono ?_
  rintro e w1 ⟨rfl, rfl⟩
  go_wp2_with fail
  go_ret
  exact ⟨rfl, rfl⟩
set_option maxHeartbeats 2000000 in
theorem txerr_any {w : World} {gr g lo : Nat} {l : List UInt8} {f : Int} (h : TxRd w gr g) (hr : Rdr w lo g l f) :
    Calls Try.prog 22 #[.pointer (some ⟨gr, 0, none⟩)] w fun e w' => e = .returned (.int .i64 f) ∧ w = w' := by
  have c0 : w.cell? ⟨gr, 0, none⟩ = some (.pointer (some ⟨g, 0, none⟩)) := blk_cell h 0
  have c1 : w.cell? ⟨gr, 1, none⟩ = some (.int .i64 0) := blk_cell h 1
  have HR := Lib.hid (rdErr_any hr)
  clear h hr
  go_enter Try.func22, Try.ntmps22
  go_wp2_with fail
  refine HR.out.mono ?_
  rintro e w1 ⟨rfl, rfl⟩
  go_wp2_with fail
  go_ret
  exact ⟨rfl, rfl⟩
end Go.Proofs.Ytlkkjnacolmmpaa
