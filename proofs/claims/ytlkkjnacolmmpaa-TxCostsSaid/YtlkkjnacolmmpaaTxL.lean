
/- The law of costs. -/
import Derived.Test.YtlkkjnacolmmpaaTxG
namespace Go.Proofs.Ytlkkjnacolmmpaa
set_option maxRecDepth 100000
open Go Go.RowKit
set_option linter.unusedVariables false

set_option maxHeartbeats 4000000 in
theorem txfixed_any (w : World) :
    Calls Try.prog 4 #[] w fun e w' => e = .returned (.bool true) ∧ Below w.heap.size w w' := by
  have HE := Lib.hid (txenc0 w)
  unfold zTx zCells at HE
  have HD := Lib.hid (fun (v : Value) (W : World) (h : Rd W W.heap.size v E0) => txdec0 v W h)
  have HL := Lib.hid E0_len
  have HC := Lib.hid (fun W : World => cost_any W 68 0)
  rw [show costN 68 0 = 1680 by decide +kernel] at HC
  generalize E0 = E at *
  go_enter Try.func4, Try.ntmps4
  go_wp2_with fail
  refine HE.out.mono ?_
  rintro e w1 ⟨v, rfl, ho, hb1⟩
  have HD1 := Lib.hid (HD.out v w1 ho.rd)
  obtain ⟨A, c, rfl⟩ := ho.form
  rw [HL.out] at HD1 ⊢
  clear HE HD ho HL
  go_wp2_with fail
  refine HD1.out.mono ?_
  rintro e w2 ⟨⟨A2, c2, rfl⟩, hb2⟩
  have hq2 := below_chain hb1 hb1.size hb2
  have hq3 := hq2.alloc hq2.size (.cells #[.string ⟨#[]⟩, .int .u64 0, .int .u64 0, .int .u64 0, .int .u64 0, .int .u64 0, .int .u64 0, .slice none 0 0, .slice A2 0 c2] 34)
  have hk := heap_alloc_new w2 (.cells #[.string ⟨#[]⟩, .int .u64 0, .int .u64 0, .int .u64 0, .int .u64 0, .int .u64 0, .int .u64 0, .slice none 0 0, .slice A2 0 c2] 34)
  have k1 := blk_cell hk 1
  clear HD1 hb1 hb2
  go_wp2_with fail
  refine (HC.out _).mono ?_
  rintro e w3 ⟨rfl, rfl⟩
  go_wp2_with fail
  go_ret
  exact ⟨rfl, hq3⟩
set_option maxHeartbeats 4000000 in
theorem txcosts_law (w : World) (a b : Int) :
    Calls Try.prog 3 #[.int .i64 a, .int .i64 b] w fun e w' => e = .returned (.bool true) ∧ Below w.heap.size w w' := by
  have H1 := Lib.hid (fun W : World => cost_any W a b)
  have H2 := Lib.hid (fun W : World => rcost_any W a b)
  generalize costN a b = n at *
  go_enter Try.func3, Try.ntmps3
  go_wp2_with fail
  refine (txfixed_any _).mono ?_
  rintro e w1 ⟨rfl, hb1⟩
  go_wp2_with fail
  refine (H1.out _).mono ?_
  rintro e w2 ⟨rfl, rfl⟩
  go_wp2_with fail
  refine (H2.out _).mono ?_
  rintro e w3 ⟨rfl, rfl⟩
  go_wp2_with fail
  go_ret
  exact ⟨rfl, hb1⟩
end Go.Proofs.Ytlkkjnacolmmpaa
