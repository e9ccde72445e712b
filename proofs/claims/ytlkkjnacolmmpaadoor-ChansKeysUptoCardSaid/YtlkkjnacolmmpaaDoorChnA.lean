
/- The walks of a new identifier, of a channel's form, and of a connection that is wanted open. -/
import Derived.Test.YtlkkjnacolmmpaaDoorChnM
import Derived.Test.YtlkkjnacolmmpaaDoorConG
import Derived.Test.YtlkkjnacolmmpaaDoorConB
namespace Go.Proofs.YtlkkjnacolmmpaaDoor
set_option maxRecDepth 100000
open Go Go.RowKit
set_option linter.unusedVariables false

def digB : ByteArray := ⟨#[48, 49, 50, 51, 52, 53, 54, 55, 56, 57, 97, 98, 99, 100, 101, 102, 103, 104, 105, 106, 107, 108, 109, 110, 111, 112, 113, 114, 115, 116, 117, 118, 119, 120, 121, 122]⟩
theorem digB_cut : ∀ n : Fin 10, (digB.extract n.val (n.val + 1)) = decB n.val := by decide +kernel
theorem small_dig (n : Nat) (hn : n < 10) (w : World) : Calls Tryd.prog 135 #[.int .i64 (n : Int)] w fun e w' => e = .returned (.string (decB n)) ∧ w = w' := by
  have hsl : ∀ W, (Instr.slice 9 (.string digB) (some (.int .i64 (n : Int))) (some (.int .i64 ((n : Int) + 1))) none).run Tryd.prog W = .ok (.string (decB n)) W := fun W => by
    rw [run_slice_string W 9 digB .i64 .i64 _ _ Tryd.underlying9 (by omega) (by omega) (by rw [show digB.size = 36 from rfl]; omega), show ((n : Int)).toNat = n by omega, show ((n : Int) + 1).toNat = n + 1 by omega]
    rw [digB_cut ⟨n, hn⟩]
  generalize decB n = S at *
  unfold digB at hsl
  go_enter Tryd.func135, Tryd.ntmps135
  go_wp2
  go_ret
  exact ⟨rfl, rfl⟩
theorem fmt_dig (n : Nat) (hn : n < 10) (w : World) : Calls Tryd.prog 115 #[.int .u64 (n : Int), .int .i64 10] w fun e w' => e = .returned (.string (decB n)) ∧ w = w' := by
  have HS := Lib.hid (fun W => small_dig n hn W)
  have hi : ∀ W, Calls Tryd.prog 129 #[.int .u64 (n : Int), .int .i64 10] W fun e w' => e = .returned (.string (decB n)) ∧ W = w' := fun W => by
    generalize decB n = S at *
    go_enter Tryd.func129, Tryd.ntmps129
    go_wp2_with fail
    refine (HS.out _).mono ?_
    rintro e w' ⟨rfl, rfl⟩
    go_wp2_with fail
    go_ret
    exact ⟨rfl, rfl⟩
  have HI := Lib.hid hi
  clear hi HS
  generalize decB n = S at *
  go_enter Tryd.func115, Tryd.ntmps115
  go_wp2_with fail
  refine (HI.out _).mono ?_
  rintro e w' ⟨rfl, rfl⟩
  go_wp2_with fail
  go_ret
  exact ⟨rfl, rfl⟩
end Go.Proofs.YtlkkjnacolmmpaaDoor
