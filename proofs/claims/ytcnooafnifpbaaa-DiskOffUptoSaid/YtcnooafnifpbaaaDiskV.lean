/- A disk without power: its calls leave the world as it is. -/
import Derived.Test.YtcnooafnifpbaaaPlayF
import Derived.Test.YtcnooafnifpbaaaDiskL6
namespace Go.Proofs.Ytcnooafnifpbaaa
open Go Go.RowKit
set_option linter.unusedVariables false
variable {w : World} {F : Nat → Prop} {d : Nat} {m : DM}
theorem offCell (h : DiskAt w F d m) (ho : m.off = true) : w.cell? ⟨d, 1, none⟩ = some (.bool true) := by have := h.offc; rw [ho] at this; exact this
theorem begin_off (h : DiskAt w F d m) (ho : m.off = true) :
    Calls Try.prog 40 #[.pointer (some ⟨d, 0, none⟩)] w fun e w' => e = .returned (.int .i64 51) ∧ w' = w := by
  have c1 := offCell h ho
  clear h ho
  go_enter Try.func40, Try.ntmps40
  go_wp2_with fail
  go_ret
  exact ⟨rfl, rfl⟩
theorem arm_off (h : DiskAt w F d m) (ho : m.off = true) (n : Int) :
    Calls Try.prog 26 #[.pointer (some ⟨d, 0, none⟩), .int .i64 n] w fun e w' => e = .returned (.tuple #[]) ∧ w' = w := by
  have c1 := offCell h ho
  clear h ho
  go_enter Try.func26, Try.ntmps26
  go_wp2
  exact bodyPost_ret (results_none rfl _ _ _) rfl ⟨rfl, rfl⟩
theorem append_off (h : DiskAt w F d m) (ho : m.off = true) (s : ByteArray) (v : Value) :
    Calls Try.prog 21 #[.pointer (some ⟨d, 0, none⟩), .string s, v] w fun e w' => e = .returned (.int .i64 51) ∧ w' = w := by
  have c1 := offCell h ho
  clear h ho
  go_enter Try.func21, Try.ntmps21
  go_wp2
  go_ret
  exact ⟨rfl, rfl⟩
theorem sync_off (h : DiskAt w F d m) (ho : m.off = true) (s : ByteArray) :
    Calls Try.prog 22 #[.pointer (some ⟨d, 0, none⟩), .string s] w fun e w' => e = .returned (.int .i64 51) ∧ w' = w := by
  have H := Lib.hid (begin_off h ho)
  clear h ho
  go_enter Try.func22, Try.ntmps22
  go_wp2_with fail
  refine H.out.mono ?_
  rintro e w1 ⟨rfl, rfl⟩
  go_wp2_with fail
  go_ret
  exact ⟨rfl, rfl⟩
theorem trunc_off (h : DiskAt w F d m) (ho : m.off = true) (s : ByteArray) (n : Int) :
    Calls Try.prog 24 #[.pointer (some ⟨d, 0, none⟩), .string s, .int .i64 n] w fun e w' => e = .returned (.int .i64 51) ∧ w' = w := by
  have H := Lib.hid (begin_off h ho)
  clear h ho
  go_enter Try.func24, Try.ntmps24
  go_wp2_with fail
  refine H.out.mono ?_
  rintro e w1 ⟨rfl, rfl⟩
  go_wp2_with fail
  go_ret
  exact ⟨rfl, rfl⟩
end Go.Proofs.Ytcnooafnifpbaaa
