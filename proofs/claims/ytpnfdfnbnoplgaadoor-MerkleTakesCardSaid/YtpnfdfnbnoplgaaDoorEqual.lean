
/- bytes.Equal. -/
import Derived.Test.YtpnfdfnbnoplgaaDoorSame
import Derived.Test.YtpnfdfnbnoplgaaDoorBase
import Derived.LoopTactic
namespace Go.Proofs.YtpnfdfnbnoplgaaDoor
open Go Go.RowKit

theorem equal_any (v1 v2 : Value) (l m : List UInt8) (w : World) (h1 : Rd w w.heap.size v1 l) (h2 : Rd w w.heap.size v2 m) :
    Calls Tryd.prog 35 #[v1, v2] w fun e w' => e = .returned (.bool (sameB l m)) ∧ w = w' := by
  have e1 := run_str (P := Tryd.prog) (src := 23) (dst := 9) Tryd.underlying23 Tryd.underlying5 Tryd.isString h1
  have e2 := run_str (P := Tryd.prog) (src := 23) (dst := 9) Tryd.underlying23 Tryd.underlying5 Tryd.isString h2
  obtain ⟨A1, c1, rfl⟩ := h1.form
  obtain ⟨A2, c2, rfl⟩ := h2.form
  have hs : Hid (sameB l m = decide (l = m)) := Lib.hid rfl
  go_enter Tryd.func35, Tryd.ntmps35
  go_wp2_with fail
  go_ret
  refine ⟨?_, rfl⟩
  rw [hs.out]
  have hb : (l == m) = decide (l = m) := by rw [Bool.eq_iff_iff]; simp
  rw [← hb]
  rfl
end Go.Proofs.YtpnfdfnbnoplgaaDoor
