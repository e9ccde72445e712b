
/- The walk of the document's Same: file by file. -/
import Derived.Test.YtbbpkenbeenocaaDiskP
namespace Go.Proofs.Ytbbpkenbeenocaa
set_option maxRecDepth 100000
open Go Go.RowKit
set_option linter.unusedVariables false

theorem name_ne (s : ByteArray) : (s.toList != s.toList) = false := by simp

set_option maxHeartbeats 2000000 in
/-- two rows of files that are the same -/
theorem same_any (w : World) (va vb : Value) (fs : List (ByteArray × List UInt8)) (ha : RdFs w w.heap.size va fs) (hb : RdFs w w.heap.size vb fs) :
    Calls Try.prog 22 #[va, vb] w fun e w' => e = .returned (.bool true) ∧ Below w.heap.size w w' := by
  obtain ⟨Aa, ca, rfl, hac, ham, hap⟩ := ha
  obtain ⟨Ab, cb, rfl, hbc, hbm, hbp⟩ := hb
  unfold maxLen at ham hbm
  obtain ⟨n, hn⟩ : ∃ n, n = fs.length := ⟨_, rfl⟩
  rw [← hn] at hac hbc ⊢
  have HN := Lib.hid hn
  have HA := Lib.hid hap
  have HB := Lib.hid hbp
  clear hn hap hbp
  go_enter Try.func22, Try.ntmps22
  go_wp2
  go_loopw [5, 13] (fun _ i wr => ∃ k : Nat, k ≤ n ∧ i = .int .i64 (k : Int) ∧ Below w.heap.size w wr) (fun _ i _ => n - (intOf i).toNat)
  case atStart => exact ⟨0, Nat.zero_le _, rfl, Below.refl _ _⟩
  case round =>
    obtain ⟨k, hk, rfl, hbr⟩ := hrel
    by_cases hlt : k < n
    · have hkl : k < fs.length := by have := HN.out; omega
      obtain ⟨g1, o1, rfl, hg1, hc1⟩ := HA.out (by omega)
      obtain ⟨g2, o2, rfl, hg2, hc2⟩ := HB.out (by omega)
      obtain ⟨a0, xa, a1, ra⟩ := hc1 k hkl
      obtain ⟨b0, xb, b1, rb⟩ := hc2 k hkl
      have a0' := (hbr.cell (p := ⟨g1, o1 + k * 2, none⟩) hg1).trans a0
      have a1' := (hbr.cell (p := ⟨g1, o1 + k * 2 + 1, none⟩) hg1).trans a1
      have b0' := (hbr.cell (p := ⟨g2, o2 + k * 2, none⟩) hg2).trans b0
      have b1' := (hbr.cell (p := ⟨g2, o2 + k * 2 + 1, none⟩) hg2).trans b1
      obtain ⟨nm, hnm⟩ : ∃ nm, nm = fs[k].1 := ⟨_, rfl⟩
      obtain ⟨l, hl⟩ : ∃ l, l = fs[k].2 := ⟨_, rfl⟩
      rw [← hnm] at a0' b0'
      rw [← hl] at ra rb
      have q1 : ∀ j : Nat, (convert 40 9 xa).run Try.prog (wr.drewN j) = .ok (.string ⟨l.toArray⟩) (wr.drewN j) := fun j => run_str (w := wr.drewN j) Try.underlying40 Try.underlying5 Try.isString ((ra.below hbr).drewN j)
      have q2 : ∀ j : Nat, (convert 40 9 xb).run Try.prog (wr.drewN j) = .ok (.string ⟨l.toArray⟩) (wr.drewN j) := fun j => run_str (w := wr.drewN j) Try.underlying40 Try.underlying5 Try.isString ((rb.below hbr).drewN j)
      have i1 : (0 : Int) ≤ (k : Int) := by omega
      have i2 : (k : Int) < (n : Int) := by omega
      have hne := name_ne nm
      clear a0 a1 b0 b1 hc1 hc2 hnm hl ra rb
      go_wp2_with fail
      go_quiet (fail)
      clear q1 q2
      go_wp2_with fail
      exact ⟨⟨k + 1, by omega, by go_num, below_drewN' hbr _⟩, by simp [intOf]; omega⟩
    · have i2 : ¬ (k : Int) < (n : Int) := by omega
      go_wp2
      go_ret
      exact ⟨rfl, hbr⟩
end Go.Proofs.Ytbbpkenbeenocaa
