/- The walk of the document's Same, on any two rows of files. -/
import Derived.Test.YtcnooafnifpbaaaSameF
namespace Go.Proofs.Ytcnooafnifpbaaa
open Go Go.RowKit
set_option linter.unusedVariables false

theorem name_eq (s t : ByteArray) (h : s = t) : (s.toList != t.toList) = false := by subst h; simp
theorem name_ne' (s t : ByteArray) (h : ¬ s = t) : (s.toList != t.toList) = true := by
  simp only [bne_iff_ne, ne_eq]
  rw [Lib.toList_data, Lib.toList_data]
  intro e
  apply h
  cases s; cases t
  simp only [ByteArray.mk.injEq]
  exact Array.toList_inj.1 e

set_option maxHeartbeats 2000000 in
/-- any two rows of files -/
theorem same2_any (w : World) (va vb : Value) (fs gs : List (ByteArray × List UInt8)) (ha : RdFs w w.heap.size va fs) (hb : RdFs w w.heap.size vb gs) :
    Calls Try.prog 15 #[va, vb] w fun e w' => (∃ b, e = .returned (.bool b)) ∧ Below w.heap.size w w' := by
  obtain ⟨Aa, ca, rfl, hac, ham, hap⟩ := ha
  obtain ⟨Ab, cb, rfl, hbc, hbm, hbp⟩ := hb
  unfold maxLen at ham hbm
  obtain ⟨n, hn⟩ : ∃ n, n = fs.length := ⟨_, rfl⟩
  obtain ⟨n2, hn2⟩ : ∃ n2, n2 = gs.length := ⟨_, rfl⟩
  rw [← hn] at hac ⊢
  rw [← hn2] at hbc ⊢
  have HN := Lib.hid hn
  have HN2 := Lib.hid hn2
  have HA := Lib.hid hap
  have HB := Lib.hid hbp
  clear hn hn2 hap hbp
  by_cases hnn : n = n2
  · subst hnn
    go_enter Try.func15, Try.ntmps15
    go_wp2
    go_loopw [5, 13] (fun _ i wr => ∃ k : Nat, k ≤ n ∧ i = .int .i64 (k : Int) ∧ Below w.heap.size w wr) (fun _ i _ => n - (intOf i).toNat)
    case atStart => exact ⟨0, Nat.zero_le _, rfl, Below.refl _ _⟩
    case round =>
      obtain ⟨k, hk, rfl, hbr⟩ := hrel
      by_cases hlt : k < n
      · have hkl : k < fs.length := by have := HN.out; omega
        have hkl2 : k < gs.length := by have := HN2.out; omega
        obtain ⟨g1, o1, rfl, hg1, hc1⟩ := HA.out (by omega)
        obtain ⟨g2, o2, rfl, hg2, hc2⟩ := HB.out (by omega)
        obtain ⟨a0, xa, a1, ra⟩ := hc1 k hkl
        obtain ⟨b0, xb, b1, rb⟩ := hc2 k hkl2
        have a0' := (hbr.cell (p := ⟨g1, o1 + k * 2, none⟩) hg1).trans a0
        have a1' := (hbr.cell (p := ⟨g1, o1 + k * 2 + 1, none⟩) hg1).trans a1
        have b0' := (hbr.cell (p := ⟨g2, o2 + k * 2, none⟩) hg2).trans b0
        have b1' := (hbr.cell (p := ⟨g2, o2 + k * 2 + 1, none⟩) hg2).trans b1
        obtain ⟨nm, hnm⟩ : ∃ nm, nm = fs[k].1 := ⟨_, rfl⟩
        obtain ⟨l, hl⟩ : ∃ l, l = fs[k].2 := ⟨_, rfl⟩
        obtain ⟨nm2, hnm2⟩ : ∃ nm2, nm2 = gs[k].1 := ⟨_, rfl⟩
        obtain ⟨l2, hl2⟩ : ∃ l2, l2 = gs[k].2 := ⟨_, rfl⟩
        rw [← hnm] at a0'
        rw [← hnm2] at b0'
        rw [← hl] at ra
        rw [← hl2] at rb
        have q1 : ∀ j : Nat, (convert 32 9 xa).run Try.prog (wr.drewN j) = .ok (.string ⟨l.toArray⟩) (wr.drewN j) := fun j => run_str (w := wr.drewN j) Try.underlying32 Try.underlying5 Try.isString ((ra.below hbr).drewN j)
        have q2 : ∀ j : Nat, (convert 32 9 xb).run Try.prog (wr.drewN j) = .ok (.string ⟨l2.toArray⟩) (wr.drewN j) := fun j => run_str (w := wr.drewN j) Try.underlying32 Try.underlying5 Try.isString ((rb.below hbr).drewN j)
        obtain ⟨SX, hSX⟩ : ∃ SX : ByteArray, SX = ⟨l.toArray⟩ := ⟨_, rfl⟩
        obtain ⟨SY, hSY⟩ : ∃ SY : ByteArray, SY = ⟨l2.toArray⟩ := ⟨_, rfl⟩
        rw [← hSX] at q1
        rw [← hSY] at q2
        have i1 : (0 : Int) ≤ (k : Int) := by omega
        have i2 : (k : Int) < (n : Int) := by omega
        clear a0 a1 b0 b1 hc1 hc2 hnm hl ra rb hnm2 hl2 hSX hSY
        by_cases e1 : nm = nm2
        · subst e1
          have hne := name_ne nm
          go_wp2_with fail
          go_quiet (fail)
          clear q1 q2
          go_wp2_with fail
          all_goals first
            | exact ⟨⟨k + 1, by omega, by go_num, below_drewN' hbr _⟩, by simp [intOf]; omega⟩
            | (go_ret; exact ⟨⟨_, rfl⟩, below_drewN' hbr _⟩)
        · have hne := name_ne' nm nm2 e1
          have heq : (nm.toList == nm2.toList) = false := by simpa using hne
          clear e1
          go_wp2_with fail
          go_quiet (fail)
          clear q1 q2
          go_wp2_with fail
          go_ret
          exact ⟨⟨_, rfl⟩, below_drewN' hbr _⟩
      · have i2 : ¬ (k : Int) < (n : Int) := by omega
        go_wp2
        go_ret
        first
          | exact ⟨⟨_, rfl⟩, hbr⟩
          | (refine ⟨?_, hbr⟩; exact ⟨_, rfl⟩)
          | (constructor; exact ⟨true, by rfl⟩; exact hbr)
          | exact ⟨by simp, hbr⟩
          | trace_state
  · have i1 : ¬ (n : Int) = (n2 : Int) := by omega
    have i2 : ((n : Int) != (n2 : Int)) = true := by simp; omega
    go_enter Try.func15, Try.ntmps15
    go_wp2
    go_ret
    exact ⟨⟨_, rfl⟩, Below.refl _ _⟩
end Go.Proofs.Ytcnooafnifpbaaa
