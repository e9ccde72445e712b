
/- The document's Parse of any text; the law: each number has one text, and it is read back. -/
import Derived.Test.YthiacmpkbioahaaDoorLimbWa
import Derived.Test.YthiacmpkbioahaaDoorLimbWb
import Derived.Test.YthiacmpkbioahaaDoorLimbL1
namespace Go.Proofs.YthiacmpkbioahaaDoor
open Go Go.RowKit
set_option linter.unusedVariables false

set_option maxHeartbeats 4000000 in
theorem rparse_any (s : ByteArray) (w : World) (hs : s.size ≤ maxLen) : Calls Tryd.prog 25 #[.string s] w fun e w' => e = .returned (.tuple #[(parseM s.data.toList).1.val, .int .i64 (parseM s.data.toList).2]) ∧ Below w.heap.size w w' := by
  cases hl : s.data.toList with
  | nil =>
    have hbR : LBlk (w.alloc (.cells #[.int .u64 0, .int .u64 0, .int .u64 0, .int .u64 0] 24)) w.heap.size U4.zero.cells := LBlk.new w U4.zero.cells
    have hb2 : Below w.heap.size w (w.alloc (.cells #[.int .u64 0, .int .u64 0, .int .u64 0, .int .u64 0] 24)) := (Below.refl _ _).alloc (Nat.le_refl _) _
    rw [str_nil hl]
    have HPO : Hid (parseM [] = (U4.zero, 11)) := Lib.hid rfl
    obtain ⟨d0, d1, d2, d3⟩ := LBlk.all (s := U4.zero) hbR
    have f0 := (show LBlk _ _ U4.zero.cells from hbR).free 0
    have f1 := (show LBlk _ _ U4.zero.cells from hbR).free 1
    have f2 := (show LBlk _ _ U4.zero.cells from hbR).free 2
    have f3 := (show LBlk _ _ U4.zero.cells from hbR).free 3
    clear hbR hl hs
    go_enter Tryd.func25, Tryd.ntmps25
    go_wp2_with fail
    refine bodyPost_ret (v := .tuple #[.agg U4.zero.cells, .int .i64 11]) ?_ rfl ⟨?_, ?_⟩
    · simp [results, Tryd.results25, go_sem, U4.cells, U4.zero, d0, d1, d2, d3]
    · rw [HPO.out]; rfl
    · have hg : w.heap.size ≤ w.heap.size := Nat.le_refl _
      first
        | exact hb2
        | exact (((hb2.setCell hg _).setCell hg _).setCell hg _).setCell hg _
  | cons c r =>
    by_cases hz : zeroAhead (c :: r) = true
    · obtain ⟨hne, hsz, h0, hc⟩ := str_some hl
      have i0 : (0 : Int) < (s.size : Int) := by omega
      have hcz : (s[0].toNat : Int) = (c.toNat : Int) := by rw [hc]
      have hdo : decOk (c :: r) = false := by unfold decOk; rw [hz]; simp
      have HPO : Hid (parseM (c :: r) = (U4.zero, 11)) := Lib.hid (by unfold parseM; rw [hdo]; rfl)
      have hr : 1 < s.size ∧ c.toNat = 48 := by
        cases r with
        | nil => cases hz
        | cons d r => exact ⟨by rw [hsz]; simp, by simpa [zeroAhead] using hz⟩
      have i1 : (1 : Int) < (s.size : Int) := by omega
      have e48 : (s[0].toNat : Int) = 48 := by rw [hcz, hr.2]; rfl
      have hbR : LBlk (w.alloc (.cells #[.int .u64 0, .int .u64 0, .int .u64 0, .int .u64 0] 24)) w.heap.size U4.zero.cells := LBlk.new w U4.zero.cells
      have hb2 : Below w.heap.size w (w.alloc (.cells #[.int .u64 0, .int .u64 0, .int .u64 0, .int .u64 0] 24)) := (Below.refl _ _).alloc (Nat.le_refl _) _
      obtain ⟨d0, d1, d2, d3⟩ := LBlk.all (s := U4.zero) hbR
      have f0 := (show LBlk _ _ U4.zero.cells from hbR).free 0
      have f1 := (show LBlk _ _ U4.zero.cells from hbR).free 1
      have f2 := (show LBlk _ _ U4.zero.cells from hbR).free 2
      have f3 := (show LBlk _ _ U4.zero.cells from hbR).free 3
      clear hbR hl hz hr hdo hcz hs hc
      go_enter Tryd.func25, Tryd.ntmps25
      go_wp2_with fail
      refine bodyPost_ret (v := .tuple #[.agg U4.zero.cells, .int .i64 11]) ?_ rfl ⟨?_, ?_⟩
      · simp [results, Tryd.results25, go_sem, U4.cells, U4.zero, d0, d1, d2, d3]
      · rw [HPO.out]; rfl
      · have hg : w.heap.size ≤ w.heap.size := Nat.le_refl _
        first
          | exact hb2
          | exact (((hb2.setCell hg _).setCell hg _).setCell hg _).setCell hg _
    · have hz2 : zeroAhead (c :: r) = false := Bool.eq_false_iff.2 hz
      obtain ⟨hne, hsz, h0, hc⟩ := str_some hl
      have hr : ¬ 1 < s.size ∨ 1 < s.size ∧ c.toNat ≠ 48 := by
        cases r with
        | nil => exact .inl (by rw [hsz]; simp)
        | cons d r => exact .inr ⟨by rw [hsz]; simp, by simpa [zeroAhead] using hz⟩
      rcases hr with hr | hr
      · exact rparse_a s w hs c r hl hz2 hr
      · exact rparse_b s w hs c r hl hz2 hr
end Go.Proofs.YthiacmpkbioahaaDoor
