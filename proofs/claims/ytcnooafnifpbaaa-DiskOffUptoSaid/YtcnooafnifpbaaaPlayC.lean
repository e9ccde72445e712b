/- play: Read. -/
import Derived.Test.YtcnooafnifpbaaaPlayB
namespace Go.Proofs.Ytcnooafnifpbaaa
open Go Go.RowKit
set_option linter.unusedVariables false
variable {w : World} {B : Nat} {F G : Nat → Prop} {d e : Nat} {m n : DM}

set_option maxHeartbeats 1000000 in
theorem play_read (h : Two w B F G d e m n) (q : Int) (s : ByteArray) (A1 A2 : Option Addr) (l1 c1 l2 c2 : Nat) (hm : ∀ f ∈ m.files, f.data.length ≤ 140737488355320) (hn : ∀ f ∈ n.files, f.data.length ≤ 140737488355320) :
    Calls Try.prog 16 #[.pointer (some ⟨d, 0, none⟩), .pointer (some ⟨e, 0, none⟩), .agg #[.int .i64 4, .int .i64 q, .string s, .slice A1 l1 c1, .slice A2 l2 c2]] w fun r w' =>
      ∃ b, r = .returned (.bool b) ∧ (m = n → b = true) ∧ TwoX w' B d e m n ∧ Below B w w' := by
  have hp := PlayAt.new h #[.int .i64 4, .int .i64 q, .string s, .slice A1 l1 c1, .slice A2 l2 c2]
  clear h
  obtain ⟨x, hx⟩ : ∃ x, x = (readM m s).2 := ⟨_, rfl⟩
  obtain ⟨y, hy⟩ : ∃ y, y = (readM n s).2 := ⟨_, rfl⟩
  obtain ⟨X, hX⟩ : ∃ X, X = (readM m s).1 := ⟨_, rfl⟩
  obtain ⟨Y, hY⟩ : ∃ Y, Y = (readM n s).1 := ⟨_, rfl⟩
  have HXY := Lib.hid (And.intro hx hy)
  have HXL := Lib.hid (And.intro hX hY)
  have HM := Lib.hid hm
  have HN := Lib.hid hn
  have hxy : x = y ∨ ¬ x = y := by omega
  clear hx hy hX hY hm hn
  go_enter Try.func16, Try.ntmps16
  go_wp2_with fail
  generalize w.alloc (.cells #[.int .i64 4, .int .i64 q, .string s, .slice A1 l1 c1, .slice A2 l2 c2] 35) = w1 at *
  obtain ⟨g, hg⟩ : ∃ g, g = w.heap.size := ⟨_, rfl⟩
  rw [← hg] at hp
  simp only [← hg]
  have HP := Lib.hid hp
  clear hg hp
  refine (read_any HP.out.two.one s HM.out).mono ?_
  rintro e1 w2 ⟨v2, rfl, ho2, hb2⟩
  rw [← HXL.out.1] at ho2
  rw [← HXY.out.1]
  obtain ⟨A3, c3, rfl⟩ := ho2.dat.form
  have hp2 := HP.out.below hb2
  clear hb2
  obtain ⟨k1, k2, k3, k4⟩ := hp2.c
  go_wp2_with fail
  refine (rread_any hp2.two.two s HN.out).mono ?_
  rintro e2 w3 ⟨v3, rfl, ho3, hb3⟩
  rw [← HXL.out.2] at ho3
  rw [← HXY.out.2]
  obtain ⟨A4, c4, rfl⟩ := ho3.dat.form
  have HX := Lib.hid (hp2.below hb3)
  have ho23 := ho2.below (hb3.mono (Nat.le_refl _))
  have q1 := run_str (w := w3) (src := 32) (dst := 9) Try.underlying32 Try.underlying5 Try.isString ho23.rd
  have q2 := run_str (w := w3) (src := 32) (dst := 9) Try.underlying32 Try.underlying5 Try.isString ho3.rd
  obtain ⟨SX, hSX⟩ : ∃ SX : ByteArray, SX = ⟨X.toArray⟩ := ⟨_, rfl⟩
  obtain ⟨SY, hSY⟩ : ∃ SY : ByteArray, SY = ⟨Y.toArray⟩ := ⟨_, rfl⟩
  rw [← hSX] at q1
  rw [← hSY] at q2
  have HS := Lib.hid (And.intro hSX hSY)
  clear hp2 hb3 ho2 ho3 ho23 k1 k2 k3 k4 hSX hSY
  rcases hxy with rfl | hxy
  · go_wp2_with fail
    go_ret
    refine ⟨_, rfl, ?_, ⟨_, _, HX.out.two⟩, HX.out.old⟩
    intro hmn
    have h1 := HS.out.1
    have h2 := HS.out.2
    rw [HXL.out.1] at h1
    rw [HXL.out.2] at h2
    subst hmn
    rw [h1, h2]
    simp
  · have f1 : (x == y) = false := by simp [hxy]
    go_wp2_with fail
    go_ret
    refine ⟨_, rfl, ?_, ⟨_, _, HX.out.two⟩, HX.out.old⟩
    intro hmn
    exfalso
    apply hxy
    rw [HXY.out.1, HXY.out.2, hmn]
end Go.Proofs.Ytcnooafnifpbaaa
