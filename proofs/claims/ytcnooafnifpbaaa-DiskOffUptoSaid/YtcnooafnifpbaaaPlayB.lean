/- play, the calls that do not only answer a code. -/
import Derived.Test.YtcnooafnifpbaaaPlayA
namespace Go.Proofs.Ytcnooafnifpbaaa
open Go Go.RowKit
set_option linter.unusedVariables false
theorem RefAt.offc' {w : World} {G : Nat → Prop} {e : Nat} {n : DM} (h : RefAt w G e n) : w.cell? ⟨e, 1, none⟩ = some (.bool n.off) := by
  obtain ⟨fv, u, hd, _⟩ := h
  exact blk_cell hd 1
variable {w : World} {B : Nat} {F G : Nat → Prop} {d e : Nat} {m n : DM}

set_option maxHeartbeats 1000000 in
theorem play_down (h : Two w B F G d e m n) (q : Int) (s : ByteArray) (A1 A2 : Option Addr) (l1 c1 l2 c2 : Nat) :
    Calls Try.prog 16 #[.pointer (some ⟨d, 0, none⟩), .pointer (some ⟨e, 0, none⟩), .agg #[.int .i64 6, .int .i64 q, .string s, .slice A1 l1 c1, .slice A2 l2 c2]] w fun r w' =>
      ∃ b, r = .returned (.bool b) ∧ (m = n → b = true) ∧ TwoX w' B d e m n ∧ Below B w w' := by
  have hp := PlayAt.new h #[.int .i64 6, .int .i64 q, .string s, .slice A1 l1 c1, .slice A2 l2 c2]
  clear h
  go_enter Try.func16, Try.ntmps16
  go_wp2_with fail
  generalize w.alloc (.cells #[.int .i64 6, .int .i64 q, .string s, .slice A1 l1 c1, .slice A2 l2 c2] 35) = w1 at *
  obtain ⟨g, hg⟩ : ∃ g, g = w.heap.size := ⟨_, rfl⟩
  rw [← hg] at hp
  simp only [← hg]
  have HP := Lib.hid hp.drew
  clear hg hp
  go_region_held_law (fun W => W.cell? ⟨e, 1, none⟩ = some (.bool n.off))
    (first | exact HP.out.two.two.offc')
    ((go_at_call 17; refine (down_any HP.out.two.one).mono ?_; rintro e1 w2 ⟨rfl, rfl⟩))
  go_wp2_with fail
  go_ret
  refine ⟨_, rfl, ?_, ⟨_, _, HP.out.two⟩, HP.out.old⟩
  intro hmn
  subst hmn
  simp

set_option maxHeartbeats 1000000 in
theorem play_waiting (h : Two w B F G d e m n) (q : Int) (s : ByteArray) (A1 A2 : Option Addr) (l1 c1 l2 c2 : Nat) (hm : totM m.files ≤ 1000000000) (hn : totM n.files ≤ 1000000000) :
    Calls Try.prog 16 #[.pointer (some ⟨d, 0, none⟩), .pointer (some ⟨e, 0, none⟩), .agg #[.int .i64 7, .int .i64 q, .string s, .slice A1 l1 c1, .slice A2 l2 c2]] w fun r w' =>
      ∃ b, r = .returned (.bool b) ∧ (m = n → b = true) ∧ TwoX w' B d e m n ∧ Below B w w' := by
  have hp := PlayAt.new h #[.int .i64 7, .int .i64 q, .string s, .slice A1 l1 c1, .slice A2 l2 c2]
  clear h
  obtain ⟨x, hx⟩ : ∃ x, x = waitM m.files := ⟨_, rfl⟩
  obtain ⟨y, hy⟩ : ∃ y, y = waitM n.files := ⟨_, rfl⟩
  have HXY := Lib.hid (And.intro hx hy)
  have HM := Lib.hid hm
  have HN := Lib.hid hn
  clear hx hy hm hn
  go_enter Try.func16, Try.ntmps16
  go_wp2_with fail
  generalize w.alloc (.cells #[.int .i64 7, .int .i64 q, .string s, .slice A1 l1 c1, .slice A2 l2 c2] 35) = w1 at *
  obtain ⟨g, hg⟩ : ∃ g, g = w.heap.size := ⟨_, rfl⟩
  rw [← hg] at hp
  simp only [← hg]
  have HP := Lib.hid hp
  clear hg hp
  refine (waiting_any HP.out.two.one HM.out).mono ?_
  rintro e1 w2 ⟨rfl, hb2⟩
  have hp2 := HP.out.below hb2
  rw [← HXY.out.1]
  clear hb2
  go_wp2_with fail
  refine (rwaiting_any hp2.two.two HN.out).mono ?_
  rintro e2 w3 ⟨rfl, hb3⟩
  have hp3 := hp2.below hb3
  rw [← HXY.out.2]
  clear hb3
  go_wp2_with fail
  go_ret
  refine ⟨_, rfl, ?_, ⟨_, _, hp3.two⟩, hp3.old⟩
  intro hmn
  have h1 := HXY.out.1
  have h2 := HXY.out.2
  subst hmn
  rw [h1, h2]
  simp

set_option maxHeartbeats 1000000 in
theorem play_arm (h : Two w B F G d e m n) (q : Int) (s : ByteArray) (A1 A2 : Option Addr) (l1 c1 l2 c2 : Nat) (hq : -9223372036854775808 ≤ q ∧ q ≤ 9223372036854775807) :
    Calls Try.prog 16 #[.pointer (some ⟨d, 0, none⟩), .pointer (some ⟨e, 0, none⟩), .agg #[.int .i64 5, .int .i64 q, .string s, .slice A1 l1 c1, .slice A2 l2 c2]] w fun r w' =>
      r = .returned (.bool true) ∧ TwoX w' B d e (armM m q) (armM n q) ∧ Below B w w' := by
  have hp := PlayAt.new h #[.int .i64 5, .int .i64 q, .string s, .slice A1 l1 c1, .slice A2 l2 c2]
  clear h
  have HQ := Lib.hid hq
  clear hq
  go_enter Try.func16, Try.ntmps16
  go_wp2_with fail
  generalize w.alloc (.cells #[.int .i64 5, .int .i64 q, .string s, .slice A1 l1 c1, .slice A2 l2 c2] 35) = w1 at *
  obtain ⟨g, hg⟩ : ∃ g, g = w.heap.size := ⟨_, rfl⟩
  rw [← hg] at hp
  simp only [← hg]
  have HP := Lib.hid hp
  clear hg hp
  refine (arm_any HP.out.two.one q HQ.out).mono ?_
  rintro e1 w2 ⟨rfl, hd2, hc2⟩
  have hp2 := HP.out.left' hd2 hc2
  clear hd2 hc2
  obtain ⟨k1, k2, k3, k4⟩ := hp2.c
  go_wp2_with fail
  refine (rarm_any hp2.two.two q HQ.out).mono ?_
  rintro e2 w3 ⟨rfl, hd3, hc3⟩
  have HX := Lib.hid (hp2.right' hd3 hc3)
  clear hp2 hd3 hc3 k1 k2 k3 k4
  go_wp2_with fail
  go_ret
  exact ⟨rfl, ⟨_, _, HX.out.two⟩, HX.out.old⟩

set_option maxHeartbeats 1000000 in
theorem play_none (h : Two w B F G d e m n) (k : Int) (hk : ¬ (1 ≤ k ∧ k ≤ 8)) (q : Int) (s : ByteArray) (A1 A2 : Option Addr) (l1 c1 l2 c2 : Nat) :
    Calls Try.prog 16 #[.pointer (some ⟨d, 0, none⟩), .pointer (some ⟨e, 0, none⟩), .agg #[.int .i64 k, .int .i64 q, .string s, .slice A1 l1 c1, .slice A2 l2 c2]] w fun r w' =>
      r = .returned (.bool true) ∧ TwoX w' B d e m n ∧ Below B w w' := by
  have hp := PlayAt.new h #[.int .i64 k, .int .i64 q, .string s, .slice A1 l1 c1, .slice A2 l2 c2]
  clear h
  have k1 : (k == 1) = false := by simp; omega
  have k2 : (k == 2) = false := by simp; omega
  have k3 : (k == 3) = false := by simp; omega
  have k4 : (k == 4) = false := by simp; omega
  have k5 : (k == 5) = false := by simp; omega
  have k6 : (k == 6) = false := by simp; omega
  have k7 : (k == 7) = false := by simp; omega
  have k8 : (k == 8) = false := by simp; omega
  have j1 : ¬ k = 1 := by omega
  have j2 : ¬ k = 2 := by omega
  have j3 : ¬ k = 3 := by omega
  have j4 : ¬ k = 4 := by omega
  have j5 : ¬ k = 5 := by omega
  have j6 : ¬ k = 6 := by omega
  have j7 : ¬ k = 7 := by omega
  have j8 : ¬ k = 8 := by omega
  clear hk
  go_enter Try.func16, Try.ntmps16
  go_wp2_with fail
  generalize w.alloc (.cells #[.int .i64 k, .int .i64 q, .string s, .slice A1 l1 c1, .slice A2 l2 c2] 35) = w1 at *
  obtain ⟨g, hg⟩ : ∃ g, g = w.heap.size := ⟨_, rfl⟩
  rw [← hg] at hp
  simp only [← hg]
  have HP := Lib.hid hp
  clear hg hp
  go_wp2_with fail
  go_ret
  exact ⟨rfl, ⟨_, _, HP.out.two⟩, HP.out.old⟩

set_option maxHeartbeats 1000000 in
theorem play_crash (h : Two w B F G d e m n) (q : Int) (s : ByteArray) (A1 A2 : Option Addr) (l1 c1 l2 c2 : Nat) (hmn : m = n) (ks : List Bool) (hk : RdL w B (.slice A2 l2 c2) ks) (hm : totM m.files ≤ 1000000000) (hkl : ks.length ≤ 1000000000) (hml : m.files.length ≤ 1000) :
    Calls Try.prog 16 #[.pointer (some ⟨d, 0, none⟩), .pointer (some ⟨e, 0, none⟩), .agg #[.int .i64 8, .int .i64 q, .string s, .slice A1 l1 c1, .slice A2 l2 c2]] w fun r w' =>
      r = .returned (.bool true) ∧ TwoX w' B d e m n ∧ Below B w w' := by
  subst hmn
  have hp := PlayAt.new h #[.int .i64 8, .int .i64 q, .string s, .slice A1 l1 c1, .slice A2 l2 c2]
  clear h
  have HK := Lib.hid hk
  have HM := Lib.hid hm
  have HKL := Lib.hid hkl
  have HML := Lib.hid hml
  clear hk hm hkl hml
  go_enter Try.func16, Try.ntmps16
  go_wp2_with fail
  generalize w.alloc (.cells #[.int .i64 8, .int .i64 q, .string s, .slice A1 l1 c1, .slice A2 l2 c2] 35) = w1 at *
  obtain ⟨g, hg⟩ : ∃ g, g = w.heap.size := ⟨_, rfl⟩
  rw [← hg] at hp
  simp only [← hg]
  have HP := Lib.hid hp.drew
  clear hg hp
  go_region_held_law (fun W => W.cell? ⟨g, 4, none⟩ = some (.slice A2 l2 c2))
    (first | exact hp4.c.2.2.2 | exact hp3.c.2.2.2 | exact hp2.c.2.2.2 | exact HP.out.c.2.2.2)
    (first
      | (go_at_call 13; refine (crash_any HP.out.two.one _ ks ((HK.out.below HP.out.old).more HP.out.two.size) HM.out HML.out).mono ?_; rintro e1 w2 ⟨v2, rfl, ho2, hb2⟩; have hp2 := HP.out.below hb2; obtain ⟨A3, c3, rfl⟩ := ho2.form)
      | (go_at_call 14; refine (rcrash_any hp2.two.two _ ks ((HK.out.below hp2.old).more hp2.two.size) HM.out HKL.out HML.out).mono ?_; rintro e2 w3 ⟨v3, rfl, ho3, hb3⟩; have hp3 := hp2.below hb3; obtain ⟨A4, c4, rfl⟩ := ho3.form; have ho23 := ho2.below (hb3.mono (Nat.le_refl _)))
      | (go_at_call 15; refine (same_any _ _ _ _ ho23.rdFs ho3.rdFs).mono ?_; rintro e3 w4 ⟨rfl, hb4⟩; have hp4 := hp3.below hb4))
  go_wp2_with fail
  go_ret
  exact ⟨rfl, ⟨_, _, hp4.two⟩, hp4.old⟩
end Go.Proofs.Ytcnooafnifpbaaa
