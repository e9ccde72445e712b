/- play on two disks that need not agree. -/
import Derived.Test.YtcnooafnifpbaaaPlayE
import Derived.Test.YtcnooafnifpbaaaSameG
namespace Go.Proofs.Ytcnooafnifpbaaa
open Go Go.RowKit
set_option linter.unusedVariables false
variable {w : World} {B : Nat} {F G : Nat → Prop} {d e : Nat} {m n : DM}

set_option maxHeartbeats 1000000 in
theorem play_crash2 (h : Two w B F G d e m n) (q : Int) (s : ByteArray) (A1 A2 : Option Addr) (l1 c1 l2 c2 : Nat) (ks : List Bool) (hk : RdL w B (.slice A2 l2 c2) ks) (hm : totM m.files ≤ 1000000000) (hn : totM n.files ≤ 1000000000) (hkl : ks.length ≤ 1000000000) (hml : m.files.length ≤ 1000) (hnl : n.files.length ≤ 1000) :
    Calls Try.prog 16 #[.pointer (some ⟨d, 0, none⟩), .pointer (some ⟨e, 0, none⟩), .agg #[.int .i64 8, .int .i64 q, .string s, .slice A1 l1 c1, .slice A2 l2 c2]] w fun r w' =>
      (∃ b, r = .returned (.bool b)) ∧ TwoX w' B d e m n ∧ Below B w w' := by
  have hp := PlayAt.new h #[.int .i64 8, .int .i64 q, .string s, .slice A1 l1 c1, .slice A2 l2 c2]
  clear h
  have HK := Lib.hid hk
  have HM := Lib.hid hm
  have HM2 := Lib.hid hn
  have HKL := Lib.hid hkl
  have HML := Lib.hid hml
  have HML2 := Lib.hid hnl
  clear hk hm hn hkl hml hnl
  go_enter Try.func16, Try.ntmps16
  go_wp2_with fail
  generalize w.alloc (.cells #[.int .i64 8, .int .i64 q, .string s, .slice A1 l1 c1, .slice A2 l2 c2] 35) = w1 at *
  obtain ⟨g, hg⟩ : ∃ g, g = w.heap.size := ⟨_, rfl⟩
  rw [← hg] at hp
  simp only [← hg]
  have HP := Lib.hid hp.drew
  clear hg hp
  go_region_held_law (fun W => W.cell? ⟨g, 4, none⟩ = some (.slice A2 l2 c2))
    (first | exact hp4.c.2.2.2 | exact hp3.c.2.2.2 | exact hp2.c.2.2.2 | exact HP.out.c.2.2.2)
    (first
      | (go_at_call 13; refine (crash_any HP.out.two.one _ ks ((HK.out.below HP.out.old).more HP.out.two.size) HM.out HML.out).mono ?_; rintro e1 w2 ⟨v2, rfl, ho2, hb2⟩; have hp2 := HP.out.below hb2; obtain ⟨A3, c3, rfl⟩ := ho2.form)
      | (go_at_call 14; refine (rcrash_any hp2.two.two _ ks ((HK.out.below hp2.old).more hp2.two.size) HM2.out HKL.out HML2.out).mono ?_; rintro e2 w3 ⟨v3, rfl, ho3, hb3⟩; have hp3 := hp2.below hb3; obtain ⟨A4, c4, rfl⟩ := ho3.form; have ho23 := ho2.below (hb3.mono (Nat.le_refl _)))
      | (go_at_call 15; refine (same2_any _ _ _ _ _ ho23.rdFs ho3.rdFs).mono ?_; rintro e3 w4 ⟨⟨bb, rfl⟩, hb4⟩; have hp4 := hp3.below hb4))
  go_wp2_with fail
  go_ret
  exact ⟨by simp, ⟨_, _, hp4.two⟩, hp4.old⟩

theorem play2_any (h : Two w B F G d e m n) (o : OpV) (ho : o.At w B) (hm : totM m.files ≤ 4194304) (hl : m.files.length ≤ 16) (hm2 : totM n.files ≤ 4194304) (hl2 : n.files.length ≤ 16) (hb : o.b.length ≤ 4194304) (hk : o.ks.length ≤ 4194304) :
    Calls Try.prog 16 #[.pointer (some ⟨d, 0, none⟩), .pointer (some ⟨e, 0, none⟩), o.val] w fun r w' =>
      (∃ b, r = .returned (.bool b)) ∧ TwoX w' B d e (stepM m o) (stepM n o) ∧ Below B w w' := by
  have hf : ∀ f ∈ m.files, f.data.length ≤ 4194304 := fun f hf => Nat.le_trans (totM_mem hf) hm
  have hg : ∀ f ∈ n.files, f.data.length ≤ 4194304 := fun f hf => Nat.le_trans (totM_mem hf) hm2
  obtain ⟨k, q, s, b, ks, A1, c1, A2, c2⟩ := o
  have hd : k = 1 ∨ k = 2 ∨ k = 3 ∨ k = 4 ∨ k = 5 ∨ k = 6 ∨ k = 7 ∨ k = 8 ∨ ¬ (1 ≤ k ∧ k ≤ 8) := by omega
  unfold OpV.val
  dsimp only at hb hk ⊢
  rcases hd with rfl | rfl | rfl | rfl | rfl | rfl | rfl | rfl | hk9
  · exact (play_append h q s A1 A2 _ c1 _ c2 ho.s b ho.b (fun f hf' => by have := hf f hf'; omega) (fun f hf' => by have := hg f hf'; omega) (by omega) (by omega) (by omega)).mono fun r w' ⟨x, h1, h2, h3, h4⟩ => ⟨⟨_, h1⟩, h3, h4⟩
  · exact (play_sync h q s A1 A2 _ c1 _ c2).mono fun r w' ⟨x, h1, h2, h3, h4⟩ => ⟨⟨_, h1⟩, h3, h4⟩
  · exact (play_trunc h q s A1 A2 _ c1 _ c2 ho.n (fun f hf' => by have := hf f hf'; omega) (fun f hf' => by have := hg f hf'; omega)).mono fun r w' ⟨x, h1, h2, h3, h4⟩ => ⟨⟨_, h1⟩, h3, h4⟩
  · exact (play_read h q s A1 A2 _ c1 _ c2 (fun f hf' => by have := hf f hf'; omega) (fun f hf' => by have := hg f hf'; omega)).mono fun r w' ⟨x, h1, h2, h3, h4⟩ => ⟨⟨_, h1⟩, h3, h4⟩
  · exact (play_arm h q s A1 A2 _ c1 _ c2 ho.n).mono fun r w' ⟨h1, h2⟩ => ⟨⟨_, h1⟩, h2⟩
  · exact (play_down h q s A1 A2 _ c1 _ c2).mono fun r w' ⟨x, h1, h2, h3, h4⟩ => ⟨⟨_, h1⟩, h3, h4⟩
  · exact (play_waiting h q s A1 A2 _ c1 _ c2 (by omega) (by omega)).mono fun r w' ⟨x, h1, h2, h3, h4⟩ => ⟨⟨_, h1⟩, h3, h4⟩
  · exact (play_crash2 h q s A1 A2 _ c1 _ c2 ks ho.ks (by omega) (by omega) (by omega) (by omega) (by omega)).mono fun r w' h => h
  · have e1 : ∀ m : DM, stepM m ⟨k, q, s, b, ks, A1, c1, A2, c2⟩ = m := by
      intro m
      unfold stepM
      dsimp only
      rw [if_neg (by omega), if_neg (by omega), if_neg (by omega), if_neg (by omega)]
    rw [e1, e1]
    exact (play_none h k hk9 q s A1 A2 _ c1 _ c2).mono fun r w' ⟨h1, h2⟩ => ⟨⟨_, h1⟩, h2⟩
end Go.Proofs.Ytcnooafnifpbaaa
