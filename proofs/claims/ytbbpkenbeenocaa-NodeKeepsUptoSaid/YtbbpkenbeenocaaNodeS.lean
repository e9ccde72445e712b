
/- The walk of the document's Same, on rows that are one. -/
import Derived.Test.YtbbpkenbeenocaaNodeH
import Derived.Test.YtbbpkenbeenocaaDiskR
import Derived.Deep.QuietTactic
import Derived.BigQuiet
namespace Go.Proofs.Ytbbpkenbeenocaa
set_option maxRecDepth 100000
open Go Go.RowKit
set_option linter.unusedVariables false

theorem RdR.more {w : World} {B B' : Nat} {v : Value} {ls : List (List UInt8)} (h : RdR w B v ls) (hB : B ≤ B') : RdR w B' v ls := by
  obtain ⟨A, c, rfl, h1, h2, hp⟩ := h
  refine ⟨A, c, rfl, h1, h2, fun h0 => ?_⟩
  obtain ⟨b, o, rfl, hlt, hc⟩ := hp h0
  refine ⟨b, o, rfl, by omega, fun j hj => ?_⟩
  obtain ⟨x, hx, hr⟩ := hc j hj
  exact ⟨x, hx, hr.more hB⟩
theorem OutR.cap {w : World} {B : Nat} {A : Option Addr} {n c : Nat} {ls : List (List UInt8)} (h : OutR w B (.slice A n c) ls) : n = ls.length ∧ ls.length ≤ c ∧ c ≤ maxLen := by
  obtain ⟨vs, h1, h2, h3, _⟩ := h
  rcases h2.2 with ⟨e, h0⟩ | ⟨g, cap, cur, e, hB, hg, hn, hm, _⟩
  · injection e with e1 e2 e3; subst e2; subst e3; exact ⟨by omega, by omega, by simp [maxLen]⟩
  · injection e with e1 e2 e3; subst e2; subst e3; exact ⟨rfl, hn, hm⟩
theorem OutR.rdR {w : World} {B : Nat} {v : Value} {ls : List (List UInt8)} (h : OutR w B v ls) : RdR w w.heap.size v ls := by
  obtain ⟨A, c, rfl⟩ := h.form
  obtain ⟨_, h1, h2⟩ := h.cap
  refine ⟨A, c, rfl, h1, h2, fun h0 => ?_⟩
  obtain ⟨vs, hl, hrow, hall, _⟩ := id h
  rcases hrow.2 with ⟨e, hz⟩ | ⟨g, cap, cur, e, hB, hg, hn, hm, hs, ht⟩
  · omega
  · injection e with e1 e2 e3
    subst e1
    refine ⟨g, 0, rfl, blk_lt hg, fun j hj => ?_⟩
    obtain ⟨x, hx, hr⟩ : ∃ x, w.cell? ⟨g, 0 + j, none⟩ = some x ∧ Rd w w.heap.size x ls[j] := by
      obtain ⟨g', o', x, e, _, hgl, hc, _, ho⟩ := h.at_ j hj
      injection e with e
      injection e with e1 e2
      subst e1; subst e2
      exact ⟨x, hc, ho.rd⟩
    exact ⟨x, hx, hr⟩
theorem RdR.takeN {w : World} {B : Nat} {A : Option Addr} {L c n : Nat} {ls : List (List UInt8)} (h : RdR w B (.slice A L c) ls) (hn : n ≤ ls.length) : RdR w B (.slice A n c) (ls.take n) := by
  obtain ⟨A', c', e, h1, h2, hp⟩ := h
  injection e with e1 e2 e3
  subst e1; subst e3
  have hl : (ls.take n).length = n := by simp; omega
  refine ⟨A, c, by rw [hl], by omega, h2, fun h0 => ?_⟩
  obtain ⟨b, o, rfl, hlt, hc⟩ := hp (by omega)
  refine ⟨b, o, rfl, hlt, fun j hj => ?_⟩
  obtain ⟨x, hx, hr⟩ := hc j (by omega)
  exact ⟨x, hx, by rw [List.getElem_take]; exact hr⟩

set_option maxHeartbeats 2000000 in
theorem nsame_any (w : World) (va vb : Value) (ls : List (List UInt8)) (ha : RdR w w.heap.size va ls) (hb : RdR w w.heap.size vb ls) :
    Calls Try.prog 13 #[va, vb] w fun e w' => e = .returned (.bool true) ∧ Below w.heap.size w w' := by
  obtain ⟨Aa, ca, rfl, hac, ham, hap⟩ := ha
  obtain ⟨Ab, cb, rfl, hbc, hbm, hbp⟩ := hb
  unfold maxLen at ham hbm
  obtain ⟨n, hn⟩ : ∃ n, n = ls.length := ⟨_, rfl⟩
  rw [← hn] at hac hbc ⊢
  have HN := Lib.hid hn
  have HA := Lib.hid hap
  have HB := Lib.hid hbp
  clear hn hap hbp
  go_enter Try.func13, Try.ntmps13
  go_wp2
  go_loopw [5, 13] (fun _ i wr => ∃ k : Nat, k ≤ n ∧ i = .int .i64 (k : Int) ∧ Below w.heap.size w wr) (fun _ i _ => n - (intOf i).toNat)
  case atStart => exact ⟨0, Nat.zero_le _, rfl, Below.refl _ _⟩
  case round =>
    obtain ⟨k, hk, rfl, hbr⟩ := hrel
    by_cases hlt : k < n
    · have hkl : k < ls.length := by have := HN.out; omega
      obtain ⟨g1, o1, rfl, hg1, hc1⟩ := HA.out (by omega)
      obtain ⟨g2, o2, rfl, hg2, hc2⟩ := HB.out (by omega)
      obtain ⟨xa, a0, ra⟩ := hc1 k hkl
      obtain ⟨xb, b0, rb⟩ := hc2 k hkl
      have a0' := (hbr.cell (p := ⟨g1, o1 + k, none⟩) hg1).trans a0
      have b0' := (hbr.cell (p := ⟨g2, o2 + k, none⟩) hg2).trans b0
      obtain ⟨l, hl⟩ : ∃ l, l = ls[k] := ⟨_, rfl⟩
      rw [← hl] at ra rb
      have q1 : ∀ j : Nat, (convert 40 9 xa).run Try.prog (wr.drewN j) = .ok (.string ⟨l.toArray⟩) (wr.drewN j) := fun j => run_str (w := wr.drewN j) Try.underlying40 Try.underlying5 Try.isString ((ra.below hbr).drewN j)
      have q2 : ∀ j : Nat, (convert 40 9 xb).run Try.prog (wr.drewN j) = .ok (.string ⟨l.toArray⟩) (wr.drewN j) := fun j => run_str (w := wr.drewN j) Try.underlying40 Try.underlying5 Try.isString ((rb.below hbr).drewN j)
      obtain ⟨SX, hSX⟩ : ∃ SX : ByteArray, SX = ⟨l.toArray⟩ := ⟨_, rfl⟩
      rw [← hSX] at q1 q2
      have i1 : (0 : Int) ≤ (k : Int) := by omega
      have i2 : (k : Int) < (n : Int) := by omega
      have hne : (SX.toList != SX.toList) = false := by simp
      clear a0 b0 hc1 hc2 hl ra rb hSX
      go_wp2_with fail
      go_quiet (fail)
      clear q1 q2
      go_wp2_with fail
      exact ⟨⟨k + 1, by omega, by go_num, below_drewN' hbr _⟩, by simp [intOf]; omega⟩
    · have i2 : ¬ (k : Int) < (n : Int) := by omega
      go_wp2_with fail
      go_ret
      exact ⟨rfl, hbr⟩
end Go.Proofs.Ytbbpkenbeenocaa
