/- The walks of package sign: equal bytes, a piece of a signature, the closure of Verify. -/
import Derived.Test.YtgomhojaappbnaaDoorSignF
import Derived.Test.YtgomhojaappbnaaDoorSame
namespace Go.Proofs.YtgomhojaappbnaaDoor
open Go Go.RowKit

def pieceL (sig : List UInt8) (i : Nat) : List UInt8 := (sig.drop (32 * i)).take 32
theorem pieceL_length (sig : List UInt8) (i : Nat) (h : sig.length = 672) (hi : i < 21) : (pieceL sig i).length = 32 := by
  rw [pieceL, List.length_take, List.length_drop, h]; omega

theorem Rd.formN {w : World} {B : Nat} {v : Value} {l : List UInt8} {n : Nat} (h : Rd w B v l) (e : l.length = n) : ∃ A c, v = .slice A n c := by subst e; exact h.form
theorem Rd.part {w : World} {B b o c n : Nat} {l : List UInt8} (h : Rd w B (.slice (some ⟨b, o, none⟩) n c) l) (i k : Nat) (hik : i + k ≤ n) : Rd w B (.slice (some ⟨b, o + i, none⟩) k (c - i)) ((l.drop i).take k) := by
  obtain ⟨A', c', hv, hlc, hcm, hp⟩ := h
  injection hv with h1 h2 h3
  subst h1; subst h2; subst h3
  have hl : ((l.drop i).take k).length = k := by rw [List.length_take, List.length_drop]; omega
  refine ⟨some ⟨b, o + i, none⟩, c - i, by rw [hl], by omega, by omega, fun h0 => ?_⟩
  obtain ⟨b', o', e, hb, hcell⟩ := hp (by omega)
  injection e with e
  injection e with e1 e2 e3
  subst e1; subst e2
  refine ⟨b, o + i, rfl, hb, fun j hj => ?_⟩
  rw [Nat.add_assoc, hcell (i + j) (by omega)]
  simp

theorem equal_any (v1 v2 : Value) (l m : List UInt8) (w : World) (h1 : Rd w w.heap.size v1 l) (h2 : Rd w w.heap.size v2 m) :
    Calls Tryd.prog 26 #[v1, v2] w fun e w' => e = .returned (.bool (sameB l m)) ∧ w = w' := by
  have e1 := run_str (P := Tryd.prog) (src := 22) (dst := 9) Tryd.underlying22 Tryd.underlying5 Tryd.isString h1
  have e2 := run_str (P := Tryd.prog) (src := 22) (dst := 9) Tryd.underlying22 Tryd.underlying5 Tryd.isString h2
  obtain ⟨A1, c1, rfl⟩ := h1.form
  obtain ⟨A2, c2, rfl⟩ := h2.form
  have hs : Hid (sameB l m = decide (l = m)) := Lib.hid rfl
  go_enter Tryd.func26, Tryd.ntmps26
  go_wp2_with fail
  go_ret
  refine ⟨?_, rfl⟩
  rw [hs.out]
  have hb : (l == m) = decide (l = m) := by rw [Bool.eq_iff_iff]; simp
  rw [← hb]
  rfl

set_option maxHeartbeats 1000000 in
theorem piece_any (b o c i : Nat) (sig : List UInt8) (w : World) (h : Rd w w.heap.size (.slice (some ⟨b, o, none⟩) 672 c) sig) (hi : i < 21) :
    Calls Tryd.prog 24 #[.slice (some ⟨b, o, none⟩) 672 c, .int .i64 (i : Int)] w fun e w' => e = .returned (.slice (some ⟨b, o + 32 * i, none⟩) 32 (c - 32 * i)) ∧ w = w' := by
  have hc : 672 ≤ c ∧ c ≤ maxLen := by
    obtain ⟨A', c', e, h1, h2, _⟩ := h
    injection e with _ e2 e3
    omega
  obtain ⟨hc, hcm⟩ := hc
  unfold maxLen at hcm
  have i1 : (0 : Int) ≤ (i : Int) := by omega
  have i2 : (i : Int) < 21 := by omega
  have i3 : (i : Int) * 32 ≤ 640 := by omega
  have i4 : ((i : Int) + 1) * 32 ≤ (c : Int) := by omega
  have i5 : ((i : Int) + 1) * 32 ≤ 672 := by omega
  have i6 : ¬ (i : Int) * 32 = (c : Int) := by omega
  have i7 : (i : Int) * 32 ≤ ((i : Int) + 1) * 32 := by omega
  go_enter Tryd.func24, Tryd.ntmps24
  go_wp2_with fail
  go_ret
  refine ⟨?_, rfl⟩
  show Ending.returned (Value.slice (some ⟨b, o + i * 32, none⟩) ((i + 1) * 32 - i * 32) (c - i * 32)) = _
  rw [show (i + 1) * 32 - i * 32 = 32 by omega, Nat.mul_comm i 32]

set_option maxHeartbeats 1000000 in
theorem verFn_any (b1 b2 b o c k d : Nat) (sig : List UInt8) (w : World) (h : Rd w w.heap.size (.slice (some ⟨b, o, none⟩) 672 c) sig) (hi : k < 18) (hc1 : w.cell? ⟨b1, k, none⟩ = some (.int .i64 (d : Int))) (hc2 : w.cell? ⟨b2, 0, none⟩ = some (.slice (some ⟨b, o, none⟩) 672 c)) :
    Calls Tryd.prog 23 #[.int .i64 (k : Int), .pointer (some ⟨b1, 0, none⟩), .pointer (some ⟨b2, 0, none⟩)] w fun e w' => e = .returned (.tuple #[.int .i64 (d : Int), .slice (some ⟨b, o + 32 * k, none⟩) 32 (c - 32 * k)]) ∧ ∃ n, w' = w.drewN n := by
  have i1 : (0 : Int) ≤ (k : Int) := by omega
  have i2 : (k : Int) < 18 := by omega
  have hP : ∀ n : Nat, Calls Tryd.prog 24 #[.slice (some ⟨b, o, none⟩) 672 c, .int .i64 (k : Int)] (w.drewN n) fun e w' => e = .returned (.slice (some ⟨b, o + 32 * k, none⟩) 32 (c - 32 * k)) ∧ w' = w.drewN n :=
    fun n => (piece_any b o c k sig (w.drewN n) (h.drewN n) (by omega)).mono fun e w' ⟨h1, h2⟩ => ⟨h1, h2.symm⟩
  have HP := Lib.hid hP
  clear hP
  go_enter Tryd.func23, Tryd.ntmps23
  go_wp2_with fail
  go_quiet ((go_at_call 24; exact Calls.quiet_of_same (HP.out _)))
  go_wp2_with fail
  go_ret2
  exact ⟨rfl, _, rfl⟩
end Go.Proofs.YtgomhojaappbnaaDoor
