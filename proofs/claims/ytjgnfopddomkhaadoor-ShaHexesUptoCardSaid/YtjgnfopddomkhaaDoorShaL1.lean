/- The walk of the law: bytes have the same digits just if they are the same. -/
import Derived.Test.YtjgnfopddomkhaaDoorShaF
import Derived.Test.YtjgnfopddomkhaaDoorSame
namespace Go.Proofs.YtjgnfopddomkhaaDoor
open Go.RowKit

theorem digits_inj : ∀ a b : Fin 16, digits.getD a.val 0 = digits.getD b.val 0 → a = b := by decide +kernel
theorem hex2_inj {x y : UInt8} (h : hex2 x = hex2 y) : x = y := by
  unfold hex2 at h
  injection h with h1 h2
  injection h2 with h2 _
  have hx := x.toNat_lt
  have hy := y.toNat_lt
  have e1 := digits_inj ⟨x.toNat / 16, by omega⟩ ⟨y.toNat / 16, by omega⟩ h1
  have e2 := digits_inj ⟨x.toNat % 16, by omega⟩ ⟨y.toNat % 16, by omega⟩ h2
  have e3 : x.toNat / 16 = y.toNat / 16 := congrArg Fin.val e1
  have e4 : x.toNat % 16 = y.toNat % 16 := congrArg Fin.val e2
  exact UInt8.toNat_inj.1 (by omega)
theorem hexOf_inj : ∀ {l m : List UInt8}, hexOf l = hexOf m → l = m
  | [], [], _ => rfl
  | [], y :: m, h => by have := congrArg List.length h; rw [hexOf_length, hexOf_length] at this; simp at this
  | x :: l, [], h => by have := congrArg List.length h; rw [hexOf_length, hexOf_length] at this; simp at this
  | x :: l, y :: m, h => by
    have h1 : hex2 x ++ hexOf l = hex2 y ++ hexOf m := h
    obtain ⟨h2, h3⟩ := List.append_inj h1 rfl
    rw [hex2_inj h2, hexOf_inj h3]

set_option maxHeartbeats 1000000 in
theorem apart_walk (va vb : Value) (a b : List UInt8) (w : World) (ha : Rd w w.heap.size va a) (hb : Rd w w.heap.size vb b) (hal : a.length ≤ 70368744177664) (hbl : b.length ≤ 70368744177664)
    (fr : TypeId × Nat × Nat) (hk : w.heap[0]? = some (.cells kVals fr.1 fr.2)) :
    Calls Tryd.prog 7 #[va, vb] w fun e w' => e = .returned (.bool true) ∧ Below w.heap.size w w' := by
  go_enter Tryd.func7, Tryd.ntmps7
  go_wp2_with fail
  refine (fixed_any w fr hk).mono ?_
  rintro e w1 ⟨rfl, hb1⟩
  have ha1 := ha.up (Nat.le_refl _) hb1
  have hb11 := hb.up (Nat.le_refl _) hb1
  go_wp2_with fail
  refine (hex_any va a w1 ha1 hal).mono ?_
  rintro e w2 ⟨rfl, hb2⟩
  have hbw2 := below_chain hb1 hb1.size hb2
  have hb22 := hb11.up (Nat.le_refl _) hb2
  have ha2 := ha1.up (Nat.le_refl _) hb2
  go_wp2_with fail
  refine (hex_any vb b w2 hb22 hbl).mono ?_
  rintro e w3 ⟨rfl, hb3⟩
  have hbw3 := below_chain hbw2 hbw2.size hb3
  have hb33 := hb22.up (Nat.le_refl _) hb3
  have ha3 := ha2.up (Nat.le_refl _) hb3
  clear hb1 hb2 hb3 ha1 hb11 ha2 hb22 hbw2 ha hb
  go_wp2_with fail
  refine (same_any va vb a b w3 ha3 hb33).mono ?_
  rintro e w4 ⟨rfl, hb4⟩
  have hbw4 := below_chain hbw3 hbw3.size hb4
  have hq : (hexOf a == hexOf b) = sameB a b := by
    unfold sameB
    by_cases h : a = b
    · subst h; simp
    · rw [decide_eq_false h]
      simp only [beq_eq_false_iff_ne, ne_eq]
      exact fun e => h (hexOf_inj e)
  clear hb4 ha3 hb33 hbw3
  go_wp2
  go_ret
  exact ⟨rfl, hbw4⟩
end Go.Proofs.YtjgnfopddomkhaaDoor
