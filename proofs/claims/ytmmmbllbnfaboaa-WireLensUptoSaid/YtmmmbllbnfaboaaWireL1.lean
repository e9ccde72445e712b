/- The walk of the law on lengths. -/
import Derived.Test.YtmmmbllbnfaboaaWireFx
namespace Go.Proofs.Ytmmmbllbnfaboaa
open Go.RowKit

theorem Own.form' {w : World} {B : Nat} {v : Value} {l : List UInt8} {n : Nat} (h : Own w B v l) (e : l.length = n) : ∃ A c, v = .slice A n c := by subst e; exact h.form
/-- the cells of a box, in a world where nothing up to it has turned -/
theorem box_cells {w w' : World} {cs : Array Value} {t : TypeId} (h : Below (w.heap.size + 1) (w.alloc (.cells cs t)) w') (o : Nat) : w'.cell? ⟨w.heap.size, o, none⟩ = cs[o]? := by
  rw [h.cell (p := ⟨w.heap.size, o, none⟩) (by simp)]
  exact blk_cell (heap_alloc_new w _) o

set_option maxHeartbeats 1600000 in
theorem lens_walk1 (A A' : Option Addr) (c c' : Nat) (l m : List UInt8) (kind most : Int) (n k : Nat) (yes : Bool) (w : World) (hb : Rd w w.heap.size (.slice A l.length c) l) (hx : Rd w w.heap.size (.slice A' m.length c') m)
    (h1 : n < 18446744073709551616) (hl : l.length ≤ 140737488355328 - 65539) (hk : min m.length 65535 = k) (hc : (m.length ≤ 65535 ∧ k = m.length) ∨ (65535 < m.length ∧ k = 65535)) :
    Calls Try.prog 7 #[.slice A l.length c, .agg #[.int .i64 kind, .int .i64 most, .int .u64 (n : Int), .slice A' m.length c', .bool yes]] w fun e w' => e = .returned (.bool true) ∧ Below w.heap.size w w' := by
  have hml := hx.len
  have hl2 : (l.length : Int) ≤ 140737488355328 := by omega
  have hk5 : (k : Int) ≤ 65535 := by omega
  have hkl : (m.take 65535).length = k := by rw [List.length_take]; omega
  have HK := Lib.hid hkl
  clear hk hkl
  have fin : ∀ K : Act → World → Prop, True := fun _ => trivial
  clear fin
  obtain ⟨W, hW⟩ : ∃ W, W = w.alloc (.cells #[.int .i64 kind, .int .i64 most, .int .u64 (n : Int), .slice A' m.length c', .bool yes] 25) := ⟨_, rfl⟩
  have hsz : W.heap.size = w.heap.size + 1 := by rw [hW]; simp
  have hb0 : Below w.heap.size w W := by rw [hW]; exact (Below.refl _ _).alloc (Nat.le_refl _) _
  have hbW : Rd W W.heap.size (.slice A l.length c) l := (hb.below hb0).more (by omega)
  have hxW : Rd W W.heap.size (.slice A' m.length c') m := (hx.below hb0).more (by omega)
  have HB : ∀ w' : World, Below W.heap.size W w' → ∀ o, w'.cell? ⟨w.heap.size, o, none⟩ = (#[.int .i64 kind, .int .i64 most, .int .u64 (n : Int), .slice A' m.length c', .bool yes] : Array Value)[o]? := by
    intro w' h o
    rw [hsz, hW] at h
    exact box_cells h o
  have HB' := Lib.hid HB
  clear HB
  have HW := Lib.hid hW
  have HS := Lib.hid hsz
  have hc3 : (m.length ≤ 65535 ∧ (k : Int) = (m.length : Int)) ∨ ((65535 : Int) < (m.length : Int) ∧ k = 65535) := by omega
  have hml2 : m.length ≤ 9223372036854775807 := hml
  rcases hc with ⟨hc, rfl⟩ | ⟨hc, rfl⟩
  all_goals
    first
      | (have hc2 : (m.length : Int) ≤ 65535 := by omega)
      | (have hc2 : (65535 : Int) < (m.length : Int) := (by omega); have hc4 : ¬ (m.length : Int) ≤ 65535 := (by omega))
    clear hc3
    go_enter Try.func7, Try.ntmps7
    clear hsz
    go_wp2_with fail
    rw [← HW.out]
    refine (fixed_any W).mono ?_
    rintro e w1 ⟨rfl, hb1⟩
    have hc1 := HB'.out _ hb1
    have hbv := hbW.up (Nat.le_refl _) hb1
    go_wp2_with fail
    refine (N_any _ l n w1 hbv h1 (by omega)).mono ?_
    rintro e w2 ⟨v2, rfl, ho2, hb2⟩
    obtain ⟨A2, c2, rfl⟩ := ho2.form' (n := l.length + 8) (by simp [be_length])
    have hB2 := below_chain hb1 hb1.size hb2
    have hc1 := HB'.out _ hB2
    have hbv := hbW.up (Nat.le_refl _) hB2
    have hxv := hxW.up (Nat.le_refl _) hB2
    clear hb1 ho2 hb2
    go_wp2_with fail
    refine (B_any _ _ l m w2 hbv hxv (by omega)).mono ?_
    rintro e w3 ⟨v3, rfl, ho3, hb3⟩
    obtain ⟨A3, c3, rfl⟩ := ho3.form' (n := l.length + 4 + _) (by simp only [List.length_append, be_length]; rw [HK.out])
    have hB3 := below_chain hB2 hB2.size hb3
    have hc1 := HB'.out _ hB3
    have hbv := hbW.up (Nat.le_refl _) hB3
    have hxv := hxW.up (Nat.le_refl _) hB3
    have hcv := run_str (P := Try.prog) Try.underlying22 Try.underlying5 Try.isString hxv
    clear hB2 ho3 hb3
    go_wp2_with fail
    refine (T_any _ ⟨m.toArray⟩ l w3 hbv (by show m.toArray.size ≤ maxLen; simpa using hml) (by omega)).mono ?_
    rintro e w4 ⟨v4, rfl, ho4, hb4⟩
    obtain ⟨A4, c4, rfl⟩ := ho4.form' (n := l.length + 4 + _) (by simp only [List.length_append, be_length, strBytes_mk]; rw [HK.out])
    have hB4 := below_chain hB3 hB3.size hb4
    have hc1 := HB'.out _ hB4
    have hbv := hbW.up (Nat.le_refl _) hB4
    clear hB3 ho4 hb4 hcv hxv
    go_wp2_with fail
    refine (F_any _ yes l w4 hbv (by omega)).mono ?_
    rintro e w5 ⟨v5, rfl, ho5, hb5⟩
    obtain ⟨A5, c5, rfl⟩ := ho5.form' (n := l.length + 1) (by simp)
    have hB5 := below_chain hB4 hB4.size hb5
    clear hB4 ho5 hb5 hc1 hbv
    go_wp2_with fail
    go_ret
    exact ⟨rfl, below_chain hb0 hb0.size hB5⟩
end Go.Proofs.Ytmmmbllbnfaboaa
