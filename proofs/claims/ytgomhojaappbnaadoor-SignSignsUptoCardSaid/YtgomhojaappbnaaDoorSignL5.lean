/- The walk of the law: each root and signature is the one that the document makes. -/
import Derived.Test.YtgomhojaappbnaaDoorSignL4
import Derived.Test.YtgomhojaappbnaaDoorSignN
namespace Go.Proofs.YtgomhojaappbnaaDoor
open Go Go.RowKit

theorem same_eq4 (a b : Value) (l : List UInt8) (w : World) (ha : Rd w w.heap.size a l) (hb : Rd w w.heap.size b l) :
    Calls Tryd.prog 11 #[a, b] w fun e w' => e = .returned (.bool true) ∧ Below w.heap.size w w' := by
  have h := same_any a b l l w ha hb
  rw [sameB_refl] at h
  exact h

set_option maxHeartbeats 4000000 in
set_option maxRecDepth 100000 in
theorem signs_walk (v1 v3 : Value) (seed msg : List UInt8) (key : Int) (w : World) (h1 : Rd w w.heap.size v1 seed) (h3 : Rd w w.heap.size v3 msg) (hl1 : seed.length ≤ 1048576) (hl3 : msg.length ≤ 1048576) (fr : TypeId × Nat × Nat) (hk : w.heap[0]? = some (.cells kVals fr.1 fr.2)) (fr2 : TypeId × Nat × Nat) (hk2 : w.heap[1]? = some (.cells kVals fr2.1 fr2.2)) :
    Calls Tryd.prog 3 #[v1, .int .i64 key, v3] w fun e w' => e = .returned (.bool true) ∧ Below w.heap.size w w' := by
  obtain ⟨i0, hi, hz, hsz, hby⟩ := info_parts Tryd.infoByte
  have hn0 := blk_lt hk
  have hn1 := blk_lt hk2
  have HK := Lib.hid hk
  have HK2 := Lib.hid hk2
  clear hk hk2
  obtain ⟨A1, c1, rfl⟩ := h1.form
  obtain ⟨A3, c3, rfl⟩ := h3.form
  have HRl := Lib.hid (rootL_length seed)
  have hbe : Below w.heap.size w (w.alloc (.cells #[] 5)) := (Below.refl _ _).alloc (Nat.le_refl _) _
  have hemp := own_empty w (Nat.le_refl _)
  by_cases hin : 0 ≤ key ∧ key < 8
  · obtain ⟨k0, k8⟩ := hin
    obtain ⟨k, rfl⟩ := Int.eq_ofNat_of_zero_le k0
    have hk8 : k < 8 := by omega
    have HSl := Lib.hid (signL_length seed k msg hk8)
    go_enter Tryd.func3, Tryd.ntmps3
    go_wp2_with (at_builtin; first
      | (refine wpList_append_rd rfl (.tmp 14) (.tmp 15) _ rfl i0 Tryd.underlying22 hi hz hsz hby rfl hemp rfl (h1.below hbe) (by simp only [List.length_nil]; omega) hbe.size ?_; intro u1 w1 ho1 hg1 _
         have hb1 : Below w.heap.size w w1 := Own.below_grown hbe hemp (Nat.le_refl _) hbe.size hg1
         rw [List.nil_append] at ho1
         have hemp2 := own_empty w1 (Nat.le_refl _)
         have hbe2 : Below w1.heap.size w1 (w1.alloc (.cells #[] 5)) := (Below.refl _ _).alloc (Nat.le_refl _) _
         have h31 := h3.up (Nat.le_refl _) hb1
         have hs1 := ho1.rd
         obtain ⟨B1, d1, rfl⟩ := ho1.form
         clear hg1 hbe hemp ho1)
      | (refine wpList_append_rd rfl (.tmp 17) (.tmp 18) _ rfl i0 Tryd.underlying22 hi hz hsz hby rfl hemp2 rfl (h31.below hbe2) (by simp only [List.length_nil]; omega) hbe2.size ?_; intro u2 w2 ho2 hg2 _
         have hb12 : Below w1.heap.size w1 w2 := Own.below_grown hbe2 hemp2 (Nat.le_refl _) hbe2.size hg2
         rw [List.nil_append] at ho2
         have hs2 := hs1.up (Nat.le_refl _) hb12
         have hm2 := ho2.rd
         obtain ⟨B2, d2, rfl⟩ := ho2.form
         have hq2 := below_chain hb1 hb1.size hb12
         clear hg2 hbe2 hemp2 ho2 h31 hs1 hb1 hb12))
    refine (root_any _ seed w2 (h1.up (Nat.le_refl _) hq2) fr ((hq2.block _ hn0).trans HK.out)).mono ?_
    rintro e w3 ⟨v3', rfl, hr3, hb3⟩
    obtain ⟨A5, c5, rfl⟩ := hr3.1.formN HRl.out
    have hq3 := below_chain hq2 hq2.size hb3
    have hs3 := hs2.up (Nat.le_refl _) hb3
    have hm3 := hm2.up (Nat.le_refl _) hb3
    clear hs2 hm2 hb3 hq2
    go_wp2_with fail
    refine (sign_yes _ _ seed msg k w3 (h1.up (Nat.le_refl _) hq3) (h3.up (Nat.le_refl _) hq3) hk8 fr ((hq3.block _ hn0).trans HK.out)).mono ?_
    rintro e w4 ⟨v4, rfl, ho4, hb4⟩
    obtain ⟨A6, c6, rfl⟩ := ho4.form' HSl.out
    have hq4 := below_chain hq3 hq3.size hb4
    have hs4 := hs3.up (Nat.le_refl _) hb4
    have hm4 := hm3.up (Nat.le_refl _) hb4
    have hr4 := hr3.up hb4
    clear hs3 hm3 hr3 hb4 hq3
    go_wp2_with fail
    refine (rsign_yes _ _ seed msg k w4 hs4 hm4 hk8 fr2 ((hq4.block _ hn1).trans HK2.out)).mono ?_
    rintro e w5 ⟨v5, rfl, ho5, hb5⟩
    obtain ⟨A7, c7, rfl⟩ := ho5.form' HSl.out
    have hq5 := below_chain hq4 hq4.size hb5
    have hs5 := hs4.up (Nat.le_refl _) hb5
    have hm5 := hm4.up (Nat.le_refl _) hb5
    have hr5 := hr4.up hb5
    have hx5 := (ho4.below hb5).rd
    have hy5 := ho5.rd
    clear hs4 hm4 hr4 hb5 hq4 ho4 ho5
    go_wp2_with fail
    refine (rroot_any _ seed w5 hs5 fr2 ((hq5.block _ hn1).trans HK2.out)).mono ?_
    rintro e w6 ⟨v6, rfl, hr6, hb6⟩
    obtain ⟨A8, c8, rfl⟩ := hr6.1.formN HRl.out
    have hq6 := below_chain hq5 hq5.size hb6
    have hs6 := hs5.up (Nat.le_refl _) hb6
    have hm6 := hm5.up (Nat.le_refl _) hb6
    have hr56 := hr5.up hb6
    have hx6 := hx5.up (Nat.le_refl _) hb6
    have hy6 := hy5.up (Nat.le_refl _) hb6
    clear hs5 hm5 hr5 hb6 hq5 hx5 hy5
    go_wp2_with fail
    refine (same_eq4 _ _ (rootL seed) w6 hr56.1 hr6.1).mono ?_
    rintro e w7 ⟨rfl, hb7⟩
    have hq7 := below_chain hq6 hq6.size hb7
    have hs7 := hs6.up (Nat.le_refl _) hb7
    have hm7 := hm6.up (Nat.le_refl _) hb7
    have hx7 := hx6.up (Nat.le_refl _) hb7
    have hy7 := hy6.up (Nat.le_refl _) hb7
    clear hs6 hm6 hr56 hr6 hb7 hq6 hx6 hy6
    go_wp2_with fail
    refine (same_eq4 _ _ (signL seed k msg) w7 hx7 hy7).mono ?_
    rintro e w8 ⟨rfl, hb8⟩
    have hq8 := below_chain hq7 hq7.size hb8
    have hs8 := hs7.up (Nat.le_refl _) hb8
    have hm8 := hm7.up (Nat.le_refl _) hb8
    clear hs7 hm7 hb8 hq7 hx7 hy7
    go_wp2_with fail
    refine (same_eq4 _ _ seed w8 (h1.up (Nat.le_refl _) hq8) hs8).mono ?_
    rintro e w9 ⟨rfl, hb9⟩
    have hq9 := below_chain hq8 hq8.size hb9
    have hm9 := hm8.up (Nat.le_refl _) hb9
    clear hs8 hm8 hb9 hq8
    go_wp2_with fail
    refine (same_eq4 _ _ msg w9 (h3.up (Nat.le_refl _) hq9) hm9).mono ?_
    rintro e w10 ⟨rfl, hb10⟩
    go_wp2_with fail
    go_ret
    exact ⟨rfl, below_chain hq9 hq9.size hb10⟩
  · have hno : key < 0 ∨ 8 ≤ key := by omega
    have S1 := Lib.hid (fun W : World => sign_no (.slice A1 seed.length c1) (.slice A3 msg.length c3) key W hno)
    have S2 := Lib.hid (fun (a b : Value) (W : World) => rsign_no a b key W hno)
    clear hin hno
    go_enter Tryd.func3, Tryd.ntmps3
    go_wp2_with (at_builtin; first
      | (refine wpList_append_rd rfl (.tmp 14) (.tmp 15) _ rfl i0 Tryd.underlying22 hi hz hsz hby rfl hemp rfl (h1.below hbe) (by simp only [List.length_nil]; omega) hbe.size ?_; intro u1 w1 ho1 hg1 _
         have hb1 : Below w.heap.size w w1 := Own.below_grown hbe hemp (Nat.le_refl _) hbe.size hg1
         rw [List.nil_append] at ho1
         have hemp2 := own_empty w1 (Nat.le_refl _)
         have hbe2 : Below w1.heap.size w1 (w1.alloc (.cells #[] 5)) := (Below.refl _ _).alloc (Nat.le_refl _) _
         have h31 := h3.up (Nat.le_refl _) hb1
         have hs1 := ho1.rd
         obtain ⟨B1, d1, rfl⟩ := ho1.form
         clear hg1 hbe hemp ho1)
      | (refine wpList_append_rd rfl (.tmp 17) (.tmp 18) _ rfl i0 Tryd.underlying22 hi hz hsz hby rfl hemp2 rfl (h31.below hbe2) (by simp only [List.length_nil]; omega) hbe2.size ?_; intro u2 w2 ho2 hg2 _
         have hb12 : Below w1.heap.size w1 w2 := Own.below_grown hbe2 hemp2 (Nat.le_refl _) hbe2.size hg2
         rw [List.nil_append] at ho2
         have hs2 := hs1.up (Nat.le_refl _) hb12
         have hm2 := ho2.rd
         obtain ⟨B2, d2, rfl⟩ := ho2.form
         have hq2 := below_chain hb1 hb1.size hb12
         clear hg2 hbe2 hemp2 ho2 h31 hs1 hb1 hb12))
    refine (root_any _ seed w2 (h1.up (Nat.le_refl _) hq2) fr ((hq2.block _ hn0).trans HK.out)).mono ?_
    rintro e w3 ⟨v3', rfl, hr3, hb3⟩
    obtain ⟨A5, c5, rfl⟩ := hr3.1.formN HRl.out
    have hq3 := below_chain hq2 hq2.size hb3
    have hs3 := hs2.up (Nat.le_refl _) hb3
    have hm3 := hm2.up (Nat.le_refl _) hb3
    clear hs2 hm2 hb3 hq2
    go_wp2_with fail
    refine (S1.out w3).mono ?_
    rintro e w4 ⟨rfl, rfl⟩
    go_wp2_with fail
    refine (S2.out _ _ w3).mono ?_
    rintro e w5 ⟨rfl, rfl⟩
    have hq5 := hq3
    have hs5 := hs3
    have hm5 := hm3
    have hr5 := hr3
    have hx5 := Rd.nil w3 w3.heap.size
    have hy5 := Rd.nil w3 w3.heap.size
    clear hs3 hm3 hr3 hq3
    go_wp2_with fail
    refine (rroot_any _ seed w3 hs5 fr2 ((hq5.block _ hn1).trans HK2.out)).mono ?_
    rintro e w6 ⟨v6, rfl, hr6, hb6⟩
    obtain ⟨A8, c8, rfl⟩ := hr6.1.formN HRl.out
    have hq6 := below_chain hq5 hq5.size hb6
    have hs6 := hs5.up (Nat.le_refl _) hb6
    have hm6 := hm5.up (Nat.le_refl _) hb6
    have hr56 := hr5.up hb6
    have hx6 := hx5.up (Nat.le_refl _) hb6
    have hy6 := hy5.up (Nat.le_refl _) hb6
    clear hs5 hm5 hr5 hb6 hq5 hx5 hy5
    go_wp2_with fail
    refine (same_eq4 _ _ (rootL seed) w6 hr56.1 hr6.1).mono ?_
    rintro e w7 ⟨rfl, hb7⟩
    have hq7 := below_chain hq6 hq6.size hb7
    have hs7 := hs6.up (Nat.le_refl _) hb7
    have hm7 := hm6.up (Nat.le_refl _) hb7
    have hx7 := hx6.up (Nat.le_refl _) hb7
    have hy7 := hy6.up (Nat.le_refl _) hb7
    clear hs6 hm6 hr56 hr6 hb7 hq6 hx6 hy6
    go_wp2_with fail
    refine (same_eq4 _ _ [] w7 hx7 hy7).mono ?_
    rintro e w8 ⟨rfl, hb8⟩
    have hq8 := below_chain hq7 hq7.size hb8
    have hs8 := hs7.up (Nat.le_refl _) hb8
    have hm8 := hm7.up (Nat.le_refl _) hb8
    clear hs7 hm7 hb8 hq7 hx7 hy7
    go_wp2_with fail
    refine (same_eq4 _ _ seed w8 (h1.up (Nat.le_refl _) hq8) hs8).mono ?_
    rintro e w9 ⟨rfl, hb9⟩
    have hq9 := below_chain hq8 hq8.size hb9
    have hm9 := hm8.up (Nat.le_refl _) hb9
    clear hs8 hm8 hb9 hq8
    go_wp2_with fail
    refine (same_eq4 _ _ msg w9 (h3.up (Nat.le_refl _) hq9) hm9).mono ?_
    rintro e w10 ⟨rfl, hb10⟩
    go_wp2_with fail
    go_ret
    exact ⟨rfl, below_chain hq9 hq9.size hb10⟩
end Go.Proofs.YtgomhojaappbnaaDoor
