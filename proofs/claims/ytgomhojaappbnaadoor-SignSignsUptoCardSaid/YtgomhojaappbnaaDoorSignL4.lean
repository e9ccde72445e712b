/- The walk of the law: what is signed is verified. -/
import Derived.Test.YtgomhojaappbnaaDoorSignM
namespace Go.Proofs.YtgomhojaappbnaaDoor
open Go Go.RowKit

set_option maxHeartbeats 1000000 in
theorem sign_no (v1 v3 : Value) (key : Int) (w : World) (hno : key < 0 ∨ 8 ≤ key) :
    Calls Tryd.prog 9 #[v1, .int .i64 key, v3] w fun e w' => e = .returned (.tuple #[.slice none 0 0, .int .i64 30]) ∧ w = w' := by
  by_cases h0 : key < 0
  · clear hno
    go_enter Tryd.func9, Tryd.ntmps9
    go_wp2_with fail
    go_ret2
    exact ⟨rfl, rfl⟩
  · have h8 : 8 ≤ key := by omega
    have h1 : 0 ≤ key := by omega
    clear hno h0
    go_enter Tryd.func9, Tryd.ntmps9
    go_wp2_with fail
    go_ret2
    exact ⟨rfl, rfl⟩

set_option maxHeartbeats 4000000 in
set_option maxRecDepth 100000 in
theorem holds_walk (v1 v3 : Value) (seed msg : List UInt8) (key : Int) (w : World) (h1 : Rd w w.heap.size v1 seed) (h3 : Rd w w.heap.size v3 msg) (fr : TypeId × Nat × Nat) (hk : w.heap[0]? = some (.cells kVals fr.1 fr.2)) :
    Calls Tryd.prog 5 #[v1, .int .i64 key, v3] w fun e w' => e = .returned (.bool true) ∧ Below w.heap.size w w' := by
  have hn0 := blk_lt hk
  have HK := Lib.hid hk
  clear hk
  obtain ⟨A1, c1, rfl⟩ := h1.form
  obtain ⟨A3, c3, rfl⟩ := h3.form
  have HRl := Lib.hid (rootL_length seed)
  by_cases hin : 0 ≤ key ∧ key < 8
  · obtain ⟨k0, k8⟩ := hin
    obtain ⟨k, rfl⟩ := Int.eq_ofNat_of_zero_le k0
    have hk8 : k < 8 := by omega
    have k7 : (k : Int) ≤ 7 := by omega
    have HSl := Lib.hid (signL_length seed k msg hk8)
    have HVB := Lib.hid (verB_holds seed k msg hk8)
    go_enter Tryd.func5, Tryd.ntmps5
    go_wp2_with fail
    refine (sign_yes _ _ seed msg k w h1 h3 hk8 fr HK.out).mono ?_
    rintro e w1 ⟨v4, rfl, ho4, hb1⟩
    generalize signL seed k msg = S at *
    obtain ⟨A4, c4, rfl⟩ := ho4.form' HSl.out
    have hv1 := h1.up (Nat.le_refl _) hb1
    go_wp2_with fail
    refine (root_any _ seed w1 hv1 fr ((hb1.block _ hn0).trans HK.out)).mono ?_
    rintro e w2 ⟨v5, rfl, hr5, hb2⟩
    obtain ⟨A5, c5, rfl⟩ := hr5.1.formN HRl.out
    have hq2 := below_chain hb1 hb1.size hb2
    have hs2 := (ho4.below hb2).rd
    clear hv1 ho4
    go_wp2_with fail
    refine (verify_any _ _ _ (rootL seed) msg S (k : Int) w2 hr5.1 (h3.up (Nat.le_refl _) hq2) hs2 fr ((hq2.block _ hn0).trans HK.out)).mono ?_
    rintro e w3 ⟨rfl, hb3⟩
    rw [HVB.out]
    have hq3 := below_chain hq2 hq2.size hb3
    clear hs2 hr5
    go_wp2_with fail
    go_ret
    exact ⟨rfl, hq3⟩
  · have hno : key < 0 ∨ 8 ≤ key := by omega
    have HS := Lib.hid (sign_no (.slice A1 seed.length c1) (.slice A3 msg.length c3) key w hno)
    by_cases h0 : key < 0
    · clear hno hin
      go_enter Tryd.func5, Tryd.ntmps5
      go_wp2_with fail
      refine HS.out.mono ?_
      rintro e w1 ⟨rfl, rfl⟩
      go_wp2_with fail
      refine (root_any _ seed w h1 fr HK.out).mono ?_
      rintro e w2 ⟨v5, rfl, hr5, hb2⟩
      obtain ⟨A5, c5, rfl⟩ := hr5.1.formN HRl.out
      go_wp2_with fail
      go_ret
      exact ⟨rfl, hb2⟩
    · have h8 : 7 < key := by omega
      have k0 : 0 ≤ key := by omega
      clear hno hin h0
      go_enter Tryd.func5, Tryd.ntmps5
      go_wp2_with fail
      refine HS.out.mono ?_
      rintro e w1 ⟨rfl, rfl⟩
      go_wp2_with fail
      refine (root_any _ seed w h1 fr HK.out).mono ?_
      rintro e w2 ⟨v5, rfl, hr5, hb2⟩
      obtain ⟨A5, c5, rfl⟩ := hr5.1.formN HRl.out
      go_wp2_with fail
      go_ret
      exact ⟨rfl, hb2⟩
end Go.Proofs.YtgomhojaappbnaaDoor
