
/- The law NodeOpens, walked. -/
import Derived.Test.YtbbpkenbeenocaaNodeS
import Derived.Test.YtbbpkenbeenocaaNodeI
import Derived.Test.YtbbpkenbeenocaaRNode
import Derived.Test.YtbbpkenbeenocaaDiskQ
import Derived.Test.YtbbpkenbeenocaaRDiskQ
import Derived.Test.YtbbpkenbeenocaaDiskGL
namespace Go.Proofs.Ytbbpkenbeenocaa
set_option maxRecDepth 100000
open Go Go.RowKit
set_option linter.unusedVariables false

set_option maxHeartbeats 4000000 in
theorem opens_any (w : World) (v : Value) (fs : List (ByteArray × List UInt8)) (hr : RdFs w w.heap.size v fs) (hlen : (fs.map fun f => f.2.length).sum ≤ 1048576) (hn : fs.length ≤ 1048576) (hnl : ∀ f ∈ fs, f.1.size ≤ maxLen) :
    Calls Try.prog 6 #[v] w fun e w' => e = .returned (.bool true) ∧ Below w.heap.size w w' := by
  obtain ⟨B, hB⟩ : ∃ B, B = w.heap.size := ⟨_, rfl⟩
  have hBw : B ≤ w.heap.size := by omega
  have hr0 : RdFs w B v fs := by rw [hB]; exact hr
  have HB := Lib.hid hB
  clear hB
  by_cases hgood : fs.length ≤ 16 ∧ ∃ l, loadL fs [] = some l
  · obtain ⟨h16, l, hl⟩ := hgood
    have hle := loadL_safe fs [] l hl
    rw [List.nil_append] at hle
    have htt : totM l ≤ 1048576 := by rw [hle, tot_loaded]; exact hlen
    have hfl : ∀ f ∈ (⟨l, false, 0⟩ : DM).files, f.data.length ≤ 1000000000 := fun f hf => by have := totM_mem (fs := l) hf; omega
    have HFL := Lib.hid hfl
    have HL := Lib.hid hl
    clear hle hl hfl
    go_enter Try.func6, Try.ntmps6
    go_wp2_with fail
    refine (load_some w v fs hr (by omega) hnl l HL.out h16).mono ?_
    rintro e w1 ⟨d, rfl, ⟨F1, h1, hF1⟩, hb1⟩
    rw [← HB.out] at hF1
    have hB1 : Below B w w1 := hb1.mono hBw
    have hs1 : B ≤ w1.heap.size := Nat.le_trans hBw hb1.size
    clear hb1
    go_wp2_with fail
    refine (rload_some w1 v fs ((hr0.below hB1).more hs1) (by omega) hnl l HL.out h16).mono ?_
    rintro e w2 ⟨d2, rfl, ⟨F2, h2, hF2⟩, hb2⟩
    have hF2' : ∀ k, F2 k → B ≤ k := fun k hk => by have := hF2 k hk; omega
    have hap : ∀ k, F2 k → ¬ F1 k := fun k hk h => by have := hF2 k hk; have := h1.lt k h; omega
    have hB2 := hB1.trans (hb2.mono hs1)
    have hs2 := Nat.le_trans hs1 hb2.size
    have h12 := h1.below hb2
    clear h1 hB1 hb2 hF2
    go_wp2_with fail
    refine (fixed_any _).mono ?_
    rintro e w3 ⟨rfl, hb3⟩
    have hB3 := hB2.trans (hb3.mono hs2)
    have hs3 := Nat.le_trans hs2 hb3.size
    have h13 := h12.below hb3
    have h23 := h2.below hb3
    clear hB2 hb3 h12 h2
    go_wp2_with fail
    refine (nopen_any h13 HFL.out).mono ?_
    intro e w4 hq
    unfold OpenOk at hq
    obtain ⟨hq, h14, hc4⟩ := hq
    have h24 := h23.keep hc4 hap
    have hB4 := hB3.trans (hc4.below hF1 hs3)
    have hs4 := Nat.le_trans hs3 hc4.size
    have HR := Lib.hid (rnopen_any h24 HFL.out)
    have HF2 := Lib.hid hF2'
    have hF23 := h23.lt
    have hF14 := h14.lt
    clear h13 h23 h24 hc4 hF2' hB3 h14
    generalize openN ⟨l, false, 0⟩ = r at *
    obtain ⟨x, m', rs⟩ := r
    dsimp only at hq HR
    by_cases hx : x = 0
    · subst hx
      rw [if_pos rfl] at hq
      obtain ⟨nd, rv, rfl, hnl, hn4, hor⟩ := hq
      obtain ⟨A4, c4, rfl⟩ := hor.form
      go_wp2_with fail
      refine HR.out.mono ?_
      intro e w5 hq
      unfold ROpenOk at hq
      rw [if_pos rfl] at hq
      obtain ⟨⟨xd, sv, rfl, hxl, hx5, hos⟩, h25, hc5⟩ := hq
      obtain ⟨A5, c5, rfl⟩ := hos.form
      have hB5 := hB4.trans (hc5.below HF2.out hs4)
      have hs5 := Nat.le_trans hs4 hc5.size
      have hn5 : NodeIs w5 nd d rs.length false := hn4.chg hc5 (fun hk => by have := hF23 nd hk; omega)
      have hor5 := hor.chg hc5 hF23
      have HSZ := Lib.hid (show rs.length ≤ maxLen by have := hor.cap; omega)
      clear hor hn4 hB4 h25 hc5 hx5 HR
      go_wp2_with fail
      refine (nsame_any w5 _ _ rs hor5.rdR hos.rdR).mono ?_
      rintro e w6 ⟨rfl, hb6⟩
      have hB6 := hB5.trans (hb6.mono hs5)
      have hn6 : NodeIs w6 nd d rs.length false := hn5.chg (F := fun _ => False) (Chg.of_below hb6 _) id
      clear hB5 hb6 hor5 hos hn5
      go_wp2_with fail
      refine (count_any hn6).mono ?_
      rintro e w7 ⟨rfl, rfl⟩
      clear hn6
      go_wp2_with fail
      go_ret
      exact ⟨rfl, by rw [← HB.out]; exact hB6⟩
    · rw [if_neg hx] at hq
      obtain rfl := hq
      have HX := Lib.hid hx
      have j1 : (x == 0) = false := by simp [hx]
      clear hx
      go_wp2_with fail
      refine HR.out.mono ?_
      intro e w5 hq
      unfold ROpenOk at hq
      rw [if_neg HX.out] at hq
      obtain ⟨rfl, h25, hc5⟩ := hq
      have hB5 := hB4.trans (hc5.below HF2.out hs4)
      have hs5 := Nat.le_trans hs4 hc5.size
      clear HR hB4 h25 hc5
      go_wp2_with fail
      refine (nsame_any w5 _ _ [] ⟨none, 0, rfl, by simp, by simp [maxLen], fun h => absurd h (by simp)⟩ ⟨none, 0, rfl, by simp, by simp [maxLen], fun h => absurd h (by simp)⟩).mono ?_
      rintro e w6 ⟨rfl, hb6⟩
      have hB6 := hB5.trans (hb6.mono hs5)
      clear hB5 hb6
      go_wp2_with fail
      refine (count_none w6).mono ?_
      rintro e w7 ⟨rfl, rfl⟩
      go_wp2_with fail
      go_ret
      exact ⟨rfl, by rw [← HB.out]; exact hB6⟩
  · have hbad : loadL fs [] = none ∨ 16 < fs.length := by
      by_cases h16 : fs.length ≤ 16
      · left
        cases hl : loadL fs [] with
        | none => rfl
        | some l => exact absurd ⟨h16, l, hl⟩ hgood
      · right; omega
    have HBAD := Lib.hid hbad
    clear hbad hgood
    go_enter Try.func6, Try.ntmps6
    go_wp2_with fail
    refine (load_none w v fs hr (by omega) hnl HBAD.out).mono ?_
    rintro e w1 ⟨rfl, hb1⟩
    have hB1 : Below B w w1 := hb1.mono hBw
    have hs1 : B ≤ w1.heap.size := Nat.le_trans hBw hb1.size
    clear hb1
    go_wp2_with fail
    refine (rload_none w1 v fs ((hr0.below hB1).more hs1) (by omega) hnl HBAD.out).mono ?_
    rintro e w2 ⟨⟨p, rfl⟩, hb2⟩
    have hB2 := hB1.trans (hb2.mono hs1)
    have hs2 := Nat.le_trans hs1 hb2.size
    clear hB1 hb2
    go_wp2_with fail
    refine (fixed_any _).mono ?_
    rintro e w3 ⟨rfl, hb3⟩
    have hB3 := hB2.trans (hb3.mono hs2)
    have hs3 := Nat.le_trans hs2 hb3.size
    clear hB2 hb3
    go_wp2_with fail
    refine (fixed_any _).mono ?_
    rintro e w4 ⟨rfl, hb4⟩
    have hB4 := hB3.trans (hb4.mono hs3)
    clear hB3 hb4
    go_wp2_with fail
    go_ret
    exact ⟨rfl, by rw [← HB.out]; exact hB4⟩
end Go.Proofs.Ytbbpkenbeenocaa
