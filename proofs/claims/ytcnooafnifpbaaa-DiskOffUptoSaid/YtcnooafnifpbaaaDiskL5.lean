/- The law DiskLoads, walked. -/
import Derived.Test.YtcnooafnifpbaaaRDiskQ
import Derived.Test.YtcnooafnifpbaaaRDiskF
import Derived.Test.YtcnooafnifpbaaaSameF
import Derived.Test.YtcnooafnifpbaaaDiskG
namespace Go.Proofs.Ytcnooafnifpbaaa
open Go Go.RowKit
set_option linter.unusedVariables false

theorem loadL_safe : ∀ (fs : List (ByteArray × List UInt8)) (acc l : List FM), loadL fs acc = some l → l = acc ++ fs.map fun f => ⟨f.1, f.2, f.2.length⟩ := by
  intro fs
  induction fs with
  | nil => intro acc l h; simp only [loadL, Option.some.injEq] at h; subst h; simp
  | cons f fs ih =>
    intro acc l h
    unfold loadL at h
    split at h
    · rw [ih _ _ h]; simp
    · cases h
theorem crash_loaded (fs : List (ByteArray × List UInt8)) : crashM (fs.map fun f => (⟨f.1, f.2, f.2.length⟩ : FM)) [] = fs := by
  induction fs with
  | nil => rfl
  | cons f fs ih =>
    simp only [List.map_cons, crashM, List.drop_nil, ih]
    simp [remM, remS]
theorem wait_loaded (fs : List (ByteArray × List UInt8)) : waitM (fs.map fun f => (⟨f.1, f.2, f.2.length⟩ : FM)) = 0 := by
  induction fs with
  | nil => rfl
  | cons f fs ih => unfold waitM at ih ⊢; simp at ih ⊢; exact ih
theorem tot_loaded (fs : List (ByteArray × List UInt8)) : totM (fs.map fun f => (⟨f.1, f.2, f.2.length⟩ : FM)) = (fs.map fun f => f.2.length).sum := by
  unfold totM; rw [List.map_map]; rfl

theorem RdFs.more {w : World} {B B' : Nat} {v : Value} {fs : List (ByteArray × List UInt8)} (h : RdFs w B v fs) (hB : B ≤ B') : RdFs w B' v fs := by
  obtain ⟨A, c, rfl, h1, h2, hp⟩ := h
  refine ⟨A, c, rfl, h1, h2, fun h0 => ?_⟩
  obtain ⟨b, o, rfl, hlt, hc⟩ := hp h0
  refine ⟨b, o, rfl, by omega, fun j hj => ?_⟩
  obtain ⟨k0, x, hx, hr⟩ := hc j hj
  exact ⟨k0, x, hx, hr.more hB⟩
theorem rdL_nil (w : World) (B : Nat) : RdL w B (.slice none 0 0) [] := ⟨none, 0, rfl, by simp, by simp [maxLen], fun h => absurd h (by simp)⟩

set_option maxHeartbeats 2000000 in
theorem loads_any (w : World) (v : Value) (fs : List (ByteArray × List UInt8)) (hr : RdFs w w.heap.size v fs) (hlen : (fs.map fun f => f.2.length).sum ≤ 1048576) (hn : fs.length ≤ 1048576) (hnl : ∀ f ∈ fs, f.1.size ≤ maxLen) :
    Calls Try.prog 6 #[v] w fun e w' => e = .returned (.bool true) ∧ Below w.heap.size w w' := by
  obtain ⟨B, hB⟩ : ∃ B, B = w.heap.size := ⟨_, rfl⟩
  have hBw : B ≤ w.heap.size := by omega
  have hr0 : RdFs w B v fs := by rw [hB]; exact hr
  have HB := Lib.hid hB
  clear hB
  by_cases hgood : fs.length ≤ 16 ∧ ∃ l, loadL fs [] = some l
  · obtain ⟨h16, l, hl⟩ := hgood
    have hle := loadL_safe fs [] l hl
    rw [List.nil_append] at hle
    have hcr : crashM l [] = fs := by rw [hle]; exact crash_loaded fs
    have hwt : waitM l = 0 := by rw [hle]; exact wait_loaded fs
    have htt : totM l ≤ 1048576 := by rw [hle, tot_loaded]; exact hlen
    have hll : l.length ≤ 1000 := by rw [hle, List.length_map]; omega
    have HL := Lib.hid hl
    have HCR := Lib.hid hcr
    have HWT := Lib.hid hwt
    clear hle hl hcr hwt
    go_enter Try.func6, Try.ntmps6
    go_wp2_with fail
    refine (load_some w v fs hr (by omega) hnl l HL.out h16).mono ?_
    rintro e w1 ⟨d, rfl, ⟨F1, h1, hF1⟩, hb1⟩
    rw [← HB.out] at hF1
    have hB1 : Below B w w1 := hb1.mono hBw
    have hs1 : B ≤ w1.heap.size := Nat.le_trans hBw hb1.size
    clear hb1
    go_wp2_with fail
    refine (rload_some w1 v fs ((hr0.below hB1).more hs1) (by omega) hnl l HL.out h16).mono ?_
    rintro e w2 ⟨d2, rfl, ⟨F2, h2, hF2⟩, hb2⟩
    have hB2 := hB1.trans (hb2.mono hs1)
    have hs2 := Nat.le_trans hs1 hb2.size
    have h12 := h1.below hb2
    clear h1 hB1 hb2 hF1 hF2
    go_wp2_with fail
    refine (fixed_any _).mono ?_
    rintro e w3 ⟨rfl, hb3⟩
    have hB3 := hB2.trans (hb3.mono hs2)
    have hs3 := Nat.le_trans hs2 hb3.size
    have h13 := h12.below hb3
    have h23 := h2.below hb3
    clear hB2 hb3 h12 h2
    go_wp2_with fail
    refine (crash_any h13 _ [] (rdL_nil _ _) (by show totM l ≤ _; omega) hll).mono ?_
    rintro e w4 ⟨v4, rfl, ho4, hb4⟩
    have ho4 : OutAt w4 w3.heap.size v4 (crashM l []) := ho4
    rw [HCR.out] at ho4
    have hB4 := hB3.trans (hb4.mono hs3)
    have hs4 := Nat.le_trans hs3 hb4.size
    have h14 := h13.below hb4
    have h24 := h23.below hb4
    clear hB3 hb4 h13 h23
    go_wp2_with fail
    refine (rcrash_any h24 _ [] (rdL_nil _ _) (by show totM l ≤ _; omega) (by simp) hll).mono ?_
    rintro e w5 ⟨v5, rfl, ho5, hb5⟩
    have ho5 : OutAt w5 w4.heap.size v5 (crashM l []) := ho5
    rw [HCR.out] at ho5
    have hB5 := hB4.trans (hb5.mono hs4)
    have hs5 := Nat.le_trans hs4 hb5.size
    have h15 := h14.below hb5
    have ho45 := ho4.below hb5
    clear hB4 hb5 h14 h24 ho4
    go_wp2_with fail
    refine (same_any _ _ _ fs ho45.rdFs ho5.rdFs).mono ?_
    rintro e w6 ⟨rfl, hb6⟩
    have hB6 := hB5.trans (hb6.mono hs5)
    have hs6 := Nat.le_trans hs5 hb6.size
    have h16' := h15.below hb6
    clear hB5 hb6 h15 ho45 ho5
    go_wp2_with fail
    refine (crash_any h16' _ [] (rdL_nil _ _) (by show totM l ≤ _; omega) hll).mono ?_
    rintro e w7 ⟨v7, rfl, ho7, hb7⟩
    have ho7 : OutAt w7 w6.heap.size v7 (crashM l []) := ho7
    rw [HCR.out] at ho7
    have hB7 := hB6.trans (hb7.mono hs6)
    have hs7 := Nat.le_trans hs6 hb7.size
    have h17 := h16'.below hb7
    clear hB6 hb7 h16'
    go_wp2_with fail
    refine (same_any _ _ _ fs ho7.rdFs ((hr0.below hB7).more hs7)).mono ?_
    rintro e w8 ⟨rfl, hb8⟩
    have hB8 := hB7.trans (hb8.mono hs7)
    have hs8 := Nat.le_trans hs7 hb8.size
    have h18 := h17.below hb8
    clear hB7 hb8 h17 ho7
    go_wp2_with fail
    refine (waiting_any h18 (by show totM l ≤ _; omega)).mono ?_
    rintro e w9 ⟨rfl, hb9⟩
    have h0 : waitM (⟨l, false, 0⟩ : DM).files = 0 := HWT.out
    rw [h0]
    have hB9 := hB8.trans (hb9.mono hs8)
    have h19 := h18.below hb9
    clear hB8 hb9 h18 h0
    go_wp2_with fail
    refine (down_any h19).mono ?_
    rintro e w10 ⟨rfl, rfl⟩
    have HX := Lib.hid hB9
    clear hB9 h19
    go_wp2_with fail
    go_ret
    exact ⟨rfl, by rw [← HB.out]; exact HX.out⟩
  · have hbad : loadL fs [] = none ∨ 16 < fs.length := by
      by_cases h16 : fs.length ≤ 16
      · left
        cases hl : loadL fs [] with
        | none => rfl
        | some l => exact absurd ⟨h16, l, hl⟩ hgood
      · right; omega
    have HBAD := Lib.hid hbad
    clear hbad hgood
    go_enter Try.func6, Try.ntmps6
    go_wp2_with fail
    refine (load_none w v fs hr (by omega) hnl HBAD.out).mono ?_
    rintro e w1 ⟨rfl, hb1⟩
    have hB1 : Below B w w1 := hb1.mono hBw
    have hs1 : B ≤ w1.heap.size := Nat.le_trans hBw hb1.size
    clear hb1
    go_wp2_with fail
    refine (rload_none w1 v fs ((hr0.below hB1).more hs1) (by omega) hnl HBAD.out).mono ?_
    rintro e w2 ⟨⟨p, rfl⟩, hb2⟩
    have hB2 := hB1.trans (hb2.mono hs1)
    have hs2 := Nat.le_trans hs1 hb2.size
    clear hB1 hb2
    go_wp2_with fail
    refine (fixed_any _).mono ?_
    rintro e w3 ⟨rfl, hb3⟩
    have HX := Lib.hid (hB2.trans (hb3.mono hs2))
    clear hB2 hb3
    go_wp2_with fail
    go_ret
    exact ⟨rfl, by rw [← HB.out]; exact HX.out⟩
end Go.Proofs.Ytcnooafnifpbaaa
