
/- The walks of limb.decimal, limb.Parse and the document's Parse, of any text. -/
import Derived.Test.YthiacmpkbioahaaDoorLimbV
import Derived.Test.YthiacmpkbioahaaDoorLimbPb
import Derived.Test.YthiacmpkbioahaaDoorLimbT
namespace Go.Proofs.YthiacmpkbioahaaDoor
open Go Go.RowKit
set_option linter.unusedVariables false

theorem Below.set4U {B : Nat} {w w' : World} {g : Nat} (h : Below B w w') (hg : B ≤ g) (x0 x1 x2 x3 : Value) : Below B w ((((w'.setCell ⟨g, 0, none⟩ x0).setCell ⟨g, 1, none⟩ x1).setCell ⟨g, 2, none⟩ x2).setCell ⟨g, 3, none⟩ x3) :=
  (((h.setCell hg _).setCell hg _).setCell hg _).setCell hg _
theorem str_nil {s : ByteArray} (h : s.data.toList = []) : s = ⟨#[]⟩ := ByteArray.ext (by simpa using congrArg List.toArray h)
theorem str_some {s : ByteArray} {c : UInt8} {r : List UInt8} (h : s.data.toList = c :: r) : (s.toList == ([] : List UInt8)) = false ∧ s.size = r.length + 1 ∧ ∃ h0 : 0 < s.size, s[0] = c := by
  have hl : s.data.toList.length = s.size := Lib.size_eq s
  rw [h, List.length_cons] at hl
  refine ⟨?_, hl.symm, by omega, ?_⟩
  · rw [ByteArray.toList_eq, h]; rfl
  · have : s.data.toList[0]'(by rw [h]; simp) = c := by simp only [h, List.getElem_cons_zero]
    exact this
theorem trim_any (s : ByteArray) (hs : s.size ≤ maxLen) (W : World) : Calls Tryd.prog 43 #[.string s, .string ⟨#[48, 49, 50, 51, 52, 53, 54, 55, 56, 57]⟩] W fun e w' => e = .returned (.string ⟨(Lib.trimS s.data.toList [48, 49, 50, 51, 52, 53, 54, 55, 56, 57]).toArray⟩) ∧ Below W.heap.size W w' :=
  Any.strings_Trim_laid Tryd.lays160 (by kernel_rfl) s ⟨#[48, 49, 50, 51, 52, 53, 54, 55, 56, 57]⟩ W (by unfold maxLen at hs; omega) (by decide) (ascii_of_all (by decide))
set_option maxHeartbeats 4000000 in
theorem decimal_any (s : ByteArray) (w : World) (hs : s.size ≤ maxLen) : Calls Tryd.prog 39 #[.string s] w fun e w' => e = .returned (.bool (decOk s.data.toList)) ∧ Below w.heap.size w w' := by
  have HT0 := trim_any s hs
  cases hl : s.data.toList with
  | nil =>
    rw [str_nil hl]
    clear HT0 hs hl
    go_enter Tryd.func39, Tryd.ntmps39
    go_wp2_with fail
    go_ret
    exact ⟨rfl, Below.refl _ _⟩
  | cons c r =>
    obtain ⟨hne, hsz, h0, hc⟩ := str_some hl
    rw [hl] at HT0
    have i0 : (0 : Int) < (s.size : Int) := by omega
    have HT : Hid (∀ W, Calls Tryd.prog 43 #[.string s, .string ⟨#[48, 49, 50, 51, 52, 53, 54, 55, 56, 57]⟩] W fun e w' => (∃ t : ByteArray, e = .returned (.string t) ∧ ((c :: r).all digC = true → t = ⟨#[]⟩) ∧ ((c :: r).all digC = false → (t.toList == ([] : List UInt8)) = false)) ∧ Below W.heap.size W w') := Lib.hid fun W => (HT0 W).mono fun e w' ⟨h1, h2⟩ => ⟨⟨_, h1, fun h => by rw [trim_all h], fun h => by
      rw [ByteArray.toList_eq]
      have := trim_some h
      cases hq : Lib.trimS (c :: r) [48, 49, 50, 51, 52, 53, 54, 55, 56, 57] with
      | nil => exact absurd hq this
      | cons a b => rfl⟩, h2⟩
    have HC := Lib.hid hc
    have hcz : (s[0].toNat : Int) = (c.toNat : Int) := by rw [hc]
    clear HT0 hl hc
    by_cases hz : zeroAhead (c :: r) = true
    · have hdo : decOk (c :: r) = false := by unfold decOk; rw [hz]; simp
      have hr : 1 < s.size ∧ c.toNat = 48 := by
        cases r with
        | nil => cases hz
        | cons d r => exact ⟨by rw [hsz]; simp, by simpa [zeroAhead] using hz⟩
      have i1 : (1 : Int) < (s.size : Int) := by omega
      have e48 : (s[0].toNat : Int) = 48 := by rw [hcz, hr.2]; rfl
      have HDO := Lib.hid hdo
      clear hz hr hdo HT hcz
      go_enter Tryd.func39, Tryd.ntmps39
      go_wp2_with fail
      go_ret
      exact ⟨by rw [HDO.out]; rfl, Below.refl _ _⟩
    · have hdo : decOk (c :: r) = (c :: r).all digC := by unfold decOk; rw [Bool.eq_false_iff.2 hz]; simp
      have HDO := Lib.hid hdo
      have hr : ¬ 1 < s.size ∨ 1 < s.size ∧ c.toNat ≠ 48 := by
        cases r with
        | nil => exact .inl (by rw [hsz]; simp)
        | cons d r => exact .inr ⟨by rw [hsz]; simp, by simpa [zeroAhead] using hz⟩
      clear hz hdo
      rcases hr with hr | ⟨hr1, hr2⟩
      · have i1 : ¬ (1 : Int) < (s.size : Int) := by omega
        clear hr hcz
        go_enter Tryd.func39, Tryd.ntmps39
        go_wp2_with fail
        refine (HT.out _).mono ?_
        rintro e w1 ⟨⟨t, rfl, ht1, ht2⟩, hb⟩
        clear HT
        cases ha : (c :: r).all digC with
        | true =>
          rw [ha] at HDO
          rw [ht1 ha]
          clear ht1 ht2 ha
          go_wp2_with fail
          go_ret
          exact ⟨by rw [HDO.out]; rfl, hb⟩
        | false =>
          rw [ha] at HDO
          have h2 := ht2 ha
          clear ht1 ht2 ha
          go_wp2_with fail
          go_ret
          exact ⟨by rw [HDO.out]; rfl, hb⟩
      · have i1 : (1 : Int) < (s.size : Int) := by omega
        have e48 : ((s[0].toNat : Int) == 48) = false := by simp; rw [HC.out]; intro e; exact hr2 (by omega)
        have e49 : ¬ (s[0].toNat : Int) = 48 := by rw [hcz]; omega
        clear hr1 hr2 hcz
        go_enter Tryd.func39, Tryd.ntmps39
        go_wp2_with fail
        refine (HT.out _).mono ?_
        rintro e w1 ⟨⟨t, rfl, ht1, ht2⟩, hb⟩
        clear HT
        cases ha : (c :: r).all digC with
        | true =>
          rw [ha] at HDO
          rw [ht1 ha]
          clear ht1 ht2 ha
          go_wp2_with fail
          go_ret
          exact ⟨by rw [HDO.out]; rfl, hb⟩
        | false =>
          rw [ha] at HDO
          have h2 := ht2 ha
          clear ht1 ht2 ha
          go_wp2_with fail
          go_ret
          exact ⟨by rw [HDO.out]; rfl, hb⟩
set_option maxHeartbeats 4000000 in
theorem parseB_any (s : ByteArray) (w : World) (hs : s.size ≤ maxLen) : Calls Tryd.prog 24 #[.string s] w fun e w' => e = .returned (.tuple #[(parseM s.data.toList).1.val, .int .i64 (parseM s.data.toList).2]) ∧ Below w.heap.size w w' := by
  have HD := Lib.hid (fun W => decimal_any s W hs)
  by_cases hd : decOk s.data.toList = true
  · have e : parseM s.data.toList = parsed s.data.toList := by unfold parseM; rw [if_pos hd]
    rw [e]
    rw [hd] at HD
    exact parse_any s w hs HD.out fun k hk => digC_iff.1 (decOk_all hd _ (show s[k] ∈ s.data.toList from by
      have : s.data.toList[k]'(by have := Lib.size_eq s; omega) = s[k] := rfl
      rw [← this]
      exact List.getElem_mem _))
  · have e : parseM s.data.toList = (U4.zero, 11) := by unfold parseM; rw [if_neg hd]
    rw [Bool.eq_false_iff.2 hd] at HD
    have HPO := Lib.hid e
    have hbR : LBlk (w.alloc (.cells #[.int .u64 0, .int .u64 0, .int .u64 0, .int .u64 0] 24)) w.heap.size U4.zero.cells := LBlk.new w U4.zero.cells
    have hb0 : Below w.heap.size w (w.alloc (.cells #[.int .u64 0, .int .u64 0, .int .u64 0, .int .u64 0] 24)) := (Below.refl _ _).alloc (Nat.le_refl _) _
    have HR := Lib.hid (And.intro hbR hb0)
    clear hd e hs hbR hb0
    go_enter Tryd.func24, Tryd.ntmps24
    go_wp2_with fail
    refine (HD.out _).mono ?_
    rintro e w1 ⟨rfl, hb1⟩
    have hk := HR.out.1.below hb1 HR.out.1.lt
    have hb2 := below_chain HR.out.2 HR.out.2.size hb1
    obtain ⟨d0, d1, d2, d3⟩ := LBlk.all (s := U4.zero) hk
    have f0 := (show LBlk _ _ U4.zero.cells from hk).free 0
    have f1 := (show LBlk _ _ U4.zero.cells from hk).free 1
    have f2 := (show LBlk _ _ U4.zero.cells from hk).free 2
    have f3 := (show LBlk _ _ U4.zero.cells from hk).free 3
    clear hk hb1 HR HD
    go_wp2_with fail
    refine bodyPost_ret (v := .tuple #[.agg U4.zero.cells, .int .i64 11]) ?_ rfl ⟨?_, ?_⟩
    · simp [results, Tryd.results24, go_sem, U4.cells, U4.zero, d0, d1, d2, d3]
    · rw [HPO.out]; rfl
    · have hg : w.heap.size ≤ w.heap.size := Nat.le_refl _
      first
        | exact hb2
        | exact (((hb2.setCell hg _).setCell hg _).setCell hg _).setCell hg _
theorem rof_any (n : Nat) (w : World) : Calls Tryd.prog 40 #[.int .u64 (n : Int)] w fun e w' => e = .returned (.agg #[.int .u64 (n : Int), .int .u64 0, .int .u64 0, .int .u64 0]) ∧ Below w.heap.size w w' := by
  go_enter Tryd.func40, Tryd.ntmps40
  go_wp2_with fail
  refine bodyPost_ret (v := .agg #[.int .u64 (n : Int), .int .u64 0, .int .u64 0, .int .u64 0]) ?_ rfl ⟨rfl, ?_⟩
  · simp [results, Tryd.results40, go_sem]
  · exact (Below.refl _ _).alloc (Nat.le_refl _) _
theorem rstep {A : U4} {d : Nat} (hA : A.ok) (hd : d ≤ 9) : (mulU A 10).1.ok ∧ (((mulU A 10).2 = true ∧ (addU (mulU A 10).1 ⟨d, 0, 0, 0⟩).2 = true) → A.nat * 10 + d < top ∧ (addU (mulU A 10).1 ⟨d, 0, 0, 0⟩).1 = ofN (A.nat * 10 + d)) ∧
    (((mulU A 10).2 = false ∨ (addU (mulU A 10).1 ⟨d, 0, 0, 0⟩).2 = false) → top ≤ A.nat * 10 + d) := by
  by_cases hf : A.nat * 10 < top
  · have hmu : mulU A 10 = (ofN (A.nat * 10), true) := by unfold mulU; rw [if_pos hf]
    rw [hmu]
    dsimp only
    have hn := nat_ofN hf
    refine ⟨ofN_ok _, fun h => ?_, fun h => ?_⟩
    · obtain ⟨y1, y2⟩ := add_yes h.2.symm
      rw [hn] at y1 y2
      exact ⟨y1, y2⟩
    · rcases h with h | h
      · cases h
      · have := add_nope h.symm
        rwa [hn] at this
  · have hmu : mulU A 10 = (U4.zero, false) := by unfold mulU; rw [if_neg hf]
    rw [hmu]
    dsimp only
    refine ⟨zero_ok, fun h => ?_, fun _ => by omega⟩
    obtain ⟨h, -⟩ := h
    cases h
end Go.Proofs.YthiacmpkbioahaaDoor
