
/- The walk of the document's denominations. -/
import Derived.Test.YtgiciaeaibonbaaNameJ
namespace Go.Proofs.Ytgiciaeaibonbaa
set_option maxRecDepth 100000
open Go Go.RowKit

theorem words_short (l : List UInt8) : ∀ x ∈ wordsL l, x.length ≤ l.length := by
  induction l with
  | nil => intro x hx; simp [wordsL] at hx; subst hx; simp
  | cons c l ih =>
    intro x hx
    unfold wordsL at hx
    split at hx
    · rcases List.mem_cons.1 hx with h | h
      · subst h; simp
      · have := ih x h; simp; omega
    · split at hx
      · simp at hx; subst hx; simp
      · rename_i y r e
        rcases List.mem_cons.1 hx with h | h
        · subst h; have := ih y (by rw [e]; simp); simp; omega
        · have := ih x (by rw [e]; simp [h]); simp; omega
theorem strs_at (ws : List (List UInt8)) (k : Nat) (h : k < ws.length) : (strs ws)[k]? = some (.string ⟨(ws.getD k []).toArray⟩) := by
  rw [strs, List.getElem?_map, List.getElem?_eq_getElem h, List.getD_eq_getElem?_getD, List.getElem?_eq_getElem h]
  rfl
theorem getD_short (l : List UInt8) (k : Nat) (h : k < (wordsL l).length) : ((wordsL l).getD k []).length ≤ l.length := by
  rw [List.getD_eq_getElem?_getD, List.getElem?_eq_getElem h]
  exact words_short l _ (List.getElem_mem h)
theorem words_pos (l : List UInt8) : 0 < (wordsL l).length := by
  have := wordsL_ne l
  cases h : wordsL l with
  | nil => exact absurd h this
  | cons a r => simp

theorem rident_to (s : ByteArray) (b : Bool) (w : World) (hs : s.size ≤ maxLen) (e : identL s.data.toList = b) :
    Calls Try.prog 33 #[.string s] w fun e w' => e = .returned (.bool b) ∧ w = w' := by
  have := rident_any s w hs
  rw [e] at this
  exact this

/-- what a word's text tells of 'transfer' -/
theorem is_tr (x : List UInt8) : ((⟨x.toArray⟩ : ByteArray).toList == [116, 114, 97, 110, 115, 102, 101, 114]) = decide (x = trW) := by
  rw [Lib.toList_data]
  rw [Bool.eq_iff_iff, beq_iff_eq, decide_eq_true_iff]
  exact Iff.rfl

set_option maxHeartbeats 2000000 in
theorem rdenom_any (s : ByteArray) (w : World) (hs : s.size ≤ maxLen) :
    Calls Try.prog 34 #[.string s] w fun e w' => e = .returned (.bool (denomL s.data.toList)) ∧ Below w.heap.size w w' := by
  have hsz := Lib.size_eq s
  by_cases h160 : s.size ≤ 160
  · have hd : denomL s.data.toList = chk (wordsL s.data.toList) := by
      rw [chk_base _ _ (Nat.le_refl _)]; unfold denomL; rw [decide_eq_true (by omega)]; rfl
    have hwl := wordsL_size s.data.toList
    have hsh := getD_short s.data.toList
    have hcp := chk_pairs _ (wordsL s.data.toList) (Nat.le_refl _)
    have hpos := words_pos s.data.toList
    have hwd := words_any s w h160
    rw [hd]
    generalize wordsL s.data.toList = ws at *
    have hshort : ∀ k, k < ws.length → (ws.getD k []).length ≤ 160 := fun k hk => by have := hsh k hk; omega
    have HW := Lib.hid hwd
    have HC := Lib.hid hcp
    have HS := Lib.hid hshort
    have hn : ws.length ≤ 161 := by omega
    clear hwd hcp hshort hsh hd hwl hsz hs
    go_enter Try.func34, Try.ntmps34
    go_wp2_with fail
    refine HW.out.mono ?_
    rintro e w1 ⟨v, rfl, ho, hb⟩
    obtain ⟨g, cap, rfl, hg, hglt⟩ := ho.form hpos
    have hcell : ∀ k, k < ws.length → w1.cell? ⟨g, k, none⟩ = some (.string ⟨(ws.getD k []).toArray⟩) := fun k hk => by
      rw [ho.cellAt k (by omega), strs_at ws k hk]
    have HL := Lib.hid hcell
    clear hcell
    obtain ⟨m, hm⟩ : ∃ m, ws.length = m + 1 := ⟨ws.length - 1, by omega⟩
    have e1 := HL.out m (by omega)
    have q1 := HS.out m (by omega)
    have q2 : (⟨(ws.getD m []).toArray⟩ : ByteArray).size ≤ maxLen := by rw [size_mk]; simp only [maxLen]; omega
    rw [hm] at HC HL HS ho hn ⊢
    have HM := Lib.hid hm
    clear hm hpos q1
    by_cases hev : (m + 1) % 2 = 0
    · have b1 : (((m : Int) + 1) % 2 == 0) = true := by rw [beq_iff_eq]; omega
      have hf : chk ws = false := by
        cases h : chk ws with
        | false => rfl
        | true => have := (HC.out.1 h).1; omega
      have HF := Lib.hid hf
      clear hf hev
      go_wp2_with fail
      go_ret
      exact ⟨by rw [HF.out]; rfl, hb⟩
    · have b1 : (((m : Int) + 1) % 2 == 0) = false := by rw [beq_eq_false_iff_ne]; omega
      have HE := Lib.hid hev
      clear hev
      obtain ⟨x, hx⟩ : ∃ x, x = ws.getD m [] := ⟨_, rfl⟩
      rw [← hx] at e1 q2
      have HX := Lib.hid hx
      clear hx
      cases hid : identL x with
      | false =>
        have hk := (rident_to ⟨x.toArray⟩ false · q2 hid)
        have HK := Lib.hid hk
        have hf : chk ws = false := by
          cases h : chk ws with
          | false => rfl
          | true =>
            have := (HC.out.1 h).2.1
            rw [show m + 1 - 1 = m by omega, ← HX.out, hid] at this
            cases this
        have HF := Lib.hid hf
        clear hf hid hk
        go_wp2_with fail
        refine (HK.out _).mono ?_
        rintro e w' ⟨rfl, rfl⟩
        go_wp2_with fail
        go_ret
        exact ⟨by rw [HF.out]; rfl, hb⟩
      | true =>
        have hk := (rident_to ⟨x.toArray⟩ true · q2 hid)
        have HK := Lib.hid hk
        have HI := Lib.hid hid
        clear hid hk
        go_wp2_with fail
        refine (HK.out _).mono ?_
        rintro e w' ⟨rfl, rfl⟩
        clear e1
        go_wp2_with fail
        go_loop [4] (fun i => ∃ K j : Nat, K = 2 * j ∧ i = .int .i64 K ∧ K ≤ m + 1 ∧ ∀ q, q < j → pairOk ws q = true) (fun i => m + 2 - (intOf i).toNat)
        case atStart => exact ⟨0, 0, rfl, rfl, by omega, fun q hq => by omega⟩
        case round =>
          obtain ⟨K, j, hKj, rfl, hK, hall⟩ := hrel
          have HKJ := Lib.hid hKj
          have HA := Lib.hid hall
          clear hKj hall
          have c1 : (0 : Int) ≤ (K : Int) := by omega
          have c2 : (K : Int) ≤ 161 := by omega
          by_cases hlt : K + 1 < m + 1
          · have c3 : (K : Int) + 1 < (m : Int) + 1 := by omega
            have e1 := HL.out K (by omega)
            have e2 := HL.out (K + 1) (by omega)
            have q1 := HS.out K (by omega)
            have q2 := HS.out (K + 1) (by omega)
            have p1 := is_tr (ws.getD K [])
            have hpo : pairOk ws j = (decide (ws.getD K [] = trW) && identL (ws.getD (K + 1) [])) := by unfold pairOk; rw [← HKJ.out]
            have hno : pairOk ws j = false → chk ws = false := fun h => by
              cases h2 : chk ws with
              | false => rfl
              | true =>
                have := (HC.out.1 h2).2.2 j (by have := HKJ.out; omega)
                rw [h] at this
                cases this
            generalize ws.getD K [] = a at *
            generalize ws.getD (K + 1) [] = b at *
            have q3 : (⟨b.toArray⟩ : ByteArray).size ≤ maxLen := by rw [size_mk]; simp only [maxLen]; omega
            by_cases ha : a = trW
            · have b2 : ((⟨a.toArray⟩ : ByteArray).toList == [116, 114, 97, 110, 115, 102, 101, 114]) = true := by rw [p1, decide_eq_true ha]
              have b3 : ((⟨a.toArray⟩ : ByteArray).toList != [116, 114, 97, 110, 115, 102, 101, 114]) = false := by rw [bne, b2]; rfl
              rw [decide_eq_true ha, Bool.true_and] at hpo
              clear p1
              cases hib : identL b with
              | true =>
                rw [hib] at hpo
                have HK2 := Lib.hid (rident_to ⟨b.toArray⟩ true · q3 hib)
                have HP := Lib.hid hpo
                have HN := Lib.hid hno
                have HH := Lib.hid ha
                clear hpo hno ha hib
                go_wp2_with (go_at_call 33; refine (HK2.out _).mono ?_; rintro e w' ⟨rfl, rfl⟩)
                go_round
                case rel => exact ⟨K + 2, j + 1, by have := HKJ.out; omega, by go_num, by omega, fun q hq => by
                  by_cases e : q = j
                  · rw [e]; exact HP.out
                  · exact HA.out q (by omega)⟩
                case measure => simp [intOf]; omega
              | false =>
                rw [hib] at hpo
                have HK2 := Lib.hid (rident_to ⟨b.toArray⟩ false · q3 hib)
                have HF := Lib.hid (hno hpo)
                have HH := Lib.hid ha
                clear hpo hno ha hib
                go_wp2_with (go_at_call 33; refine (HK2.out _).mono ?_; rintro e w' ⟨rfl, rfl⟩)
                go_ret
                exact ⟨by rw [HF.out]; rfl, hb⟩
            · have b2 : ((⟨a.toArray⟩ : ByteArray).toList == [116, 114, 97, 110, 115, 102, 101, 114]) = false := by rw [p1, decide_eq_false ha]
              have b3 : ((⟨a.toArray⟩ : ByteArray).toList != [116, 114, 97, 110, 115, 102, 101, 114]) = true := by rw [bne, b2]; rfl
              rw [decide_eq_false ha, Bool.false_and] at hpo
              have HF := Lib.hid (hno hpo)
              have HH := Lib.hid ha
              clear p1 hpo hno ha
              go_wp2_with fail
              go_ret
              exact ⟨by rw [HF.out]; rfl, hb⟩
          · have c3 : ¬ (K : Int) + 1 < (m : Int) + 1 := by omega
            have hf : chk ws = true := HC.out.2 ⟨by have := HE.out; omega, by rw [show m + 1 - 1 = m by omega, ← HX.out]; exact HI.out, fun q hq => HA.out q (by have := HKJ.out; omega)⟩
            have HF := Lib.hid hf
            clear hf
            go_wp2_with fail
            go_ret
            exact ⟨by rw [HF.out]; rfl, hb⟩
  · have hd : denomL s.data.toList = false := by unfold denomL; rw [decide_eq_false (by omega)]; rfl
    rw [hd]
    clear hsz hd
    have HS := Lib.hid hs
    clear hs
    go_enter Try.func34, Try.ntmps34
    go_wp2_with fail
    go_ret
    exact ⟨rfl, Below.refl _ _⟩
end Go.Proofs.Ytgiciaeaibonbaa
