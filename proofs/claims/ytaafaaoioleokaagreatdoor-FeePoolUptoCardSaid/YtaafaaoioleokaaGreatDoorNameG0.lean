
/- What stands between slashes: plain mathematics; the document's denominations are these. The walks of the document's names: small, digit, Ident. The walk of the document's words: what stands between slashes. The walk of the document's denominations. -/
import Derived.Test.YtaafaaoioleokaaGreatDoorNameI0
import Derived.Test.YtaafaaoioleokaaGreatDoorNameC0
import Derived.Test.YtaafaaoioleokaaGreatDoorBase0
namespace Go.Proofs.YtaafaaoioleokaaGreatDoor
set_option maxRecDepth 100000
open Go

/-- what stands between slashes -/
def wordsL : List UInt8 → List (List UInt8)
  | [] => [[]]
  | c :: l => if c = 47 then [] :: wordsL l else match wordsL l with
    | [] => [[c]]
    | x :: r => (c :: x) :: r
theorem wordsL_ne (l : List UInt8) : wordsL l ≠ [] := by
  cases l with
  | nil => simp [wordsL]
  | cons c l =>
    unfold wordsL
    split
    · simp
    · split <;> simp
theorem wordsL_plain : ∀ {h : List UInt8}, (47 : UInt8) ∉ h → wordsL h = [h]
  | [], _ => rfl
  | c :: h, hn => by
    have h1 : ¬ c = 47 := fun e => hn (by simp [e])
    unfold wordsL
    rw [if_neg h1, wordsL_plain (h := h) (fun e => hn (by simp [e]))]
theorem wordsL_app : ∀ {h : List UInt8} (r : List UInt8), (47 : UInt8) ∉ h → wordsL (h ++ 47 :: r) = h :: wordsL r
  | [], r, _ => by simp [wordsL]
  | c :: h, r, hn => by
    have h1 : ¬ c = 47 := fun e => hn (by simp [e])
    rw [List.cons_append, wordsL, if_neg h1, wordsL_app (h := h) r (fun e => hn (by simp [e]))]
theorem wordsL_size (l : List UInt8) : (wordsL l).length ≤ l.length + 1 := by
  induction l with
  | nil => simp [wordsL]
  | cons c l ih =>
    unfold wordsL
    split
    · simp; omega
    · split <;> simp_all <;> omega
/-- the first word and what is behind it -/
theorem words_first (l : List UInt8) : (wordsL l = [l] ∧ (47 : UInt8) ∉ l) ∨ ∃ h r, l = h ++ 47 :: r ∧ (47 : UInt8) ∉ h ∧ wordsL l = h :: wordsL r := by
  by_cases hm : (47 : UInt8) ∈ l
  · have hne : Lib.indexByte l 47 ≠ -1 := fun e => indexByte_miss.1 e hm
    obtain ⟨h1, h2, _⟩ := indexByte_hit hne
    exact .inr ⟨_, _, h1, h2, by rw [h1, wordsL_app _ h2, ← h1]⟩
  · exact .inl ⟨wordsL_plain hm, hm⟩

/-- the word that stands ahead of each hop -/
def trW : List UInt8 := [116, 114, 97, 110, 115, 102, 101, 114]
theorem trW_no : (47 : UInt8) ∉ trW := by decide
theorem trL_trW (h r : List UInt8) : trL ++ h ++ 47 :: r = trW ++ 47 :: (h ++ 47 :: r) := by simp [trL, trW]
/-- are these the words of a denomination? -/
def chk : List (List UInt8) → Bool
  | [] => false
  | [x] => identL x
  | t :: h :: r => decide (t = trW) && identL h && chk r
theorem chk_base : ∀ (n : Nat) (l : List UInt8), l.length ≤ n → chk (wordsL l) = identL (baseL l)
  | 0, l, h => by
    obtain rfl : l = [] := List.eq_nil_of_length_eq_zero (by omega)
    rfl
  | n + 1, l, h => by
    cases e : splitL l with
    | some p =>
      obtain ⟨x, r⟩ := p
      have hl := splitL_len e
      rw [(base_some e).1]
      obtain ⟨e1, e2⟩ := splitL_iff.1 e
      rw [e1, trL_trW, wordsL_app _ trW_no, wordsL_app _ (identL_no47 e2)]
      unfold chk
      rw [e2, chk_base n r (by omega)]
      simp
    | none =>
      rw [(base_none e).1]
      rcases words_first l with ⟨h1, h2⟩ | ⟨t, r, h1, h2, h3⟩
      · rw [h1]; rfl
      · have hf : identL l = false := by
          cases hi : identL l with
          | false => rfl
          | true => exact absurd (by rw [h1]; simp) (identL_no47 hi)
        rw [hf, h3]
        rcases words_first r with ⟨k1, k2⟩ | ⟨x, r2, k1, k2, k3⟩
        · rw [k1]; simp [chk]
        · rw [k3]
          unfold chk
          by_cases ht : t = trW
          · by_cases hx : identL x = true
            · exfalso
              have : splitL l = some (x, r2) := splitL_iff.2 ⟨by rw [h1, k1, ht, trL_trW], hx⟩
              rw [this] at e
              cases e
            · have hx2 : identL x = false := by simpa using hx
              rw [hx2]; simp
          · rw [decide_eq_false ht]; simp
theorem words_split {l h r : List UInt8} (e : splitL l = some (h, r)) : wordsL l = trW :: h :: wordsL r := by
  obtain ⟨e1, e2⟩ := splitL_iff.1 e
  rw [e1, trL_trW, wordsL_app _ trW_no, wordsL_app _ (identL_no47 e2)]
/-- the last word of a denomination is its base, and how many words there are -/
theorem words_denom : ∀ (n : Nat) (l : List UInt8), l.length ≤ n → identL (baseL l) = true → (wordsL l).length = 2 * hopsL l + 1 ∧ (wordsL l).getD (2 * hopsL l) [] = baseL l
  | 0, l, h, hi => by
    obtain rfl : l = [] := List.eq_nil_of_length_eq_zero (by omega)
    cases hi
  | n + 1, l, h, hi => by
    cases e : splitL l with
    | some p =>
      obtain ⟨x, r⟩ := p
      have hl := splitL_len e
      obtain ⟨b1, b2⟩ := base_some e
      rw [b1] at hi
      obtain ⟨k1, k2⟩ := words_denom n r (by omega) hi
      rw [words_split e, b1, b2]
      refine ⟨by simp [k1]; omega, ?_⟩
      rw [show 2 * (hopsL r + 1) = 2 * hopsL r + 1 + 1 by omega, List.getD_cons_succ, List.getD_cons_succ, k2]
    | none =>
      obtain ⟨b1, b2⟩ := base_none e
      rw [b1] at hi
      rw [wordsL_plain (identL_no47 hi), b1, b2]
      exact ⟨rfl, rfl⟩

/-- pair by pair -/
def pairOk (ws : List (List UInt8)) (j : Nat) : Bool := decide (ws.getD (2 * j) [] = trW) && identL (ws.getD (2 * j + 1) [])
theorem chk_pairs : ∀ (n : Nat) (ws : List (List UInt8)), ws.length ≤ n → (chk ws = true ↔ ws.length % 2 = 1 ∧ identL (ws.getD (ws.length - 1) []) = true ∧ ∀ j, 2 * j + 1 < ws.length → pairOk ws j = true)
  | 0, ws, h => by
    obtain rfl : ws = [] := List.eq_nil_of_length_eq_zero (by omega)
    simp [chk]
  | n + 1, ws, h => by
    match ws with
    | [] => simp [chk]
    | [x] => simp only [chk, List.length_cons, List.length_nil]; exact ⟨fun h => ⟨by simp, h, fun j hj => by omega⟩, fun h => h.2.1⟩
    | t :: x :: r =>
      have ih := chk_pairs n r (by simp at h; omega)
      simp only [chk, Bool.and_eq_true, decide_eq_true_eq, List.length_cons]
      rw [ih]
      constructor
      · rintro ⟨⟨ht, hx⟩, h1, h2, h3⟩
        refine ⟨by omega, ?_, fun j hj => ?_⟩
        · rw [show r.length + 1 + 1 - 1 = r.length - 1 + 1 + 1 by omega, List.getD_cons_succ, List.getD_cons_succ]; exact h2
        · cases j with
          | zero => simp [pairOk, ht, hx]
          | succ j =>
            have := h3 j (by omega)
            unfold pairOk at this ⊢
            rw [show 2 * (j + 1) = 2 * j + 1 + 1 by omega, List.getD_cons_succ, List.getD_cons_succ, List.getD_cons_succ, List.getD_cons_succ]
            exact this
      · rintro ⟨h1, h2, h3⟩
        have h0 := h3 0 (by omega)
        simp only [pairOk, Bool.and_eq_true, decide_eq_true_eq] at h0
        refine ⟨⟨h0.1, h0.2⟩, by omega, ?_, fun j hj => ?_⟩
        · rw [show r.length + 1 + 1 - 1 = r.length - 1 + 1 + 1 by omega, List.getD_cons_succ, List.getD_cons_succ] at h2; exact h2
        · have := h3 (j + 1) (by omega)
          unfold pairOk at this ⊢
          rw [show 2 * (j + 1) = 2 * j + 1 + 1 by omega, List.getD_cons_succ, List.getD_cons_succ, List.getD_cons_succ, List.getD_cons_succ] at this
          exact this

theorem drop_cut (l : List UInt8) {f i : Nat} (h : f ≤ i) (hi : i < l.length) : l.drop f = (l.drop f).take (i - f) ++ l.getD i 0 :: l.drop (i + 1) := by
  have e : l.getD i 0 = l[i] := by rw [List.getD_eq_getElem?_getD, List.getElem?_eq_getElem hi]; rfl
  have h1 : (l.drop f).drop (i - f) = l.drop i := by rw [List.drop_drop]; congr 1; omega
  have h2 : l.drop i = l[i] :: l.drop (i + 1) := List.drop_eq_getElem_cons hi
  rw [e, ← h2, ← h1, List.take_append_drop]
/-- a slash: one word more -/
theorem words_slash (l : List UInt8) {f i : Nat} (h : f ≤ i) (hi : i < l.length) (hn : (47 : UInt8) ∉ (l.drop f).take (i - f)) (hc : l.getD i 0 = 47) :
    wordsL (l.drop f) = (l.drop f).take (i - f) :: wordsL (l.drop (i + 1)) := by
  have := drop_cut l h hi
  rw [hc] at this
  rw [this, wordsL_app _ hn, ← this]
theorem words_on (l : List UInt8) {f i : Nat} (h : f ≤ i) (hi : i < l.length) (hn : (47 : UInt8) ∉ (l.drop f).take (i - f)) (hc : l.getD i 0 ≠ 47) :
    (47 : UInt8) ∉ (l.drop f).take (i + 1 - f) := by
  have e : l.getD i 0 = l[i] := by rw [List.getD_eq_getElem?_getD, List.getElem?_eq_getElem hi]; rfl
  rw [show i + 1 - f = i - f + 1 by omega, List.take_succ_eq_append_getElem (by rw [List.length_drop]; omega)]
  simp only [List.mem_append, List.mem_singleton, not_or]
  refine ⟨hn, ?_⟩
  rw [List.getElem_drop]
  intro he
  apply hc
  rw [e, he]
  congr 1
  omega
theorem words_end (l : List UInt8) {f : Nat} (hn : (47 : UInt8) ∉ (l.drop f).take (l.length - f)) : wordsL (l.drop f) = [(l.drop f).take (l.length - f)] := by
  rw [List.take_of_length_le (by rw [List.length_drop]; omega)] at hn ⊢
  exact wordsL_plain hn
end Go.Proofs.YtaafaaoioleokaaGreatDoor
namespace Go.Proofs.YtaafaaoioleokaaGreatDoor
set_option maxRecDepth 100000
open Go Go.RowKit

theorem rsmall_any (c : UInt8) (w : World) : Calls Tryz.prog 156 #[.int .u8 (c.toNat : Int)] w fun e w' => e = .returned (.bool (smB c)) ∧ w = w' := by
  have hc := c.toNat_lt
  unfold smB
  by_cases h1 : 97 ≤ c.toNat
  · by_cases h2 : c.toNat ≤ 122
    · rw [decide_eq_true ⟨h1, h2⟩]
      have i1 : (97 : Int) ≤ (c.toNat : Int) := by omega
      have i2 : (c.toNat : Int) ≤ 122 := by omega
      go_enter Tryz.func156, Tryz.ntmps156
      go_wp2
      go_ret
      exact ⟨rfl, rfl⟩
    · rw [decide_eq_false (fun h => h2 h.2)]
      have i1 : (97 : Int) ≤ (c.toNat : Int) := by omega
      have i2 : ¬ (c.toNat : Int) ≤ 122 := by omega
      go_enter Tryz.func156, Tryz.ntmps156
      go_wp2
      go_ret
      exact ⟨rfl, rfl⟩
  · rw [decide_eq_false (fun h => h1 h.1)]
    have i1 : ¬ (97 : Int) ≤ (c.toNat : Int) := by omega
    go_enter Tryz.func156, Tryz.ntmps156
    go_wp2
    go_ret
    exact ⟨rfl, rfl⟩
theorem rdigit_any (c : UInt8) (w : World) : Calls Tryz.prog 157 #[.int .u8 (c.toNat : Int)] w fun e w' => e = .returned (.bool (dgB c)) ∧ w = w' := by
  have hc := c.toNat_lt
  unfold dgB
  by_cases h1 : 48 ≤ c.toNat
  · by_cases h2 : c.toNat ≤ 57
    · rw [decide_eq_true ⟨h1, h2⟩]
      have i1 : (48 : Int) ≤ (c.toNat : Int) := by omega
      have i2 : (c.toNat : Int) ≤ 57 := by omega
      go_enter Tryz.func157, Tryz.ntmps157
      go_wp2
      go_ret
      exact ⟨rfl, rfl⟩
    · rw [decide_eq_false (fun h => h2 h.2)]
      have i1 : (48 : Int) ≤ (c.toNat : Int) := by omega
      have i2 : ¬ (c.toNat : Int) ≤ 57 := by omega
      go_enter Tryz.func157, Tryz.ntmps157
      go_wp2
      go_ret
      exact ⟨rfl, rfl⟩
  · rw [decide_eq_false (fun h => h1 h.1)]
    have i1 : ¬ (48 : Int) ≤ (c.toNat : Int) := by omega
    go_enter Tryz.func157, Tryz.ntmps157
    go_wp2
    go_ret
    exact ⟨rfl, rfl⟩
def allB (l : List UInt8) : Bool := l.all okB
theorem identL_of0 (l : List UInt8) (h0 : 0 < l.length) (h32 : l.length ≤ 32) (hs : smB (l.getD 0 0) = true) : identL l = allB l := by
  unfold allB
  rw [identL_of l h0 h32 hs]
  cases l with
  | nil => simp at h0
  | cons c r =>
    simp only [List.getD_cons_zero] at hs
    simp [okB_of_sm hs]
theorem all_more0 (l : List UInt8) (k : Nat) (h : k < l.length) : allB (l.take (k + 1)) = (allB (l.take k) && okB (l.getD k 0)) := by
  unfold allB
  have e : l.getD k 0 = l[k] := by rw [List.getD_eq_getElem?_getD, List.getElem?_eq_getElem h]; rfl
  rw [List.take_succ_eq_append_getElem h, List.all_append, e]
  simp
theorem all_stop0 (l : List UInt8) (k : Nat) (h : k < l.length) (hn : okB (l.getD k 0) = false) : allB l = false := by
  unfold allB
  have e : l.getD k 0 = l[k] := by rw [List.getD_eq_getElem?_getD, List.getElem?_eq_getElem h]; rfl
  rw [List.all_eq_false]
  exact ⟨l[k], List.getElem_mem _, by rw [← e, hn]; simp⟩

set_option maxHeartbeats 1000000 in
theorem rident_any (s : ByteArray) (w : World) (hs : s.size ≤ maxLen) : Calls Tryz.prog 102 #[.string s] w fun e w' => e = .returned (.bool (identL s.data.toList)) ∧ w = w' := by
  unfold maxLen at hs
  have hsz := Lib.size_eq s
  by_cases h0 : s.size = 0
  · have hl : s.data.toList = [] := List.eq_nil_of_length_eq_zero (by omega)
    have hl2 : s.toList = [] := by rw [Lib.toList_data]; exact hl
    rw [identL_no s.data.toList (.inl (by omega))]
    have i0 : (s.size : Int) < 1 := by omega
    have H0 := Lib.hid h0
    clear h0 hsz
    go_enter Tryz.func102, Tryz.ntmps102
    go_wp2_with fail
    go_ret
    exact ⟨rfl, rfl⟩
  · have hne : ¬ s.toList = [] := by
      intro e
      rw [Lib.toList_data] at e
      rw [e] at hsz
      exact h0 hsz
    have hne2 : (!s.toList.isEmpty) = true := by
      cases h : s.toList with
      | nil => exact absurd h hne
      | cons a r => rfl
    have hne3 : (s.toList == []) = false := by simpa using hne
    by_cases h32 : s.size ≤ 32
    · have hpos : 0 < s.size := Nat.pos_of_ne_zero h0
      have g0 := data_get s 0 hpos
      cases hsm : smB s[0] with
      | false =>
        rw [identL_no s.data.toList (.inr (.inr (by rw [g0]; exact hsm)))]
        have H1 := Lib.hid g0
        have H2 := Lib.hid hsz
        clear g0 hsz
        go_enter Tryz.func102, Tryz.ntmps102
        go_wp2_with (go_at_call 156; refine (rsmall_any _ _).mono ?_; rintro e w' ⟨rfl, rfl⟩)
        go_ret
        exact ⟨rfl, rfl⟩
      | true =>
        rw [identL_of0 s.data.toList (by omega) (by omega) (by rw [g0]; exact hsm)]
        have H1 := Lib.hid g0
        have H2 := Lib.hid hsz
        clear g0 hsz
        go_enter Tryz.func102, Tryz.ntmps102
        go_wp2_with (go_at_call 156; refine (rsmall_any _ _).mono ?_; rintro e w' ⟨rfl, rfl⟩)
        clear hne hne2 hne3 hsm
        go_loop [3] (fun i => ∃ k : Nat, k ≤ s.size ∧ i = .int .i64 k ∧ allB (s.data.toList.take k) = true) (fun i => s.size - (intOf i).toNat)
        case atStart => exact ⟨0, by omega, rfl, rfl⟩
        case round =>
          obtain ⟨k, hk, rfl, hall⟩ := hrel
          have HA := Lib.hid hall
          clear hall
          by_cases hlt : k < s.size
          · have HG := Lib.hid (data_get s k hlt)
            have HM := Lib.hid (all_more0 s.data.toList k (by have := H2.out; omega))
            cases e1 : smB s[k] with
            | true =>
              go_wp2_with (first | (go_at_call 156; refine (rsmall_any _ _).mono ?_; rintro e w' ⟨rfl, rfl⟩) | (go_at_call 157; refine (rdigit_any _ _).mono ?_; rintro e w' ⟨rfl, rfl⟩))
              go_round
              case rel => exact ⟨k + 1, by omega, by go_num, by rw [HM.out, HA.out, HG.out]; unfold okB; rw [e1]; rfl⟩
              case measure => simp [intOf]; omega
            | false =>
              cases e2 : dgB s[k] with
              | true =>
                go_wp2_with (first | (go_at_call 156; refine (rsmall_any _ _).mono ?_; rintro e w' ⟨rfl, rfl⟩) | (go_at_call 157; refine (rdigit_any _ _).mono ?_; rintro e w' ⟨rfl, rfl⟩))
                go_round
                case rel => exact ⟨k + 1, by omega, by go_num, by rw [HM.out, HA.out, HG.out]; unfold okB; rw [e2]; cases smB s[k] <;> rfl⟩
                case measure => simp [intOf]; omega
              | false =>
                by_cases c45 : s[k].toNat = 45
                · have b1 : ((s[k].toNat : Int) == 45) = true := by rw [c45]; rfl
                  have b2 : ((s[k].toNat : Int) != 45) = false := by rw [c45]; rfl
                  have HC := Lib.hid c45
                  clear c45
                  go_wp2_with (first | (go_at_call 156; refine (rsmall_any _ _).mono ?_; rintro e w' ⟨rfl, rfl⟩) | (go_at_call 157; refine (rdigit_any _ _).mono ?_; rintro e w' ⟨rfl, rfl⟩))
                  go_round
                  case rel => exact ⟨k + 1, by omega, by go_num, by rw [HM.out, HA.out, HG.out]; unfold okB; rw [HC.out]; cases smB s[k] <;> cases dgB s[k] <;> rfl⟩
                  case measure => simp [intOf]; omega
                · have b1 : ((s[k].toNat : Int) == 45) = false := by rw [beq_eq_false_iff_ne]; omega
                  have b2 : ((s[k].toNat : Int) != 45) = true := by rw [bne_iff_ne]; omega
                  by_cases c46 : s[k].toNat = 46
                  · have b3 : ((s[k].toNat : Int) == 46) = true := by rw [c46]; rfl
                    have b4 : ((s[k].toNat : Int) != 46) = false := by rw [c46]; rfl
                    have HC := Lib.hid c46
                    clear c46
                    go_wp2_with (first | (go_at_call 156; refine (rsmall_any _ _).mono ?_; rintro e w' ⟨rfl, rfl⟩) | (go_at_call 157; refine (rdigit_any _ _).mono ?_; rintro e w' ⟨rfl, rfl⟩))
                    go_round
                    case rel => exact ⟨k + 1, by omega, by go_num, by rw [HM.out, HA.out, HG.out]; unfold okB; rw [HC.out]; cases smB s[k] <;> cases dgB s[k] <;> rfl⟩
                    case measure => simp [intOf]; omega
                  · have b3 : ((s[k].toNat : Int) == 46) = false := by rw [beq_eq_false_iff_ne]; omega
                    have b4 : ((s[k].toNat : Int) != 46) = true := by rw [bne_iff_ne]; omega
                    have HS := Lib.hid (all_stop0 s.data.toList k (by have := H2.out; omega) (by rw [HG.out]; unfold okB; rw [e1, e2, decide_eq_false c45, decide_eq_false c46]; rfl))
                    clear c45 c46
                    go_wp2_with (first | (go_at_call 156; refine (rsmall_any _ _).mono ?_; rintro e w' ⟨rfl, rfl⟩) | (go_at_call 157; refine (rdigit_any _ _).mono ?_; rintro e w' ⟨rfl, rfl⟩))
                    go_ret
                    refine ⟨?_, rfl⟩
                    rw [HS.out]
                    rfl
          · have hk2 : k = s.size := by omega
            have HK := Lib.hid hk2
            clear hk2
            go_wp2
            go_ret
            refine ⟨?_, rfl⟩
            have := HA.out
            rw [List.take_of_length_le (by have := H2.out; have := HK.out; omega)] at this
            rw [this]
            rfl
    · rw [identL_no s.data.toList (.inr (.inl (by omega)))]
      have H2 := Lib.hid hsz
      clear hsz
      go_enter Tryz.func102, Tryz.ntmps102
      go_wp2_with fail
      go_ret
      exact ⟨rfl, rfl⟩
end Go.Proofs.YtaafaaoioleokaaGreatDoor
namespace Go.Proofs.YtaafaaoioleokaaGreatDoor
set_option maxRecDepth 100000
open Go Go.RowKit

def strs (ws : List (List UInt8)) : List Value := ws.map fun x => .string ⟨x.toArray⟩
theorem strs_length (ws : List (List UInt8)) : (strs ws).length = ws.length := by simp [strs]
theorem strs_append (a b : List (List UInt8)) : strs (a ++ b) = strs a ++ strs b := by simp [strs]
theorem Tryz.infoStr : (Tryz.prog.info? 9).map (fun i => (i.zero, i.size, i.bytes)) = some (some (.string ByteArray.empty), 1, 16) := by kernel_rfl

/-- where the words stand at a round's head -/
def WR (l : List UInt8) (K F : Nat) (ws : List (List UInt8)) : Prop :=
  (K ≤ l.length ∧ F ≤ K ∧ (47 : UInt8) ∉ (l.drop F).take (K - F) ∧ wordsL l = ws ++ wordsL (l.drop F) ∧ ws.length ≤ K) ∨ (K = l.length + 1 ∧ wordsL l = ws ∧ ws.length ≤ K)
theorem WR.start (l : List UInt8) : WR l 0 0 [] := .inl ⟨by omega, by omega, by simp, by simp, by simp⟩
theorem WR.slash {l : List UInt8} {K F : Nat} {ws : List (List UInt8)} (h : WR l K F ws) (hk : K < l.length) (hc : l.getD K 0 = 47) : WR l (K + 1) (K + 1) (ws ++ [(l.drop F).take (K - F)]) := by
  rcases h with ⟨h1, h2, h3, h4, h5⟩ | ⟨h1, _⟩
  · refine .inl ⟨by omega, by omega, by simp, ?_, by simp; omega⟩
    rw [h4, words_slash l h2 hk h3 hc, List.append_assoc]
    rfl
  · omega
theorem WR.on {l : List UInt8} {K F : Nat} {ws : List (List UInt8)} (h : WR l K F ws) (hk : K < l.length) (hc : l.getD K 0 ≠ 47) : WR l (K + 1) F ws := by
  rcases h with ⟨h1, h2, h3, h4, h5⟩ | ⟨h1, _⟩
  · exact .inl ⟨by omega, by omega, words_on l h2 hk h3 hc, h4, by omega⟩
  · omega
theorem WR.last {l : List UInt8} {F : Nat} {ws : List (List UInt8)} (h : WR l l.length F ws) : WR l (l.length + 1) (l.length + 1) (ws ++ [(l.drop F).take (l.length - F)]) := by
  rcases h with ⟨h1, h2, h3, h4, h5⟩ | ⟨h1, _⟩
  · exact .inr ⟨rfl, by rw [h4, words_end l h3], by simp; omega⟩
  · omega
theorem WR.done {l : List UInt8} {K F : Nat} {ws : List (List UInt8)} (h : WR l K F ws) (hk : ¬ K ≤ l.length) : wordsL l = ws := by
  rcases h with ⟨h1, _⟩ | ⟨_, h, _⟩
  · omega
  · exact h
theorem WR.le {l : List UInt8} {K F : Nat} {ws : List (List UInt8)} (h : WR l K F ws) (hk : K ≤ l.length) : F ≤ K := by
  rcases h with ⟨_, h, _⟩ | ⟨h, _⟩ <;> omega
theorem WR.len {l : List UInt8} {K F : Nat} {ws : List (List UInt8)} (h : WR l K F ws) : ws.length ≤ l.length + 1 ∧ K ≤ l.length + 1 := by
  rcases h with ⟨_, _, _, _, h⟩ | ⟨_, _, h⟩ <;> omega

theorem below_chain' {B : Nat} {a b c : World} (h : Below B a b) (hB : B ≤ b.heap.size) (k : Below b.heap.size b c) : Below B a c := h.trans (k.mono hB)
theorem one_cell (w : World) (t : TypeId) (x : Value) : ∀ j u, [x][j]? = some u → (w.alloc (.cells #[x] t)).cell? ((⟨w.heap.size, 0, none⟩ : Addr).add j) = some u := by
  intro j u hj
  cases j with
  | zero =>
    obtain rfl : x = u := by simpa using hj
    show (w.alloc (.cells #[x] t)).cell? ⟨w.heap.size, 0, none⟩ = some x
    rw [cell_of_row _ _ 0 #[x] t (0, 0) (heap_alloc_new w _)]
    rfl
  | succ j => simp at hj

set_option maxHeartbeats 2000000 in
theorem words_any (s : ByteArray) (w : World) (hs : s.size ≤ 160) :
    Calls Tryz.prog 209 #[.string s] w fun e w' => ∃ v, e = .returned v ∧ w'.ownsRow w.heap.size 9 1 v (wordsL s.data.toList).length (strs (wordsL s.data.toList)) ∧ Below w.heap.size w w' := by
  have hsz := Lib.size_eq s
  have HZ := Lib.hid hsz
  clear hsz
  obtain ⟨i0, hi, hz, hz1, hz2⟩ := info_parts Tryz.infoStr
  go_enter Tryz.func209, Tryz.ntmps209
  go_wp2
  go_loopw [3, 4, 5] (fun v f i wr => ∃ (K F : Nat) (ws : List (List UInt8)), f = .int .i64 F ∧ i = .int .i64 K ∧ wr.ownsRow w.heap.size 9 1 v ws.length (strs ws) ∧ Below w.heap.size w wr ∧ WR s.data.toList K F ws) (fun _ _ i _ => s.size + 1 - (intOf i).toNat)
  case atStart => exact ⟨0, 0, [], rfl, rfl, World.ownsRow_nil w _ _ 1, Below.refl _ _, WR.start _⟩
  case round =>
    obtain ⟨K, F, ws, rfl, rfl, ho, hb, hwr⟩ := hrel
    have hws := hwr.len
    have HW := Lib.hid hwr
    have hwl : ws.length ≤ 161 := by have := HZ.out; omega
    have hKl : K ≤ s.size + 1 := by have := HZ.out; omega
    clear hws hwr
    by_cases hle : K ≤ s.size
    · have hFK : F ≤ K := HW.out.le (by have := HZ.out; omega)
      have c1 : (0 : Int) ≤ (F : Int) := by omega
      have c2 : (F : Int) ≤ (K : Int) := by omega
      have c3 : (K : Int) ≤ (s.size : Int) := by omega
      have c4 : (K : Int) ≤ 160 := by omega
      by_cases heq : K = s.size
      · have b1 : ((K : Int) == (s.size : Int)) = true := by rw [heq]; simp
        have HE := Lib.hid heq
        clear heq
        go_wp2_with (at_builtin; refine wpList_append_own _ rfl (.tmp 22) (.tmp 27) _ rfl w.heap.size 9 i0 _ 1 16 Tryz.underlying211 hi hz hz1 hz2 rfl (by decide) _ _ _ rfl (ho.alloc _) ⟨wr.heap.size, 0, none⟩ 1 1 [.string (s.extract F K)] rfl rfl (one_cell _ _ _) (by simp [Value.oneCell']) (by simp only [maxLen]; omega) (by omega) (by have := hb.size; simp; omega) ?_; intro v' w1 ho1 hg1 _)
        have hb1 : Below w.heap.size w w1 := (hb.alloc hb.size _).grown hg1 (by have := hb.size; simp; omega) (fun k hk => by have := ho.lt k hk; omega)
        have HX := Lib.hid (Lib.extract_eq s F K)
        clear hg1 hb ho
        go_roundw
        case rel =>
          refine ⟨K + 1, K + 1, ws ++ [(s.data.toList.drop F).take (K - F)], by go_num, by go_num, ?_, hb1, ?_⟩
          · rw [HX.out] at ho1
            rw [strs_append, List.length_append]
            exact ho1
          · have hw := HW.out
            rw [show K = s.data.toList.length by have := HZ.out; have := HE.out; omega] at hw ⊢
            exact hw.last
        case measure => simp [intOf]; omega
      · have b1 : ((K : Int) == (s.size : Int)) = false := by rw [beq_eq_false_iff_ne]; omega
        have hlt : K < s.size := by omega
        have c5 : (K : Int) < (s.size : Int) := by omega
        have HG := Lib.hid (data_get s K hlt)
        by_cases h47 : s[K].toNat = 47
        · have b2 : ((s[K].toNat : Int) == 47) = true := by rw [h47]; rfl
          have HC := Lib.hid h47
          clear h47
          go_wp2_with (at_builtin; refine wpList_append_own _ rfl (.tmp 22) (.tmp 27) _ rfl w.heap.size 9 i0 _ 1 16 Tryz.underlying211 hi hz hz1 hz2 rfl (by decide) _ _ _ rfl (ho.alloc _) ⟨wr.heap.size, 0, none⟩ 1 1 [.string (s.extract F K)] rfl rfl (one_cell _ _ _) (by simp [Value.oneCell']) (by simp only [maxLen]; omega) (by omega) (by have := hb.size; simp; omega) ?_; intro v' w1 ho1 hg1 _)
          have hb1 : Below w.heap.size w w1 := (hb.alloc hb.size _).grown hg1 (by have := hb.size; simp; omega) (fun k hk => by have := ho.lt k hk; omega)
          have HX := Lib.hid (Lib.extract_eq s F K)
          clear hg1 hb ho
          go_roundw
          case rel =>
            refine ⟨K + 1, K + 1, ws ++ [(s.data.toList.drop F).take (K - F)], by go_num, by go_num, ?_, hb1, ?_⟩
            · rw [HX.out] at ho1
              rw [strs_append, List.length_append]
              exact ho1
            · exact HW.out.slash (by have := HZ.out; omega) (by rw [HG.out]; exact UInt8.toNat_inj.1 (by rw [HC.out]; rfl))
          case measure => simp [intOf]; omega
        · have b2 : ((s[K].toNat : Int) == 47) = false := by rw [beq_eq_false_iff_ne]; omega
          have HC := Lib.hid h47
          clear h47
          go_wp2
          go_roundw
          case rel => exact ⟨K + 1, F, ws, rfl, by go_num, ho, hb, HW.out.on (by have := HZ.out; omega) (by rw [HG.out]; intro e; exact HC.out (by rw [e]; rfl))⟩
          case measure => simp [intOf]; omega
    · have hd := HW.out.done (by have := HZ.out; omega)
      have HD := Lib.hid hd
      have b1 : ¬ (K : Int) ≤ (s.size : Int) := by omega
      clear hd
      go_wp2
      go_ret
      refine ⟨_, rfl, ?_, hb⟩
      rw [HD.out]
      exact ho
end Go.Proofs.YtaafaaoioleokaaGreatDoor
namespace Go.Proofs.YtaafaaoioleokaaGreatDoor
set_option maxRecDepth 100000
open Go Go.RowKit

theorem words_short (l : List UInt8) : ∀ x ∈ wordsL l, x.length ≤ l.length := by
  induction l with
  | nil => intro x hx; simp [wordsL] at hx; subst hx; simp
  | cons c l ih =>
    intro x hx
    unfold wordsL at hx
    split at hx
    · rcases List.mem_cons.1 hx with h | h
      · subst h; simp
      · have := ih x h; simp; omega
    · split at hx
      · simp at hx; subst hx; simp
      · rename_i y r e
        rcases List.mem_cons.1 hx with h | h
        · subst h; have := ih y (by rw [e]; simp); simp; omega
        · have := ih x (by rw [e]; simp [h]); simp; omega
theorem strs_at (ws : List (List UInt8)) (k : Nat) (h : k < ws.length) : (strs ws)[k]? = some (.string ⟨(ws.getD k []).toArray⟩) := by
  rw [strs, List.getElem?_map, List.getElem?_eq_getElem h, List.getD_eq_getElem?_getD, List.getElem?_eq_getElem h]
  rfl
theorem getD_short (l : List UInt8) (k : Nat) (h : k < (wordsL l).length) : ((wordsL l).getD k []).length ≤ l.length := by
  rw [List.getD_eq_getElem?_getD, List.getElem?_eq_getElem h]
  exact words_short l _ (List.getElem_mem h)
theorem words_pos (l : List UInt8) : 0 < (wordsL l).length := by
  have := wordsL_ne l
  cases h : wordsL l with
  | nil => exact absurd h this
  | cons a r => simp

theorem rident_to (s : ByteArray) (b : Bool) (w : World) (hs : s.size ≤ maxLen) (e : identL s.data.toList = b) :
    Calls Tryz.prog 102 #[.string s] w fun e w' => e = .returned (.bool b) ∧ w = w' := by
  have := rident_any s w hs
  rw [e] at this
  exact this

/-- what a word's text tells of 'transfer' -/
theorem is_tr (x : List UInt8) : ((⟨x.toArray⟩ : ByteArray).toList == [116, 114, 97, 110, 115, 102, 101, 114]) = decide (x = trW) := by
  rw [Lib.toList_data]
  rw [Bool.eq_iff_iff, beq_iff_eq, decide_eq_true_iff]
  exact Iff.rfl

set_option maxHeartbeats 2000000 in
theorem rdenom_any (s : ByteArray) (w : World) (hs : s.size ≤ maxLen) :
    Calls Tryz.prog 173 #[.string s] w fun e w' => e = .returned (.bool (denomL s.data.toList)) ∧ Below w.heap.size w w' := by
  have hsz := Lib.size_eq s
  by_cases h160 : s.size ≤ 160
  · have hd : denomL s.data.toList = chk (wordsL s.data.toList) := by
      rw [chk_base _ _ (Nat.le_refl _)]; unfold denomL; rw [decide_eq_true (by omega)]; rfl
    have hwl := wordsL_size s.data.toList
    have hsh := getD_short s.data.toList
    have hcp := chk_pairs _ (wordsL s.data.toList) (Nat.le_refl _)
    have hpos := words_pos s.data.toList
    have hwd := words_any s w h160
    rw [hd]
    generalize wordsL s.data.toList = ws at *
    have hshort : ∀ k, k < ws.length → (ws.getD k []).length ≤ 160 := fun k hk => by have := hsh k hk; omega
    have HW := Lib.hid hwd
    have HC := Lib.hid hcp
    have HS := Lib.hid hshort
    have hn : ws.length ≤ 161 := by omega
    clear hwd hcp hshort hsh hd hwl hsz hs
    go_enter Tryz.func173, Tryz.ntmps173
    go_wp2_with fail
    refine HW.out.mono ?_
    rintro e w1 ⟨v, rfl, ho, hb⟩
    obtain ⟨g, cap, rfl, hg, hglt⟩ := ho.form hpos
    have hcell : ∀ k, k < ws.length → w1.cell? ⟨g, k, none⟩ = some (.string ⟨(ws.getD k []).toArray⟩) := fun k hk => by
      rw [ho.cellAt k (by omega), strs_at ws k hk]
    have HL := Lib.hid hcell
    clear hcell
    obtain ⟨m, hm⟩ : ∃ m, ws.length = m + 1 := ⟨ws.length - 1, by omega⟩
    have e1 := HL.out m (by omega)
    have q1 := HS.out m (by omega)
    have q2 : (⟨(ws.getD m []).toArray⟩ : ByteArray).size ≤ maxLen := by rw [size_mk]; simp only [maxLen]; omega
    rw [hm] at HC HL HS ho hn ⊢
    have HM := Lib.hid hm
    clear hm hpos q1
    by_cases hev : (m + 1) % 2 = 0
    · have b1 : (((m : Int) + 1) % 2 == 0) = true := by rw [beq_iff_eq]; omega
      have hf : chk ws = false := by
        cases h : chk ws with
        | false => rfl
        | true => have := (HC.out.1 h).1; omega
      have HF := Lib.hid hf
      clear hf hev
      go_wp2_with fail
      go_ret
      exact ⟨by rw [HF.out]; rfl, hb⟩
    · have b1 : (((m : Int) + 1) % 2 == 0) = false := by rw [beq_eq_false_iff_ne]; omega
      have HE := Lib.hid hev
      clear hev
      obtain ⟨x, hx⟩ : ∃ x, x = ws.getD m [] := ⟨_, rfl⟩
      rw [← hx] at e1 q2
      have HX := Lib.hid hx
      clear hx
      cases hid : identL x with
      | false =>
        have hk := (rident_to ⟨x.toArray⟩ false · q2 hid)
        have HK := Lib.hid hk
        have hf : chk ws = false := by
          cases h : chk ws with
          | false => rfl
          | true =>
            have := (HC.out.1 h).2.1
            rw [show m + 1 - 1 = m by omega, ← HX.out, hid] at this
            cases this
        have HF := Lib.hid hf
        clear hf hid hk
        go_wp2_with fail
        refine (HK.out _).mono ?_
        rintro e w' ⟨rfl, rfl⟩
        go_wp2_with fail
        go_ret
        exact ⟨by rw [HF.out]; rfl, hb⟩
      | true =>
        have hk := (rident_to ⟨x.toArray⟩ true · q2 hid)
        have HK := Lib.hid hk
        have HI := Lib.hid hid
        clear hid hk
        go_wp2_with fail
        refine (HK.out _).mono ?_
        rintro e w' ⟨rfl, rfl⟩
        clear e1
        go_wp2_with fail
        go_loop [4] (fun i => ∃ K j : Nat, K = 2 * j ∧ i = .int .i64 K ∧ K ≤ m + 1 ∧ ∀ q, q < j → pairOk ws q = true) (fun i => m + 2 - (intOf i).toNat)
        case atStart => exact ⟨0, 0, rfl, rfl, by omega, fun q hq => by omega⟩
        case round =>
          obtain ⟨K, j, hKj, rfl, hK, hall⟩ := hrel
          have HKJ := Lib.hid hKj
          have HA := Lib.hid hall
          clear hKj hall
          have c1 : (0 : Int) ≤ (K : Int) := by omega
          have c2 : (K : Int) ≤ 161 := by omega
          by_cases hlt : K + 1 < m + 1
          · have c3 : (K : Int) + 1 < (m : Int) + 1 := by omega
            have e1 := HL.out K (by omega)
            have e2 := HL.out (K + 1) (by omega)
            have q1 := HS.out K (by omega)
            have q2 := HS.out (K + 1) (by omega)
            have p1 := is_tr (ws.getD K [])
            have hpo : pairOk ws j = (decide (ws.getD K [] = trW) && identL (ws.getD (K + 1) [])) := by unfold pairOk; rw [← HKJ.out]
            have hno : pairOk ws j = false → chk ws = false := fun h => by
              cases h2 : chk ws with
              | false => rfl
              | true =>
                have := (HC.out.1 h2).2.2 j (by have := HKJ.out; omega)
                rw [h] at this
                cases this
            generalize ws.getD K [] = a at *
            generalize ws.getD (K + 1) [] = b at *
            have q3 : (⟨b.toArray⟩ : ByteArray).size ≤ maxLen := by rw [size_mk]; simp only [maxLen]; omega
            by_cases ha : a = trW
            · have b2 : ((⟨a.toArray⟩ : ByteArray).toList == [116, 114, 97, 110, 115, 102, 101, 114]) = true := by rw [p1, decide_eq_true ha]
              have b3 : ((⟨a.toArray⟩ : ByteArray).toList != [116, 114, 97, 110, 115, 102, 101, 114]) = false := by rw [bne, b2]; rfl
              rw [decide_eq_true ha, Bool.true_and] at hpo
              clear p1
              cases hib : identL b with
              | true =>
                rw [hib] at hpo
                have HK2 := Lib.hid (rident_to ⟨b.toArray⟩ true · q3 hib)
                have HP := Lib.hid hpo
                have HN := Lib.hid hno
                have HH := Lib.hid ha
                clear hpo hno ha hib
                go_wp2_with (go_at_call 102; refine (HK2.out _).mono ?_; rintro e w' ⟨rfl, rfl⟩)
                go_round
                case rel => exact ⟨K + 2, j + 1, by have := HKJ.out; omega, by go_num, by omega, fun q hq => by
                  by_cases e : q = j
                  · rw [e]; exact HP.out
                  · exact HA.out q (by omega)⟩
                case measure => simp [intOf]; omega
              | false =>
                rw [hib] at hpo
                have HK2 := Lib.hid (rident_to ⟨b.toArray⟩ false · q3 hib)
                have HF := Lib.hid (hno hpo)
                have HH := Lib.hid ha
                clear hpo hno ha hib
                go_wp2_with (go_at_call 102; refine (HK2.out _).mono ?_; rintro e w' ⟨rfl, rfl⟩)
                go_ret
                exact ⟨by rw [HF.out]; rfl, hb⟩
            · have b2 : ((⟨a.toArray⟩ : ByteArray).toList == [116, 114, 97, 110, 115, 102, 101, 114]) = false := by rw [p1, decide_eq_false ha]
              have b3 : ((⟨a.toArray⟩ : ByteArray).toList != [116, 114, 97, 110, 115, 102, 101, 114]) = true := by rw [bne, b2]; rfl
              rw [decide_eq_false ha, Bool.false_and] at hpo
              have HF := Lib.hid (hno hpo)
              have HH := Lib.hid ha
              clear p1 hpo hno ha
              go_wp2_with fail
              go_ret
              exact ⟨by rw [HF.out]; rfl, hb⟩
          · have c3 : ¬ (K : Int) + 1 < (m : Int) + 1 := by omega
            have hf : chk ws = true := HC.out.2 ⟨by have := HE.out; omega, by rw [show m + 1 - 1 = m by omega, ← HX.out]; exact HI.out, fun q hq => HA.out q (by have := HKJ.out; omega)⟩
            have HF := Lib.hid hf
            clear hf
            go_wp2_with fail
            go_ret
            exact ⟨by rw [HF.out]; rfl, hb⟩
  · have hd : denomL s.data.toList = false := by unfold denomL; rw [decide_eq_false (by omega)]; rfl
    rw [hd]
    clear hsz hd
    have HS := Lib.hid hs
    clear hs
    go_enter Tryz.func173, Tryz.ntmps173
    go_wp2_with fail
    go_ret
    exact ⟨rfl, Below.refl _ _⟩
end Go.Proofs.YtaafaaoioleokaaGreatDoor
