
/- Texts of numbers: each number has one, and it is read back. -/
import Derived.Test.YthiacmpkbioahaaDoorLimbR
import Derived.Test.YthiacmpkbioahaaDoorLimbQ
import Derived.Test.YthiacmpkbioahaaDoorRPrint
import Derived.Lib.SlTrimSet
namespace Go.Proofs.YthiacmpkbioahaaDoor
open Go Go.RowKit
set_option linter.unusedVariables false

def digC (c : UInt8) : Bool := decide (48 ≤ c.toNat) && decide (c.toNat ≤ 57)
theorem digC_iff {c : UInt8} : digC c = true ↔ 48 ≤ c.toNat ∧ c.toNat ≤ 57 := by
  unfold digC
  simp only [Bool.and_eq_true, decide_eq_true_eq]
/-- a 0 ahead, of more than one -/
def zeroAhead : List UInt8 → Bool
  | c :: _ :: _ => decide (c.toNat = 48)
  | _ => false
def decOk (l : List UInt8) : Bool := !l.isEmpty && (!zeroAhead l && l.all digC)
def parseM (l : List UInt8) : U4 × Int := if decOk l = true then parsed l else (U4.zero, 11)
theorem valF_snoc (l : List UInt8) (c : UInt8) : valF 0 (l ++ [c]) = valF 0 l * 10 + (c.toNat - 48) := by
  unfold valF
  rw [List.foldl_append]
  rfl
theorem digN_rev : ∀ (m : List UInt8), (∀ c ∈ m, digC c = true) → digN m.length (valF 0 m.reverse) = m
  | [], _ => rfl
  | c :: m, h => by
    have h1 := digN_rev m fun d hd => h d (List.mem_cons_of_mem _ hd)
    obtain ⟨h2, h3⟩ := digC_iff.1 (h c (by simp))
    rw [List.reverse_cons, valF_snoc]
    show digN (m.length + 1) _ = _
    have e1 : (valF 0 m.reverse * 10 + (c.toNat - 48)) / 10 = valF 0 m.reverse := by omega
    have e2 : dg (valF 0 m.reverse * 10 + (c.toNat - 48)) = c := by
      unfold dg
      have : (valF 0 m.reverse * 10 + (c.toNat - 48)) % 10 = c.toNat - 48 := by omega
      rw [this, show 48 + (c.toNat - 48) = c.toNat by omega]
      exact UInt8.ofNat_toNat
    simp only [digN]
    rw [e1, e2, h1]
theorem digN_val (l : List UInt8) (h : ∀ c ∈ l, digC c = true) : (digN l.length (valF 0 l)).reverse = l := by
  have := digN_rev l.reverse fun c hc => h c (List.mem_reverse.1 hc)
  rw [List.reverse_reverse, List.length_reverse] at this
  rw [this, List.reverse_reverse]
theorem dropW_nil {p : UInt8 → Bool} : ∀ {l : List UInt8}, l.dropWhile p = [] ↔ ∀ c ∈ l, p c = true
  | [] => by simp
  | c :: l => by
    rw [List.dropWhile_cons]
    by_cases h : p c = true
    · rw [if_pos h, dropW_nil]
      simp [h]
    · rw [if_neg h]
      simp [h]
theorem takeW_mem {p : UInt8 → Bool} : ∀ {l : List UInt8} {c : UInt8}, c ∈ l.takeWhile p → p c = true
  | [], _, h => by simp at h
  | d :: l, c, h => by
    rw [List.takeWhile_cons] at h
    by_cases hd : p d = true
    · rw [if_pos hd] at h
      rcases List.mem_cons.1 h with rfl | h
      · exact hd
      · exact takeW_mem h
    · rw [if_neg hd] at h
      cases h
theorem valF_bounds : ∀ (l : List UInt8) (a : Nat), (∀ c ∈ l, digC c = true) → a * 10 ^ l.length ≤ valF a l ∧ valF a l < (a + 1) * 10 ^ l.length
  | [], a, _ => by simp [valF]
  | c :: l, a, h => by
    obtain ⟨h2, h3⟩ := digC_iff.1 (h c (by simp))
    obtain ⟨i1, i2⟩ := valF_bounds l (a * 10 + (c.toNat - 48)) fun d hd => h d (List.mem_cons_of_mem _ hd)
    have e : valF a (c :: l) = valF (a * 10 + (c.toNat - 48)) l := rfl
    rw [e, List.length_cons, Nat.pow_succ]
    have q1 : a * (10 ^ l.length * 10) = (a * 10) * 10 ^ l.length := by rw [Nat.mul_comm (10 ^ l.length) 10, Nat.mul_assoc]
    have q2 : (a + 1) * (10 ^ l.length * 10) = ((a + 1) * 10) * 10 ^ l.length := by rw [Nat.mul_comm (10 ^ l.length) 10, Nat.mul_assoc]
    rw [q1, q2]
    exact ⟨Nat.le_trans (Nat.mul_le_mul_right _ (by omega)) i1, Nat.lt_of_lt_of_le i2 (Nat.mul_le_mul_right _ (by omega))⟩
/-- a text that begins with no 0 -/
theorem valF_top {c : UInt8} {l : List UInt8} (h : ∀ d ∈ c :: l, digC d = true) (hc : c.toNat ≠ 48) : 10 ^ l.length ≤ valF 0 (c :: l) ∧ valF 0 (c :: l) < 10 ^ (l.length + 1) ∧ (dg (valF 0 (c :: l) / 10 ^ l.length)).toNat ≠ 48 := by
  obtain ⟨h2, h3⟩ := digC_iff.1 (h c (by simp))
  obtain ⟨i1, i2⟩ := valF_bounds l (0 * 10 + (c.toNat - 48)) fun d hd => h d (List.mem_cons_of_mem _ hd)
  have e : valF 0 (c :: l) = valF (0 * 10 + (c.toNat - 48)) l := rfl
  rw [← e, Nat.zero_mul, Nat.zero_add] at i1 i2
  have hp : 0 < 10 ^ l.length := Nat.pow_pos (by decide)
  have hd : valF 0 (c :: l) / 10 ^ l.length = c.toNat - 48 := by
    apply Nat.div_eq_of_lt_le i1
    exact i2
  refine ⟨Nat.le_trans ?_ i1, Nat.lt_of_lt_of_le i2 ?_, ?_⟩
  · have := Nat.mul_le_mul_right (10 ^ l.length) (show 1 ≤ c.toNat - 48 by omega)
    rwa [Nat.one_mul] at this
  · rw [Nat.pow_succ, Nat.mul_comm (10 ^ l.length)]
    exact Nat.mul_le_mul_right _ (by omega)
  · rw [hd, dg_toNat]
    omega
theorem decOk_all {l : List UInt8} (h : decOk l = true) : ∀ c ∈ l, digC c = true := by
  unfold decOk at h
  simp only [Bool.and_eq_true] at h
  exact List.all_eq_true.1 h.2.2
theorem decOk_form {l : List UInt8} (h : decOk l = true) : ∃ c r, l = c :: r ∧ (r = [] ∨ c.toNat ≠ 48) := by
  have h0 := h
  unfold decOk at h0
  simp only [Bool.and_eq_true] at h0
  match l, h0 with
  | [], h0 => simp at h0
  | [c], _ => exact ⟨c, [], rfl, .inl rfl⟩
  | c :: d :: r, h0 => exact ⟨c, d :: r, rfl, .inr (by have := h0.2.1; simpa [zeroAhead] using this)⟩
theorem pow_len {k n : Nat} (h1 : 10 ^ k ≤ n) (h2 : n < top) : k ≤ 77 := by
  apply Classical.byContradiction
  intro hk
  have h3 : 10 ^ 78 ≤ 10 ^ k := Nat.pow_le_pow_right (by decide) (by omega)
  have h4 : top ≤ 10 ^ 78 := by decide
  omega
theorem printL_val {l : List UInt8} (h : decOk l = true) (ht : valF 0 l < top) : printL (valF 0 l) = l := by
  have ha := decOk_all h
  obtain ⟨c, r, rfl, hr⟩ := decOk_form h
  have e : (digN (r.length + 1) (valF 0 (c :: r))).reverse = c :: r := digN_val (c :: r) ha
  rcases hr with rfl | hc
  · have hb := (valF_bounds [c] 0 ha).2
    rw [printL_eq (k := 0) (by omega) (by simpa using hb) (.inl rfl)]
    exact e
  · obtain ⟨t1, t2, t3⟩ := valF_top ha hc
    rw [printL_eq (k := r.length) (by have := pow_len t1 ht; omega) t2 (.inr t3)]
    exact e
theorem dec_text (n : Nat) : (∀ c ∈ Lib.decDigits n, digC c = true) ∧ (n ≠ 0 → ∃ c r, Lib.decDigits n = c :: r ∧ c.toNat ≠ 48) ∧ valF 0 (Lib.decDigits n) = n := by
  induction n using Nat.strongRecOn with
  | ind n ih =>
    by_cases h : n < 10
    · rw [dec_small h]
      have e : (UInt8.ofNat (48 + n)).toNat = 48 + n := by rw [UInt8.toNat_ofNat']; omega
      refine ⟨fun c hc => ?_, fun hn => ⟨_, _, rfl, by rw [e]; omega⟩, ?_⟩
      · rw [List.mem_singleton.1 hc]
        exact digC_iff.2 (by rw [e]; omega)
      · show 0 * 10 + ((UInt8.ofNat (48 + n)).toNat - 48) = n
        rw [e]; omega
    · obtain ⟨h1, h2, h3⟩ := ih (n / 10) (by omega)
      rw [dec_big h]
      have e : (UInt8.ofNat (48 + n % 10)).toNat = 48 + n % 10 := by rw [UInt8.toNat_ofNat']; omega
      refine ⟨fun c hc => ?_, fun _ => ?_, ?_⟩
      · rcases List.mem_append.1 hc with hc | hc
        · exact h1 c hc
        · rw [List.mem_singleton.1 hc]
          exact digC_iff.2 (by rw [e]; omega)
      · obtain ⟨c, r, h4, h5⟩ := h2 (by omega)
        exact ⟨c, r ++ [UInt8.ofNat (48 + n % 10)], by rw [h4]; rfl, h5⟩
      · rw [valF_snoc, h3, e]
        omega
theorem dec_ok (n : Nat) : decOk (Lib.decDigits n) = true := by
  obtain ⟨h1, h2, -⟩ := dec_text n
  unfold decOk
  simp only [Bool.and_eq_true]
  refine ⟨?_, ?_, List.all_eq_true.2 h1⟩
  · cases hl : Lib.decDigits n with
    | nil => have := dec_pos n; rw [hl] at this; simp at this
    | cons c r => rfl
  · by_cases hn : n = 0
    · rw [hn, dec_small (by decide)]; rfl
    · obtain ⟨c, r, h4, h5⟩ := h2 hn
      rw [h4]
      cases r with
      | nil => rfl
      | cons d r => simpa [zeroAhead] using h5
theorem printL_dec {n : Nat} (h : n < top) : printL n = Lib.decDigits n := by
  have e := (dec_text n).2.2
  have := printL_val (dec_ok n) (by rw [e]; exact h)
  rwa [e] at this
theorem parseM_print {n : Nat} (h : n < top) : parseM (printL n) = (ofN n, 0) := by
  rw [printL_dec h]
  unfold parseM parsed
  rw [if_pos (dec_ok n), (dec_text n).2.2, if_pos h]
theorem parseM_ok {l : List UInt8} (h : (parseM l).2 = 0) : decOk l = true ∧ (parseM l).1.ok ∧ printL (parseM l).1.nat = l := by
  unfold parseM at h ⊢
  by_cases hd : decOk l = true
  · rw [if_pos hd] at h ⊢
    unfold parsed at h ⊢
    by_cases ht : valF 0 l < top
    · rw [if_pos ht]
      exact ⟨hd, ofN_ok _, by rw [nat_ofN ht]; exact printL_val hd ht⟩
    · rw [if_neg ht] at h
      cases h
  · rw [if_neg hd] at h
    cases h
/-- a long text is more than 256 bits -/
theorem long_over {l : List UInt8} (h : decOk l = true) (hl : 78 < l.length) : parseM l = (U4.zero, 10) := by
  have ha := decOk_all h
  obtain ⟨c, r, rfl, hr⟩ := decOk_form h
  rw [List.length_cons] at hl
  have hc : c.toNat ≠ 48 := hr.resolve_left (by rintro rfl; simp at hl)
  obtain ⟨t1, -, -⟩ := valF_top ha hc
  unfold parseM
  rw [if_pos h]
  apply parsed_over
  apply Classical.byContradiction
  intro hn
  have := pow_len t1 (by omega)
  omega
theorem trim_all {l : List UInt8} (h : l.all digC = true) : Lib.trimS l [48, 49, 50, 51, 52, 53, 54, 55, 56, 57] = [] := by
  have hin : ∀ c : UInt8, digC c = true → [48, 49, 50, 51, 52, 53, 54, 55, 56, 57].contains c = true := by
    intro c
    have : ∀ n : Fin 256, digC (UInt8.ofNat n.val) = true → ([48, 49, 50, 51, 52, 53, 54, 55, 56, 57] : List UInt8).contains (UInt8.ofNat n.val) = true := by decide +kernel
    have h2 := this ⟨c.toNat, c.toNat_lt⟩
    simpa using h2
  have h1 : Lib.trimRightS l [48, 49, 50, 51, 52, 53, 54, 55, 56, 57] = [] := by
    unfold Lib.trimRightS
    rw [dropW_nil.2 fun c hc => hin c (List.all_eq_true.1 h c (List.mem_reverse.1 hc))]
    rfl
  unfold Lib.trimS
  rw [h1]
  rfl
theorem trim_some {l : List UInt8} (h : l.all digC = false) : Lib.trimS l [48, 49, 50, 51, 52, 53, 54, 55, 56, 57] ≠ [] := by
  have hin : ∀ c : UInt8, ([48, 49, 50, 51, 52, 53, 54, 55, 56, 57] : List UInt8).contains c = true → digC c = true := by
    intro c
    have : ∀ n : Fin 256, ([48, 49, 50, 51, 52, 53, 54, 55, 56, 57] : List UInt8).contains (UInt8.ofNat n.val) = true → digC (UInt8.ofNat n.val) = true := by decide +kernel
    have h2 := this ⟨c.toNat, c.toNat_lt⟩
    simpa using h2
  intro e
  unfold Lib.trimS Lib.trimLeftS at e
  have h1 := dropW_nil.1 e
  have h2 : ∀ c ∈ l, digC c = true := by
    intro c hc
    have hsplit := List.takeWhile_append_dropWhile (p := fun x => ([48, 49, 50, 51, 52, 53, 54, 55, 56, 57] : List UInt8).contains x) (l := l.reverse)
    have hm : c ∈ l.reverse := List.mem_reverse.2 hc
    rw [← hsplit] at hm
    rcases List.mem_append.1 hm with hm | hm
    · exact hin c (takeW_mem hm)
    · exact hin c (h1 c (by unfold Lib.trimRightS; exact List.mem_reverse.2 hm))
  rw [List.all_eq_true.2 h2] at h
  cases h
end Go.Proofs.YthiacmpkbioahaaDoor
