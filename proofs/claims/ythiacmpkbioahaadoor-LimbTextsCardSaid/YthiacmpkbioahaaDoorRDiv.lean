
/- The document's Div: bit by bit, the highest first. -/
import Derived.Test.YthiacmpkbioahaaDoorLimbN1
namespace Go.Proofs.YthiacmpkbioahaaDoor
open Go Go.RowKit
set_option linter.unusedVariables false

theorem halfD (k i : Nat) : k / 2 ^ i = 2 * (k / 2 ^ (i + 1)) + k / 2 ^ i % 2 := by
  rw [Nat.pow_succ, ← Nat.div_div_eq_div_mul]
  omega
theorem pow64 : (2 : Nat) ^ (64 * 0) = 1 ∧ (2 : Nat) ^ (64 * 1) = 18446744073709551616 ∧ (2 : Nat) ^ (64 * 2) = 340282366920938463463374607431768211456 ∧ (2 : Nat) ^ (64 * 3) = 6277101735386680763835789423207666416102355444464034512896 := by decide
theorem pow_s (s : Nat) (h : s < 64) : ∃ v, 1 ≤ v ∧ 1 ≤ 2 ^ s ∧ 18446744073709551616 = 2 * 2 ^ s * v := by
  refine ⟨2 ^ (63 - s), Nat.one_le_two_pow, Nat.one_le_two_pow, ?_⟩
  rw [← Nat.pow_succ', ← Nat.pow_add, show s.succ + (63 - s) = 64 by omega]
theorem bit_step (c i : Nat) (hi : i < 256) (hV : c * 2 ^ (i + 1) + 2 ^ i < top) :
    (ofN (c * 2 ^ (i + 1) + 2 ^ i)).cells = (ofN (c * 2 ^ (i + 1))).cells.setIfInBounds (i / 64) (.int .u64 (((ofN (c * 2 ^ (i + 1))).at (i / 64) + 2 ^ (i % 64) : Nat) : Int)) ∧ (∃ e, (ofN (c * 2 ^ (i + 1))).at (i / 64) = 2 ^ (i % 64 + 1) * e) ∧ (ofN (c * 2 ^ (i + 1))).at (i / 64) + 2 ^ (i % 64) < 18446744073709551616 := by
  obtain ⟨p0, p1, p2, p3⟩ := pow64
  have hs : i % 64 < 64 := Nat.mod_lt _ (by decide)
  obtain ⟨v, hv, ht, hM⟩ := pow_s (i % 64) hs
  have h2 : 2 ^ i = 2 ^ (64 * (i / 64)) * 2 ^ (i % 64) := by rw [← Nat.pow_add, Nat.div_add_mod]
  have h3 : c * 2 ^ (i + 1) = 2 ^ (64 * (i / 64)) * (2 * 2 ^ (i % 64) * c) := by
    rw [Nat.pow_succ, h2, Nat.mul_comm c, Nat.mul_assoc, Nat.mul_assoc, Nat.mul_comm (2 ^ (i % 64)) (2 * c), Nat.mul_assoc 2 (2 ^ (i % 64)) c, Nat.mul_assoc 2 c, Nat.mul_comm c]
  have hm : (2 * 2 ^ (i % 64) * c) % 18446744073709551616 = 2 * 2 ^ (i % 64) * (c % v) := by rw [hM, Nat.mul_mod_mul_left]
  have hc := Nat.mod_lt c hv
  have hle : 2 * 2 ^ (i % 64) * (c % v) + 2 * 2 ^ (i % 64) ≤ 18446744073709551616 := by
    rw [hM, ← Nat.mul_succ]
    exact Nat.mul_le_mul_left _ hc
  have hq : i / 64 = 0 ∨ i / 64 = 1 ∨ i / 64 = 2 ∨ i / 64 = 3 := by omega
  have hps : 2 ^ (i % 64 + 1) = 2 * 2 ^ (i % 64) := by rw [Nat.pow_succ, Nat.mul_comm]
  rw [h3, h2, hps]
  rw [h3, h2] at hV
  rw [← hm] at hle
  have hex : ∃ e, (2 * 2 ^ (i % 64) * c) % 18446744073709551616 = 2 * 2 ^ (i % 64) * e := ⟨_, hm⟩
  clear hm h2 h3 hM hps
  generalize 2 * 2 ^ (i % 64) * c = X at *
  generalize 2 ^ (i % 64) = t at *
  generalize i / 64 = q at *
  clear hs hi hc
  have hT : top = 115792089237316195423570985008687907853269984665640564039457584007913129639936 := by decide
  rw [hT] at hV
  rcases hq with rfl | rfl | rfl | rfl
  · rw [p0] at hV ⊢
    refine ⟨?_, ?_, ?_⟩
    · simp only [ofN, U4.cells, U4.at, List.setIfInBounds_toArray, List.set_cons_zero]
      exact cells4 (by omega) (by omega) (by omega) (by omega)
    · obtain ⟨e, he⟩ := hex
      exact ⟨e, by simp only [ofN, U4.at]; omega⟩
    · simp only [ofN, U4.at]; omega
  · rw [p1] at hV ⊢
    refine ⟨?_, ?_, ?_⟩
    · simp only [ofN, U4.cells, U4.at, List.setIfInBounds_toArray, List.set_cons_zero, List.set_cons_succ]
      exact cells4 (by omega) (by omega) (by omega) (by omega)
    · obtain ⟨e, he⟩ := hex
      exact ⟨e, by simp only [ofN, U4.at]; rw [← he]; omega⟩
    · simp only [ofN, U4.at]; omega
  · rw [p2] at hV ⊢
    refine ⟨?_, ?_, ?_⟩
    · simp only [ofN, U4.cells, U4.at, List.setIfInBounds_toArray, List.set_cons_zero, List.set_cons_succ]
      exact cells4 (by omega) (by omega) (by omega) (by omega)
    · obtain ⟨e, he⟩ := hex
      exact ⟨e, by simp only [ofN, U4.at]; rw [← he]; omega⟩
    · simp only [ofN, U4.at]; omega
  · rw [p3] at hV ⊢
    refine ⟨?_, ?_, ?_⟩
    · simp only [ofN, U4.cells, U4.at, List.setIfInBounds_toArray, List.set_cons_zero, List.set_cons_succ]
      exact cells4 (by omega) (by omega) (by omega) (by omega)
    · obtain ⟨e, he⟩ := hex
      exact ⟨e, by simp only [ofN, U4.at]; rw [← he]; omega⟩
    · simp only [ofN, U4.at]; omega
theorem at_bit {x : U4} (h : x.ok) (i : Nat) (hi : i < 256) : x.at (i / 64) / 2 ^ (i % 64) % 2 = x.nat / 2 ^ i % 2 := by
  rw [at_eq, at_part h _ (by omega)]
  have h1 : (256 : Nat) ^ (8 * (i / 64)) = 2 ^ (64 * (i / 64)) := by
    rw [show (256 : Nat) = 2 ^ 8 from rfl, ← Nat.pow_mul]
    congr 1
    omega
  have h2 : 2 ^ i = 2 ^ (64 * (i / 64)) * 2 ^ (i % 64) := by rw [← Nat.pow_add, Nat.div_add_mod]
  rw [h1, h2, ← Nat.div_div_eq_div_mul]
  generalize x.nat / 2 ^ (64 * (i / 64)) = n
  obtain ⟨v, hv, ht, hM⟩ := pow_s (i % 64) (Nat.mod_lt _ (by decide))
  rw [hM, Nat.mul_comm 2, Nat.mul_assoc, Nat.mod_mul_right_div_self]
  exact Nat.mod_mul_right_mod _ _ _
/-- what the round with n bits to come finds -/
structure RD (a k n : Nat) (q : U4) (r : Nat) : Prop where
  q : q = ofN (a / 2 ^ n / k * 2 ^ n)
  r : r = a / 2 ^ n % k
theorem RD.start {a k : Nat} (ha : a < top) : RD a k 256 U4.zero 0 := by
  have h : a / 2 ^ 256 = 0 := Nat.div_eq_of_lt ha
  exact ⟨by rw [h, Nat.zero_div, Nat.zero_mul]; rfl, by rw [h, Nat.zero_mod]⟩
theorem RD.lt {a k n : Nat} {q : U4} {r : Nat} (h : RD a k n q r) (hk : 0 < k) : r < k := by rw [h.r]; exact Nat.mod_lt _ hk
theorem rd_core {P k r b : Nat} (hk : 0 < k) (hr : r = P % k) : (2 * r + b < k → (2 * P + b) / k = 2 * (P / k) ∧ (2 * P + b) % k = 2 * r + b) ∧ (b < 2 → k ≤ 2 * r + b → (2 * P + b) / k = 2 * (P / k) + 1 ∧ (2 * P + b) % k = 2 * r + b - k) := by
  have hd := Nat.div_add_mod P k
  have hlt := Nat.mod_lt P hk
  rw [← hr] at hd hlt
  have e : 2 * P + b = k * (2 * (P / k)) + (2 * r + b) := by rw [Nat.mul_left_comm]; omega
  refine ⟨fun hb => ?_, fun hb2 hb => ?_⟩
  · rw [e]
    exact ⟨by rw [Nat.mul_add_div hk, Nat.div_eq_of_lt hb, Nat.add_zero], by rw [Nat.mul_add_mod, Nat.mod_eq_of_lt hb]⟩
  · have e2 : 2 * r + b = k * 1 + (2 * r + b - k) := by omega
    have e3 : 2 * P + b = k * (2 * (P / k) + 1) + (2 * r + b - k) := by rw [Nat.mul_add]; omega
    have h4 : 2 * r + b - k < k := by omega
    rw [e3]
    exact ⟨by rw [Nat.mul_add_div hk, Nat.div_eq_of_lt h4, Nat.add_zero], by rw [Nat.mul_add_mod, Nat.mod_eq_of_lt h4]⟩
theorem RD.no {a k i : Nat} {q : U4} {r : Nat} (h : RD a k (i + 1) q r) (hk : 0 < k) (hb : 2 * r + a / 2 ^ i % 2 < k) : RD a k i q (2 * r + a / 2 ^ i % 2) := by
  obtain ⟨e1, e2⟩ := (rd_core (b := a / 2 ^ i % 2) hk h.r).1 hb
  rw [← halfD] at e1 e2
  refine ⟨?_, e2.symm⟩
  rw [e1, h.q, Nat.pow_succ]
  congr 1
  rw [Nat.mul_comm 2 _, Nat.mul_assoc, Nat.mul_comm 2 (2 ^ i)]
theorem RD.yes {a k i : Nat} {q : U4} {r : Nat} (h : RD a k (i + 1) q r) (hk : 0 < k) (hb : k ≤ 2 * r + a / 2 ^ i % 2) : RD a k i (ofN (a / 2 ^ (i + 1) / k * 2 ^ (i + 1) + 2 ^ i)) (2 * r + a / 2 ^ i % 2 - k) ∧ a / 2 ^ (i + 1) / k * 2 ^ (i + 1) + 2 ^ i ≤ a := by
  obtain ⟨e1, e2⟩ := (rd_core (b := a / 2 ^ i % 2) hk h.r).2 (Nat.mod_lt _ (by decide)) hb
  rw [← halfD] at e1 e2
  have e3 : a / 2 ^ i / k * 2 ^ i = a / 2 ^ (i + 1) / k * 2 ^ (i + 1) + 2 ^ i := by
    rw [e1, Nat.add_mul, Nat.one_mul, Nat.pow_succ, Nat.mul_comm 2 (a / (2 ^ i * 2) / k), Nat.mul_assoc, Nat.mul_comm 2 (2 ^ i)]
  refine ⟨⟨by rw [e3], e2.symm⟩, ?_⟩
  rw [← e3]
  exact Nat.le_trans (Nat.mul_le_mul_right _ (Nat.div_le_self _ _)) (Nat.div_mul_le_self _ _)
theorem RD.done {a k : Nat} {q : U4} {r : Nat} (h : RD a k 0 q r) : q = ofN (a / k) ∧ r = a % k := by
  obtain ⟨h1, h2⟩ := h
  rw [Nat.pow_zero, Nat.div_one] at h1 h2
  rw [Nat.mul_one] at h1
  exact ⟨h1, h2⟩
theorem or_bit (c s e : Nat) (hs : s < 64) (hc : c = 2 ^ (s + 1) * e) (hl : c + 2 ^ s < 18446744073709551616) : bits .or .u64 (c : Int) ((2 ^ s : Nat) : Int) = ((c + 2 ^ s : Nat) : Int) := by
  have hor := Nat.two_pow_add_eq_or_of_lt (i := s + 1) (b := 2 ^ s) (Nat.pow_lt_pow_right (by decide) (Nat.lt_succ_self s)) e
  generalize 2 ^ s = t at *
  rw [bits_or_u64_nat _ _ (by omega) (by omega)]
  congr 1
  rw [hc, ← hor]
theorem or_one (c b : Nat) (hb : b < 2) (hc : c % 2 = 0) (hl : c + b < 18446744073709551616) : bits .or .u64 (c : Int) (b : Int) = ((c + b : Nat) : Int) := by
  have hor := Nat.two_pow_add_eq_or_of_lt (i := 1) (b := b) (by omega) (c / 2)
  rw [bits_or_u64_nat _ _ (by omega) (by omega)]
  congr 1
  rw [show c = 2 ^ 1 * (c / 2) by omega, ← hor]
theorem and1D (n : Nat) (h : n < 18446744073709551616) : bits .and .u64 (n : Int) 1 = ((n % 2 : Nat) : Int) := by
  have h1 : (BitVec.ofInt 64 (n : Int)).toNat = n := by
    rw [BitVec.ofInt_natCast, BitVec.toNat_ofNat]; exact Nat.mod_eq_of_lt (by omega)
  show IntKind.u64.wrap ((BitVec.ofInt 64 (n : Int) &&& BitVec.ofInt 64 1).toNat : Int) = _
  rw [BitVec.toNat_and, h1, show (BitVec.ofInt 64 1).toNat = 2 ^ 1 - 1 from rfl, Nat.and_two_pow_sub_one_eq_mod, IntKind.wrap_u64]
  omega
set_option maxRecDepth 100000 in
set_option maxHeartbeats 4000000 in
theorem rdiv_any (x : U4) (k : Nat) (w : World) (hx : x.ok) (hk : k < 18446744073709551616) : Calls Tryd.prog 22 #[x.val, .int .u64 (k : Int)] w fun e w' => e = .returned (.tuple #[(if k = 0 then U4.zero else ofN (x.nat / k)).val, .int .u64 ((if k = 0 then 0 else x.nat % k : Nat) : Int)]) ∧ Below w.heap.size w w' := by
  have HX := Lib.hid hx
  obtain ⟨hl1, hl2, hbb⟩ := two w x.cells U4.zero.cells
  unfold U4.val
  by_cases h0 : k = 0
  · subst h0
    obtain ⟨d0, d1, d2, d3⟩ := hl2.all
    have HB := Lib.hid hbb
    clear hl1 hl2 hbb
    go_enter Tryd.func22, Tryd.ntmps22
    go_wp2_with fail
    refine bodyPost_ret (v := .tuple #[.agg U4.zero.cells, .int .u64 0]) ?_ rfl ⟨?_, ?_⟩
    · simp [results, Tryd.results22, go_sem, U4.cells, U4.zero, d0, d1, d2, d3]
    · rfl
    · exact HB.out
  · have hz : ((k : Int) == 0) = false := by simp; omega
    have hk0 : 0 < k := by omega
    rw [if_neg h0, if_neg h0]
    have HZ : Hid (LBlk (((w.alloc (.cells x.cells 24)).alloc (.cells U4.zero.cells 24)).alloc (.cells U4.zero.cells 24)) w.heap.size x.cells ∧ LBlk (((w.alloc (.cells x.cells 24)).alloc (.cells U4.zero.cells 24)).alloc (.cells U4.zero.cells 24)) (w.heap.size + 1) U4.zero.cells ∧ LBlk (((w.alloc (.cells x.cells 24)).alloc (.cells U4.zero.cells 24)).alloc (.cells U4.zero.cells 24)) (w.heap.size + 2) U4.zero.cells ∧ Below w.heap.size w (((w.alloc (.cells x.cells 24)).alloc (.cells U4.zero.cells 24)).alloc (.cells U4.zero.cells 24))) := Lib.hid ⟨hl1.alloc _, hl2.alloc _, by
      have h := LBlk.new ((w.alloc (.cells x.cells 24)).alloc (.cells U4.zero.cells 24)) U4.zero.cells
      simpa using h, hbb.alloc hbb.size _⟩
    clear hl1 hl2 hbb
    go_enter Tryd.func22, Tryd.ntmps22
    go_wp2_with fail
    go_loopw [7, 8] (fun rv iv wr => ∃ (n : Nat) (q : U4) (r : Nat), n ≤ 256 ∧ rv = .int .u64 (r : Int) ∧ iv = .int .i64 ((n : Int) - 1) ∧ RD x.nat k n q r ∧ LBlk wr w.heap.size x.cells ∧ LBlk wr (w.heap.size + 1) U4.zero.cells ∧ LBlk wr (w.heap.size + 2) q.cells ∧ Below w.heap.size w wr)
      (fun _ iv _ => (intOf iv + 1).toNat)
    case atStart => exact ⟨256, U4.zero, 0, by omega, rfl, rfl, RD.start (nat_lt HX.out), HZ.out.1, HZ.out.2.1, HZ.out.2.2.1, HZ.out.2.2.2⟩
    case round =>
      clear HZ
      obtain ⟨n, q, r, hn, rfl, rfl, hrd, hb0, hb1, hb2, hbl⟩ := hrel
      cases n with
      | zero =>
        obtain ⟨e1, e2⟩ := hrd.done
        subst e1 e2
        obtain ⟨c0, c1, c2, c3⟩ := hb2.all
        obtain ⟨d0, d1, d2, d3⟩ := hb1.all
        have f0 := hb1.free 0
        have f1 := hb1.free 1
        have f2 := hb1.free 2
        have f3 := hb1.free 3
        have BB := Lib.hid hbl
        obtain ⟨s, hs⟩ : ∃ s, s = ofN (x.nat / k) := ⟨_, rfl⟩
        rw [← hs] at c0 c1 c2 c3
        have HS := Lib.hid hs
        clear hbl hb0 hb1 hb2 hs hrd
        go_wp2_with fail
        refine bodyPost_ret (v := .tuple #[.agg s.cells, .int .u64 ((x.nat % k : Nat) : Int)]) ?_ rfl ⟨by rw [HS.out], ?_⟩
        · simp [results, Tryd.results22, go_sem, U4.cells, d0, d1, d2, d3]
        · have hg : w.heap.size ≤ w.heap.size + 1 := by omega
          exact (((BB.out.setCell hg _).setCell hg _).setCell hg _).setCell hg _
      | succ m =>
        have hm : m < 256 := by omega
        rw [show ((m + 1 : Nat) : Int) - 1 = (m : Int) by omega]
        have m1 : (0 : Int) ≤ (m : Int) := by omega
        have m2 : (m : Int) < 256 := by omega
        have hrl := hrd.lt hk0
        have e1 := (blk_cell hb0 (m / 64)).trans (U4.cell_at x (by omega))
        have e2 := (blk_cell hb2 (m / 64)).trans (U4.cell_at q (by omega))
        have e3 := blk_free hb2 (m / 64)
        have m8 : (m : Int) / 64 < 4 := by omega
        have m80 : (0 : Int) ≤ (m : Int) / 64 := by omega
        have w1 : IntKind.i64.wrap ((m : Int) / 64) = (m : Int) / 64 := IntWalk.i64_in _ (by omega)
        have w2 : (m : Int).tmod 64 = (m : Int) % 64 := Int.tmod_eq_emod_of_nonneg (by omega)
        have w3 : IntKind.i64.wrap ((m : Int) % 64) = (m : Int) % 64 := IntWalk.i64_in _ (by omega)
        have w5 : (m : Int).tdiv 64 = (m : Int) / 64 := Int.tdiv_eq_ediv_of_nonneg (by omega)
        have w6 : ((m : Int) / 64).toNat = m / 64 := by omega
        have w7 : IntKind.u64.wrap ((m : Int) % 64) = (m : Int) % 64 := by rw [IntKind.wrap_u64]; omega
        have HRD := Lib.hid hrd
        have HBS := Lib.hid (And.intro hb0 (And.intro hb1 (And.intro hb2 hbl)))
        clear hrd hb0 hb1 hb2 hbl
        have hbx := at_bit HX.out m hm
        have hb2 : x.nat / 2 ^ m % 2 < 2 := Nat.mod_lt _ (by decide)
        have hand : bits .and .u64 ((x.at (m / 64) : Int) / 2 ^ (m % 64)) 1 = ((x.nat / 2 ^ m % 2 : Nat) : Int) := by
          rw [← hbx, show ((x.at (m / 64) : Int) / 2 ^ (m % 64)) = ((x.at (m / 64) / 2 ^ (m % 64) : Nat) : Int) by push_cast; rfl]
          exact and1D _ (Nat.lt_of_le_of_lt (Nat.div_le_self _ _) (at_lt' HX.out _))
        have hy : k ≤ 2 * r + x.nat / 2 ^ m % 2 → ∃ q', RD x.nat k m q' (2 * r + x.nat / 2 ^ m % 2 - k) ∧ LBlk (wr.setCell ⟨w.heap.size + 1 + 1, m / 64, none⟩ (.int .u64 (bits .or .u64 (q.at (m / 64) : Int) (IntKind.u64.wrap (2 ^ (m % 64)))))) (w.heap.size + 2) q'.cells := fun hle => by
          obtain ⟨g1, g2⟩ := HRD.out.yes hk0 hle
          have hq := HRD.out.q
          have hlt := Nat.lt_of_le_of_lt g2 (nat_lt HX.out)
          obtain ⟨s1, ⟨e, s2⟩, s3⟩ := bit_step _ m hm hlt
          rw [← hq] at s1 s2 s3
          refine ⟨_, g1, ?_⟩
          have hs : m % 64 < 64 := Nat.mod_lt _ (by decide)
          have hor := or_bit _ (m % 64) e hs s2 s3
          have hwp : IntKind.u64.wrap ((2 : Int) ^ (m % 64)) = ((2 ^ (m % 64) : Nat) : Int) := by
            rw [show ((2 : Int) ^ (m % 64)) = ((2 ^ (m % 64) : Nat) : Int) by push_cast; rfl, IntKind.wrap_u64]
            generalize 2 ^ (m % 64) = t at *
            omega
          rw [hwp, hor, s1]
          exact HBS.out.2.2.1.set_ (m / 64) _
        have HY := Lib.hid hy
        have HB2 := Lib.hid hb2
        have hno := fun h => HRD.out.no (i := m) hk0 h
        have HNO := Lib.hid hno
        rw [show (2 : Nat) = 2 from rfl] at hand
        clear hbx hy hb2 hno HRD
        generalize x.nat / 2 ^ m % 2 = b at *
        have hb2 := HB2.out
        have hor1 : ¬ (r : Int) / 9223372036854775808 = 1 → bits .or .u64 ((r : Int) * 2) (b : Int) = ((2 * r + b : Nat) : Int) := fun h => by
          have h' := or_one (2 * r) b hb2 (by omega) (by omega)
          rw [← h']
          congr 1
          omega
        have hor2 : (r : Int) / 9223372036854775808 = 1 → bits .or .u64 (IntKind.u64.wrap ((r : Int) * 2)) (b : Int) = ((2 * r + b : Nat) : Int) - 18446744073709551616 := fun h => by
          have h' := or_one (2 * r - 18446744073709551616) b hb2 (by omega) (by omega)
          rw [show IntKind.u64.wrap ((r : Int) * 2) = ((2 * r - 18446744073709551616 : Nat) : Int) by rw [IntKind.wrap_u64]; omega, h']
          omega
        have HO1 := Lib.hid hor1
        have HO2 := Lib.hid hor2
        clear hor1 hor2
        go_wp2_with fail
        · rename_i hh
          obtain ⟨q', g1, g2⟩ := HY.out (by omega)
          refine ⟨⟨m, q', 2 * r + b - k, by omega, ?_, rfl, g1, HBS.out.1.far (by omega) _ _, HBS.out.2.1.far (by omega) _ _, g2, HBS.out.2.2.2.setCell (show w.heap.size ≤ w.heap.size + 1 + 1 by omega) _⟩, by (simp [intOf]; try omega)⟩
          congr 1
          rw [HO2.out hh, IntKind.wrap_u64]
          omega
        · rename_i hn1 hh
          rw [HO1.out hn1] at hh ⊢
          have hle : k ≤ 2 * r + b := by
            rcases hh with hh | hh
            · exact absurd (by simpa using hh) hn1
            · omega
          obtain ⟨q', g1, g2⟩ := HY.out hle
          refine ⟨⟨m, q', 2 * r + b - k, by omega, ?_, rfl, g1, HBS.out.1.far (by omega) _ _, HBS.out.2.1.far (by omega) _ _, g2, HBS.out.2.2.2.setCell (show w.heap.size ≤ w.heap.size + 1 + 1 by omega) _⟩, by (simp [intOf]; try omega)⟩
          congr 1
          rw [IntKind.wrap_u64]
          omega
        · rename_i hn1 hh
          rw [HO1.out hn1] at hh ⊢
          have hlt : 2 * r + b < k := by omega
          exact ⟨⟨m, q, 2 * r + b, by omega, rfl, rfl, HNO.out hlt, HBS.out.1, HBS.out.2.1, HBS.out.2.2.1, HBS.out.2.2.2⟩, by (simp [intOf]; try omega)⟩
end Go.Proofs.YthiacmpkbioahaaDoor
