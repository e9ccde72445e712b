/- Texts joined: RDiv, RPrint. -/
import Derived.Test.YtpcoonnfaoakhaaGreatDoorM02
import Derived.Lib.ItoaNum
namespace Go.Proofs.YtpcoonnfaoakhaaGreatDoor
set_option maxRecDepth 100000
open Go Go.RowKit
set_option linter.unusedVariables false

theorem halfD (k i : Nat) : k / 2 ^ i = 2 * (k / 2 ^ (i + 1)) + k / 2 ^ i % 2 := by
  rw [Nat.pow_succ, ← Nat.div_div_eq_div_mul]
  omega
theorem pow64 : (2 : Nat) ^ (64 * 0) = 1 ∧ (2 : Nat) ^ (64 * 1) = 18446744073709551616 ∧ (2 : Nat) ^ (64 * 2) = 340282366920938463463374607431768211456 ∧ (2 : Nat) ^ (64 * 3) = 6277101735386680763835789423207666416102355444464034512896 := by decide
theorem pow_s (s : Nat) (h : s < 64) : ∃ v, 1 ≤ v ∧ 1 ≤ 2 ^ s ∧ 18446744073709551616 = 2 * 2 ^ s * v := by
  refine ⟨2 ^ (63 - s), Nat.one_le_two_pow, Nat.one_le_two_pow, ?_⟩
  rw [← Nat.pow_succ', ← Nat.pow_add, show s.succ + (63 - s) = 64 by omega]
theorem bit_step (c i : Nat) (hi : i < 256) (hV : c * 2 ^ (i + 1) + 2 ^ i < top) :
    (ofN (c * 2 ^ (i + 1) + 2 ^ i)).cells = (ofN (c * 2 ^ (i + 1))).cells.setIfInBounds (i / 64) (.int .u64 (((ofN (c * 2 ^ (i + 1))).at (i / 64) + 2 ^ (i % 64) : Nat) : Int)) ∧ (∃ e, (ofN (c * 2 ^ (i + 1))).at (i / 64) = 2 ^ (i % 64 + 1) * e) ∧ (ofN (c * 2 ^ (i + 1))).at (i / 64) + 2 ^ (i % 64) < 18446744073709551616 := by
  obtain ⟨p0, p1, p2, p3⟩ := pow64
  have hs : i % 64 < 64 := Nat.mod_lt _ (by decide)
  obtain ⟨v, hv, ht, hM⟩ := pow_s (i % 64) hs
  have h2 : 2 ^ i = 2 ^ (64 * (i / 64)) * 2 ^ (i % 64) := by rw [← Nat.pow_add, Nat.div_add_mod]
  have h3 : c * 2 ^ (i + 1) = 2 ^ (64 * (i / 64)) * (2 * 2 ^ (i % 64) * c) := by
    rw [Nat.pow_succ, h2, Nat.mul_comm c, Nat.mul_assoc, Nat.mul_assoc, Nat.mul_comm (2 ^ (i % 64)) (2 * c), Nat.mul_assoc 2 (2 ^ (i % 64)) c, Nat.mul_assoc 2 c, Nat.mul_comm c]
  have hm : (2 * 2 ^ (i % 64) * c) % 18446744073709551616 = 2 * 2 ^ (i % 64) * (c % v) := by rw [hM, Nat.mul_mod_mul_left]
  have hc := Nat.mod_lt c hv
  have hle : 2 * 2 ^ (i % 64) * (c % v) + 2 * 2 ^ (i % 64) ≤ 18446744073709551616 := by
    rw [hM, ← Nat.mul_succ]
    exact Nat.mul_le_mul_left _ hc
  have hq : i / 64 = 0 ∨ i / 64 = 1 ∨ i / 64 = 2 ∨ i / 64 = 3 := by omega
  have hps : 2 ^ (i % 64 + 1) = 2 * 2 ^ (i % 64) := by rw [Nat.pow_succ, Nat.mul_comm]
  rw [h3, h2, hps]
  rw [h3, h2] at hV
  rw [← hm] at hle
  have hex : ∃ e, (2 * 2 ^ (i % 64) * c) % 18446744073709551616 = 2 * 2 ^ (i % 64) * e := ⟨_, hm⟩
  clear hm h2 h3 hM hps
  generalize 2 * 2 ^ (i % 64) * c = X at *
  generalize 2 ^ (i % 64) = t at *
  generalize i / 64 = q at *
  clear hs hi hc
  have hT : top = 115792089237316195423570985008687907853269984665640564039457584007913129639936 := by decide
  rw [hT] at hV
  rcases hq with rfl | rfl | rfl | rfl
  · rw [p0] at hV ⊢
    refine ⟨?_, ?_, ?_⟩
    · simp only [ofN, U4.cells, U4.at, List.setIfInBounds_toArray, List.set_cons_zero]
      exact cells4 (by omega) (by omega) (by omega) (by omega)
    · obtain ⟨e, he⟩ := hex
      exact ⟨e, by simp only [ofN, U4.at]; omega⟩
    · simp only [ofN, U4.at]; omega
  · rw [p1] at hV ⊢
    refine ⟨?_, ?_, ?_⟩
    · simp only [ofN, U4.cells, U4.at, List.setIfInBounds_toArray, List.set_cons_zero, List.set_cons_succ]
      exact cells4 (by omega) (by omega) (by omega) (by omega)
    · obtain ⟨e, he⟩ := hex
      exact ⟨e, by simp only [ofN, U4.at]; rw [← he]; omega⟩
    · simp only [ofN, U4.at]; omega
  · rw [p2] at hV ⊢
    refine ⟨?_, ?_, ?_⟩
    · simp only [ofN, U4.cells, U4.at, List.setIfInBounds_toArray, List.set_cons_zero, List.set_cons_succ]
      exact cells4 (by omega) (by omega) (by omega) (by omega)
    · obtain ⟨e, he⟩ := hex
      exact ⟨e, by simp only [ofN, U4.at]; rw [← he]; omega⟩
    · simp only [ofN, U4.at]; omega
  · rw [p3] at hV ⊢
    refine ⟨?_, ?_, ?_⟩
    · simp only [ofN, U4.cells, U4.at, List.setIfInBounds_toArray, List.set_cons_zero, List.set_cons_succ]
      exact cells4 (by omega) (by omega) (by omega) (by omega)
    · obtain ⟨e, he⟩ := hex
      exact ⟨e, by simp only [ofN, U4.at]; rw [← he]; omega⟩
    · simp only [ofN, U4.at]; omega
theorem at_bit {x : U4} (h : x.ok) (i : Nat) (hi : i < 256) : x.at (i / 64) / 2 ^ (i % 64) % 2 = x.nat / 2 ^ i % 2 := by
  rw [at_eq, at_part h _ (by omega)]
  have h1 : (256 : Nat) ^ (8 * (i / 64)) = 2 ^ (64 * (i / 64)) := by
    rw [show (256 : Nat) = 2 ^ 8 from rfl, ← Nat.pow_mul]
    congr 1
    omega
  have h2 : 2 ^ i = 2 ^ (64 * (i / 64)) * 2 ^ (i % 64) := by rw [← Nat.pow_add, Nat.div_add_mod]
  rw [h1, h2, ← Nat.div_div_eq_div_mul]
  generalize x.nat / 2 ^ (64 * (i / 64)) = n
  obtain ⟨v, hv, ht, hM⟩ := pow_s (i % 64) (Nat.mod_lt _ (by decide))
  rw [hM, Nat.mul_comm 2, Nat.mul_assoc, Nat.mod_mul_right_div_self]
  exact Nat.mod_mul_right_mod _ _ _
/-- what the round with n bits to come finds -/
structure RD (a k n : Nat) (q : U4) (r : Nat) : Prop where
  q : q = ofN (a / 2 ^ n / k * 2 ^ n)
  r : r = a / 2 ^ n % k
theorem RD.start {a k : Nat} (ha : a < top) : RD a k 256 U4.zero 0 := by
  have h : a / 2 ^ 256 = 0 := Nat.div_eq_of_lt ha
  exact ⟨by rw [h, Nat.zero_div, Nat.zero_mul]; rfl, by rw [h, Nat.zero_mod]⟩
theorem RD.lt {a k n : Nat} {q : U4} {r : Nat} (h : RD a k n q r) (hk : 0 < k) : r < k := by rw [h.r]; exact Nat.mod_lt _ hk
theorem rd_core {P k r b : Nat} (hk : 0 < k) (hr : r = P % k) : (2 * r + b < k → (2 * P + b) / k = 2 * (P / k) ∧ (2 * P + b) % k = 2 * r + b) ∧ (b < 2 → k ≤ 2 * r + b → (2 * P + b) / k = 2 * (P / k) + 1 ∧ (2 * P + b) % k = 2 * r + b - k) := by
  have hd := Nat.div_add_mod P k
  have hlt := Nat.mod_lt P hk
  rw [← hr] at hd hlt
  have e : 2 * P + b = k * (2 * (P / k)) + (2 * r + b) := by rw [Nat.mul_left_comm]; omega
  refine ⟨fun hb => ?_, fun hb2 hb => ?_⟩
  · rw [e]
    exact ⟨by rw [Nat.mul_add_div hk, Nat.div_eq_of_lt hb, Nat.add_zero], by rw [Nat.mul_add_mod, Nat.mod_eq_of_lt hb]⟩
  · have e2 : 2 * r + b = k * 1 + (2 * r + b - k) := by omega
    have e3 : 2 * P + b = k * (2 * (P / k) + 1) + (2 * r + b - k) := by rw [Nat.mul_add]; omega
    have h4 : 2 * r + b - k < k := by omega
    rw [e3]
    exact ⟨by rw [Nat.mul_add_div hk, Nat.div_eq_of_lt h4, Nat.add_zero], by rw [Nat.mul_add_mod, Nat.mod_eq_of_lt h4]⟩
theorem RD.no {a k i : Nat} {q : U4} {r : Nat} (h : RD a k (i + 1) q r) (hk : 0 < k) (hb : 2 * r + a / 2 ^ i % 2 < k) : RD a k i q (2 * r + a / 2 ^ i % 2) := by
  obtain ⟨e1, e2⟩ := (rd_core (b := a / 2 ^ i % 2) hk h.r).1 hb
  rw [← halfD] at e1 e2
  refine ⟨?_, e2.symm⟩
  rw [e1, h.q, Nat.pow_succ]
  congr 1
  rw [Nat.mul_comm 2 _, Nat.mul_assoc, Nat.mul_comm 2 (2 ^ i)]
theorem RD.yes {a k i : Nat} {q : U4} {r : Nat} (h : RD a k (i + 1) q r) (hk : 0 < k) (hb : k ≤ 2 * r + a / 2 ^ i % 2) : RD a k i (ofN (a / 2 ^ (i + 1) / k * 2 ^ (i + 1) + 2 ^ i)) (2 * r + a / 2 ^ i % 2 - k) ∧ a / 2 ^ (i + 1) / k * 2 ^ (i + 1) + 2 ^ i ≤ a := by
  obtain ⟨e1, e2⟩ := (rd_core (b := a / 2 ^ i % 2) hk h.r).2 (Nat.mod_lt _ (by decide)) hb
  rw [← halfD] at e1 e2
  have e3 : a / 2 ^ i / k * 2 ^ i = a / 2 ^ (i + 1) / k * 2 ^ (i + 1) + 2 ^ i := by
    rw [e1, Nat.add_mul, Nat.one_mul, Nat.pow_succ, Nat.mul_comm 2 (a / (2 ^ i * 2) / k), Nat.mul_assoc, Nat.mul_comm 2 (2 ^ i)]
  refine ⟨⟨by rw [e3], e2.symm⟩, ?_⟩
  rw [← e3]
  exact Nat.le_trans (Nat.mul_le_mul_right _ (Nat.div_le_self _ _)) (Nat.div_mul_le_self _ _)
theorem RD.done {a k : Nat} {q : U4} {r : Nat} (h : RD a k 0 q r) : q = ofN (a / k) ∧ r = a % k := by
  obtain ⟨h1, h2⟩ := h
  rw [Nat.pow_zero, Nat.div_one] at h1 h2
  rw [Nat.mul_one] at h1
  exact ⟨h1, h2⟩
theorem or_bit (c s e : Nat) (hs : s < 64) (hc : c = 2 ^ (s + 1) * e) (hl : c + 2 ^ s < 18446744073709551616) : bits .or .u64 (c : Int) ((2 ^ s : Nat) : Int) = ((c + 2 ^ s : Nat) : Int) := by
  have hor := Nat.two_pow_add_eq_or_of_lt (i := s + 1) (b := 2 ^ s) (Nat.pow_lt_pow_right (by decide) (Nat.lt_succ_self s)) e
  generalize 2 ^ s = t at *
  rw [bits_or_u64_nat _ _ (by omega) (by omega)]
  congr 1
  rw [hc, ← hor]
theorem or_one (c b : Nat) (hb : b < 2) (hc : c % 2 = 0) (hl : c + b < 18446744073709551616) : bits .or .u64 (c : Int) (b : Int) = ((c + b : Nat) : Int) := by
  have hor := Nat.two_pow_add_eq_or_of_lt (i := 1) (b := b) (by omega) (c / 2)
  rw [bits_or_u64_nat _ _ (by omega) (by omega)]
  congr 1
  rw [show c = 2 ^ 1 * (c / 2) by omega, ← hor]
theorem and1D (n : Nat) (h : n < 18446744073709551616) : bits .and .u64 (n : Int) 1 = ((n % 2 : Nat) : Int) := by
  have h1 : (BitVec.ofInt 64 (n : Int)).toNat = n := by
    rw [BitVec.ofInt_natCast, BitVec.toNat_ofNat]; exact Nat.mod_eq_of_lt (by omega)
  show IntKind.u64.wrap ((BitVec.ofInt 64 (n : Int) &&& BitVec.ofInt 64 1).toNat : Int) = _
  rw [BitVec.toNat_and, h1, show (BitVec.ofInt 64 1).toNat = 2 ^ 1 - 1 from rfl, Nat.and_two_pow_sub_one_eq_mod, IntKind.wrap_u64]
  omega
set_option maxRecDepth 100000 in
set_option maxHeartbeats 4000000 in
theorem rdiv_any (x : U4) (k : Nat) (w : World) (hx : x.ok) (hk : k < 18446744073709551616) : Calls Tryz.prog 147 #[x.val, .int .u64 (k : Int)] w fun e w' => e = .returned (.tuple #[(if k = 0 then U4.zero else ofN (x.nat / k)).val, .int .u64 ((if k = 0 then 0 else x.nat % k : Nat) : Int)]) ∧ Below w.heap.size w w' := by
  have HX := Lib.hid hx
  obtain ⟨hl1, hl2, hbb⟩ := two w x.cells U4.zero.cells
  unfold U4.val
  by_cases h0 : k = 0
  · subst h0
    obtain ⟨d0, d1, d2, d3⟩ := hl2.all
    have HB := Lib.hid hbb
    clear hl1 hl2 hbb
    go_enter Tryz.func147, Tryz.ntmps147
    go_wp2_with fail
    refine bodyPost_ret (v := .tuple #[.agg U4.zero.cells, .int .u64 0]) ?_ rfl ⟨?_, ?_⟩
    · simp [results, Tryz.results147, go_sem, U4.cells, U4.zero, d0, d1, d2, d3]
    · rfl
    · exact HB.out
  · have hz : ((k : Int) == 0) = false := by simp; omega
    have hk0 : 0 < k := by omega
    rw [if_neg h0, if_neg h0]
    have HZ : Hid (LBlk (((w.alloc (.cells x.cells 25)).alloc (.cells U4.zero.cells 25)).alloc (.cells U4.zero.cells 25)) w.heap.size x.cells ∧ LBlk (((w.alloc (.cells x.cells 25)).alloc (.cells U4.zero.cells 25)).alloc (.cells U4.zero.cells 25)) (w.heap.size + 1) U4.zero.cells ∧ LBlk (((w.alloc (.cells x.cells 25)).alloc (.cells U4.zero.cells 25)).alloc (.cells U4.zero.cells 25)) (w.heap.size + 2) U4.zero.cells ∧ Below w.heap.size w (((w.alloc (.cells x.cells 25)).alloc (.cells U4.zero.cells 25)).alloc (.cells U4.zero.cells 25))) := Lib.hid ⟨hl1.alloc _, hl2.alloc _, by
      have h := LBlk.new ((w.alloc (.cells x.cells 25)).alloc (.cells U4.zero.cells 25)) U4.zero.cells
      simpa using h, hbb.alloc hbb.size _⟩
    clear hl1 hl2 hbb
    go_enter Tryz.func147, Tryz.ntmps147
    go_wp2_with fail
    go_loopw [7, 8] (fun rv iv wr => ∃ (n : Nat) (q : U4) (r : Nat), n ≤ 256 ∧ rv = .int .u64 (r : Int) ∧ iv = .int .i64 ((n : Int) - 1) ∧ RD x.nat k n q r ∧ LBlk wr w.heap.size x.cells ∧ LBlk wr (w.heap.size + 1) U4.zero.cells ∧ LBlk wr (w.heap.size + 2) q.cells ∧ Below w.heap.size w wr)
      (fun _ iv _ => (intOf iv + 1).toNat)
    case atStart => exact ⟨256, U4.zero, 0, by omega, rfl, rfl, RD.start (nat_lt HX.out), HZ.out.1, HZ.out.2.1, HZ.out.2.2.1, HZ.out.2.2.2⟩
    case round =>
      clear HZ
      obtain ⟨n, q, r, hn, rfl, rfl, hrd, hb0, hb1, hb2, hbl⟩ := hrel
      cases n with
      | zero =>
        obtain ⟨e1, e2⟩ := hrd.done
        subst e1 e2
        obtain ⟨c0, c1, c2, c3⟩ := hb2.all
        obtain ⟨d0, d1, d2, d3⟩ := hb1.all
        have f0 := hb1.free 0
        have f1 := hb1.free 1
        have f2 := hb1.free 2
        have f3 := hb1.free 3
        have BB := Lib.hid hbl
        obtain ⟨s, hs⟩ : ∃ s, s = ofN (x.nat / k) := ⟨_, rfl⟩
        rw [← hs] at c0 c1 c2 c3
        have HS := Lib.hid hs
        clear hbl hb0 hb1 hb2 hs hrd
        go_wp2_with fail
        refine bodyPost_ret (v := .tuple #[.agg s.cells, .int .u64 ((x.nat % k : Nat) : Int)]) ?_ rfl ⟨by rw [HS.out], ?_⟩
        · simp [results, Tryz.results147, go_sem, U4.cells, d0, d1, d2, d3]
        · have hg : w.heap.size ≤ w.heap.size + 1 := by omega
          exact (((BB.out.setCell hg _).setCell hg _).setCell hg _).setCell hg _
      | succ m =>
        have hm : m < 256 := by omega
        rw [show ((m + 1 : Nat) : Int) - 1 = (m : Int) by omega]
        have m1 : (0 : Int) ≤ (m : Int) := by omega
        have m2 : (m : Int) < 256 := by omega
        have hrl := hrd.lt hk0
        have e1 := (blk_cell hb0 (m / 64)).trans (U4.cell_at x (by omega))
        have e2 := (blk_cell hb2 (m / 64)).trans (U4.cell_at q (by omega))
        have e3 := blk_free hb2 (m / 64)
        have m8 : (m : Int) / 64 < 4 := by omega
        have m80 : (0 : Int) ≤ (m : Int) / 64 := by omega
        have w1 : IntKind.i64.wrap ((m : Int) / 64) = (m : Int) / 64 := IntWalk.i64_in _ (by omega)
        have w2 : (m : Int).tmod 64 = (m : Int) % 64 := Int.tmod_eq_emod_of_nonneg (by omega)
        have w3 : IntKind.i64.wrap ((m : Int) % 64) = (m : Int) % 64 := IntWalk.i64_in _ (by omega)
        have w5 : (m : Int).tdiv 64 = (m : Int) / 64 := Int.tdiv_eq_ediv_of_nonneg (by omega)
        have w6 : ((m : Int) / 64).toNat = m / 64 := by omega
        have w7 : IntKind.u64.wrap ((m : Int) % 64) = (m : Int) % 64 := by rw [IntKind.wrap_u64]; omega
        have HRD := Lib.hid hrd
        have HBS := Lib.hid (And.intro hb0 (And.intro hb1 (And.intro hb2 hbl)))
        clear hrd hb0 hb1 hb2 hbl
        have hbx := at_bit HX.out m hm
        have hb2 : x.nat / 2 ^ m % 2 < 2 := Nat.mod_lt _ (by decide)
        have hand : bits .and .u64 ((x.at (m / 64) : Int) / 2 ^ (m % 64)) 1 = ((x.nat / 2 ^ m % 2 : Nat) : Int) := by
          rw [← hbx, show ((x.at (m / 64) : Int) / 2 ^ (m % 64)) = ((x.at (m / 64) / 2 ^ (m % 64) : Nat) : Int) by push_cast; rfl]
          exact and1D _ (Nat.lt_of_le_of_lt (Nat.div_le_self _ _) (at_lt' HX.out _))
        have hy : k ≤ 2 * r + x.nat / 2 ^ m % 2 → ∃ q', RD x.nat k m q' (2 * r + x.nat / 2 ^ m % 2 - k) ∧ LBlk (wr.setCell ⟨w.heap.size + 1 + 1, m / 64, none⟩ (.int .u64 (bits .or .u64 (q.at (m / 64) : Int) (IntKind.u64.wrap (2 ^ (m % 64)))))) (w.heap.size + 2) q'.cells := fun hle => by
          obtain ⟨g1, g2⟩ := HRD.out.yes hk0 hle
          have hq := HRD.out.q
          have hlt := Nat.lt_of_le_of_lt g2 (nat_lt HX.out)
          obtain ⟨s1, ⟨e, s2⟩, s3⟩ := bit_step _ m hm hlt
          rw [← hq] at s1 s2 s3
          refine ⟨_, g1, ?_⟩
          have hs : m % 64 < 64 := Nat.mod_lt _ (by decide)
          have hor := or_bit _ (m % 64) e hs s2 s3
          have hwp : IntKind.u64.wrap ((2 : Int) ^ (m % 64)) = ((2 ^ (m % 64) : Nat) : Int) := by
            rw [show ((2 : Int) ^ (m % 64)) = ((2 ^ (m % 64) : Nat) : Int) by push_cast; rfl, IntKind.wrap_u64]
            generalize 2 ^ (m % 64) = t at *
            omega
          rw [hwp, hor, s1]
          exact HBS.out.2.2.1.set_ (m / 64) _
        have HY := Lib.hid hy
        have HB2 := Lib.hid hb2
        have hno := fun h => HRD.out.no (i := m) hk0 h
        have HNO := Lib.hid hno
        rw [show (2 : Nat) = 2 from rfl] at hand
        clear hbx hy hb2 hno HRD
        generalize x.nat / 2 ^ m % 2 = b at *
        have hb2 := HB2.out
        have hor1 : ¬ (r : Int) / 9223372036854775808 = 1 → bits .or .u64 ((r : Int) * 2) (b : Int) = ((2 * r + b : Nat) : Int) := fun h => by
          have h' := or_one (2 * r) b hb2 (by omega) (by omega)
          rw [← h']
          congr 1
          omega
        have hor2 : (r : Int) / 9223372036854775808 = 1 → bits .or .u64 (IntKind.u64.wrap ((r : Int) * 2)) (b : Int) = ((2 * r + b : Nat) : Int) - 18446744073709551616 := fun h => by
          have h' := or_one (2 * r - 18446744073709551616) b hb2 (by omega) (by omega)
          rw [show IntKind.u64.wrap ((r : Int) * 2) = ((2 * r - 18446744073709551616 : Nat) : Int) by rw [IntKind.wrap_u64]; omega, h']
          omega
        have HO1 := Lib.hid hor1
        have HO2 := Lib.hid hor2
        clear hor1 hor2
        go_wp2_with fail
        · rename_i hh
          obtain ⟨q', g1, g2⟩ := HY.out (by omega)
          refine ⟨⟨m, q', 2 * r + b - k, by omega, ?_, rfl, g1, HBS.out.1.far (by omega) _ _, HBS.out.2.1.far (by omega) _ _, g2, HBS.out.2.2.2.setCell (show w.heap.size ≤ w.heap.size + 1 + 1 by omega) _⟩, by (simp [intOf]; try omega)⟩
          congr 1
          rw [HO2.out hh, IntKind.wrap_u64]
          omega
        · rename_i hn1 hh
          rw [HO1.out hn1] at hh ⊢
          have hle : k ≤ 2 * r + b := by
            rcases hh with hh | hh
            · exact absurd (by simpa using hh) hn1
            · omega
          obtain ⟨q', g1, g2⟩ := HY.out hle
          refine ⟨⟨m, q', 2 * r + b - k, by omega, ?_, rfl, g1, HBS.out.1.far (by omega) _ _, HBS.out.2.1.far (by omega) _ _, g2, HBS.out.2.2.2.setCell (show w.heap.size ≤ w.heap.size + 1 + 1 by omega) _⟩, by (simp [intOf]; try omega)⟩
          congr 1
          rw [IntKind.wrap_u64]
          omega
        · rename_i hn1 hh
          rw [HO1.out hn1] at hh ⊢
          have hlt : 2 * r + b < k := by omega
          exact ⟨⟨m, q, 2 * r + b, by omega, rfl, rfl, HNO.out hlt, HBS.out.1, HBS.out.2.1, HBS.out.2.2.1, HBS.out.2.2.2⟩, by (simp [intOf]; try omega)⟩
end Go.Proofs.YtpcoonnfaoakhaaGreatDoor
namespace Go.Proofs.YtpcoonnfaoakhaaGreatDoor
set_option maxRecDepth 100000
open Go Go.RowKit
set_option linter.unusedVariables false

set_option maxHeartbeats 1000000 in
theorem rzeroD_any (x : U4) (w : World) : Calls Tryz.prog 146 #[x.val] w fun e w' => e = .returned (.bool (eqB x U4.zero)) ∧ Below w.heap.size w w' := by
  have q : ∀ W, (binOp .eql 25 (.agg #[.int .u64 (x.a : Int), .int .u64 (x.b : Int), .int .u64 (x.c : Int), .int .u64 (x.d : Int)]) (.agg #[.int .u64 0, .int .u64 0, .int .u64 0, .int .u64 0])).run Tryz.prog W = .ok (.bool (eqB x U4.zero)) W := fun W => eql4 x U4.zero W
  have ha0 : Below w.heap.size w (w.alloc (.cells x.cells 25)) := (Below.refl _ _).alloc (Nat.le_refl _) _
  have hU := LBlk.new w x.cells
  obtain ⟨z0, z1, z2, z3⟩ := LBlk.all (s := x) hU
  clear hU
  generalize eqB x U4.zero = r at *
  unfold U4.val U4.cells at *
  go_enter Tryz.func146, Tryz.ntmps146
  go_wp2_with fail
  go_ret
  exact ⟨rfl, ha0⟩
def decB' (n : Nat) : ByteArray := ⟨(Lib.decDigits n).toArray⟩
theorem dec_small {n : Nat} (h : n < 10) : Lib.decDigits n = [UInt8.ofNat (48 + n)] := by rw [Lib.decDigits, dif_pos h]
theorem dec_big {n : Nat} (h : ¬ n < 10) : Lib.decDigits n = Lib.decDigits (n / 10) ++ [UInt8.ofNat (48 + n % 10)] := by rw [Lib.decDigits, dif_neg h]
theorem dec_pos (n : Nat) : 1 ≤ (Lib.decDigits n).length := by
  by_cases h : n < 10
  · rw [dec_small h]; exact Nat.le_refl _
  · rw [dec_big h]; simp
/-- what the loop finds: what is yet to be written, and what stands -/
def PRs (N n : Nat) (s : List UInt8) : Prop := (s = [] ∧ n = N) ∨ (s ≠ [] ∧ n = 0 ∧ s = Lib.decDigits N) ∨ (s ≠ [] ∧ n ≠ 0 ∧ Lib.decDigits n ++ s = Lib.decDigits N)
theorem PRs.more {N n : Nat} {s : List UInt8} (h : PRs N n s) (hc : s = [] ∨ n ≠ 0) : PRs N (n / 10) (UInt8.ofNat (48 + n % 10) :: s) ∧ s.length < (Lib.decDigits N).length := by
  have hd : Lib.decDigits n ++ s = Lib.decDigits N := by
    rcases h with ⟨h1, h2⟩ | ⟨h1, h2, -⟩ | ⟨-, -, h3⟩
    · rw [h1, h2, List.append_nil]
    · rcases hc with hc | hc
      · exact absurd hc h1
      · exact absurd h2 hc
    · exact h3
  have hl := congrArg List.length hd
  rw [List.length_append] at hl
  have hp := dec_pos n
  refine ⟨?_, by omega⟩
  by_cases h10 : n < 10
  · rw [dec_small h10] at hd
    refine .inr (.inl ⟨by simp, by omega, ?_⟩)
    rw [← hd, Nat.mod_eq_of_lt h10]
    rfl
  · rw [dec_big h10, List.append_assoc] at hd
    exact .inr (.inr ⟨by simp, by omega, hd⟩)
theorem PRs.end_ {N n : Nat} {s : List UInt8} (h : PRs N n s) (h1 : s ≠ []) (h2 : n = 0) : s = Lib.decDigits N := by
  rcases h with ⟨h, -⟩ | ⟨-, -, h⟩ | ⟨-, h, -⟩
  · exact absurd h h1
  · exact h
  · exact absurd h2 h
theorem nDig_le : ∀ (k u : Nat), u < 10 ^ (k + 1) → Lib.nDigits u ≤ k + 1
  | 0, u, h => by rw [Lib.nDigits_small (by simpa using h)]; exact Nat.le_refl _
  | k + 1, u, h => by
    by_cases h1 : u < 10
    · rw [Lib.nDigits_small h1]; omega
    · rw [Lib.nDigits_big h1]
      have := nDig_le k (u / 10) (by rw [Nat.pow_succ] at h; omega)
      omega
theorem dec_le {n : Nat} (h : n < top) : (Lib.decDigits n).length ≤ 78 := by
  rw [Lib.decDigits_length]
  exact nDig_le 77 n (Nat.lt_of_lt_of_le h (by decide))
theorem digitP_cut (r : Nat) (h : r < 10) : (⟨#[48, 49, 50, 51, 52, 53, 54, 55, 56, 57]⟩ : ByteArray).extract r (r + 1) = ⟨#[UInt8.ofNat (48 + r)]⟩ := by
  have : r = 0 ∨ r = 1 ∨ r = 2 ∨ r = 3 ∨ r = 4 ∨ r = 5 ∨ r = 6 ∨ r = 7 ∨ r = 8 ∨ r = 9 := by omega
  rcases this with rfl | rfl | rfl | rfl | rfl | rfl | rfl | rfl | rfl | rfl <;> decide +kernel
set_option maxHeartbeats 4000000 in
theorem rprint_any (x : U4) (w : World) (hx : x.ok) : Calls Tryz.prog 80 #[x.val] w fun e w' => e = .returned (.string ⟨(Lib.decDigits x.nat).toArray⟩) ∧ Below w.heap.size w w' := by
  have HX := Lib.hid hx
  have HB : Hid (LBlk (w.alloc (.cells x.cells 25)) w.heap.size x.cells ∧ Below w.heap.size w (w.alloc (.cells x.cells 25))) := Lib.hid ⟨LBlk.new w x.cells, (Below.refl _ _).alloc (Nat.le_refl _) _⟩
  unfold U4.val
  go_enter Tryz.func80, Tryz.ntmps80
  go_wp2_with fail
  go_loopw [4] (fun sv wr => ∃ (S : ByteArray) (q : U4), sv = .string S ∧ q.ok ∧ PRs x.nat q.nat S.data.toList ∧ LBlk wr w.heap.size q.cells ∧ Below w.heap.size w wr)
    (fun sv _ => (Lib.decDigits x.nat).length - (match sv with | .string s => s.data.toList.length | _ => 0))
  case atStart => exact ⟨⟨#[]⟩, x, rfl, HX.out, .inl ⟨rfl, rfl⟩, HB.out.1, HB.out.2⟩
  case round =>
    clear HB
    obtain ⟨S, q, rfl, hq, hpr, hb0, hbl⟩ := hrel
    obtain ⟨c0, c1, c2, c3⟩ := hb0.all
    have HZ := Lib.hid (fun W => rzeroD_any q W)
    unfold U4.val U4.cells at HZ
    have hdv := fun W => rdiv_any q 10 W hq (by decide)
    rw [if_neg (by decide), if_neg (by decide)] at hdv
    have hq2 : (ofN (q.nat / 10)).nat = q.nat / 10 := nat_ofN (Nat.lt_of_le_of_lt (Nat.div_le_self _ _) (nat_lt hq))
    have hq3 := ofN_ok (q.nat / 10)
    have hr : q.nat % 10 < 10 := Nat.mod_lt _ (by decide)
    have hmore := fun h => PRs.more hpr h
    rw [← hq2] at hmore
    generalize ofN (q.nat / 10) = q2 at *
    unfold U4.val U4.cells at hdv
    have HD := Lib.hid hdv
    have hcut := digitP_cut (q.nat % 10) hr
    obtain ⟨D, hD⟩ : ∃ D, D = UInt8.ofNat (48 + q.nat % 10) := ⟨_, rfl⟩
    rw [← hD] at hcut hmore
    have HMO := Lib.hid hmore
    have HEN := Lib.hid (fun h1 h2 => PRs.end_ hpr h1 h2)
    have HQ3 := Lib.hid hq3
    have HL := Lib.hid (And.intro hb0 hbl)
    have hz0 : eqB q U4.zero = true ↔ q.nat = 0 := by rw [eqB_iff, nat_zero]
    have HZ0 := Lib.hid hz0
    generalize q.nat % 10 = r at *
    have hr1 : (r : Int) < 10 := by omega
    clear hdv hq2 hq3 hb0 hbl hpr hq hmore hD hz0
    have HNX : Hid (∀ w1 : World, Below wr.heap.size wr w1 → LBlk (((((w1.alloc (.cells #[.int .u64 (q2.a : Int), .int .u64 (q2.b : Int), .int .u64 (q2.c : Int), .int .u64 (q2.d : Int)] 25)).setCell ⟨w.heap.size, 0, none⟩ (.int .u64 (q2.a : Int))).setCell ⟨w.heap.size, 1, none⟩ (.int .u64 (q2.b : Int))).setCell ⟨w.heap.size, 2, none⟩ (.int .u64 (q2.c : Int))).setCell ⟨w.heap.size, 3, none⟩ (.int .u64 (q2.d : Int))) w.heap.size q2.cells ∧
        Below w.heap.size w (((((w1.alloc (.cells #[.int .u64 (q2.a : Int), .int .u64 (q2.b : Int), .int .u64 (q2.c : Int), .int .u64 (q2.d : Int)] 25)).setCell ⟨w.heap.size, 0, none⟩ (.int .u64 (q2.a : Int))).setCell ⟨w.heap.size, 1, none⟩ (.int .u64 (q2.b : Int))).setCell ⟨w.heap.size, 2, none⟩ (.int .u64 (q2.c : Int))).setCell ⟨w.heap.size, 3, none⟩ (.int .u64 (q2.d : Int))) ∧
        LBlk (w1.alloc (.cells #[.int .u64 (q2.a : Int), .int .u64 (q2.b : Int), .int .u64 (q2.c : Int), .int .u64 (q2.d : Int)] 25)) w.heap.size q.cells) := Lib.hid fun w1 h1 => by
      have hbk := HL.out.1.below h1 HL.out.1.lt
      have hal := hbk.alloc (.cells #[.int .u64 (q2.a : Int), .int .u64 (q2.b : Int), .int .u64 (q2.c : Int), .int .u64 (q2.d : Int)] 25)
      have hg : w.heap.size ≤ w.heap.size := Nat.le_refl _
      have hbw := HL.out.2.trans (h1.mono HL.out.2.size)
      exact ⟨(((hal.set_ 0 _).set_ 1 _).set_ 2 _).set_ 3 _, ((((hbw.alloc hbw.size _).setCell hg _).setCell hg _).setCell hg _).setCell hg _, hal⟩
    have hcat : ∀ T : ByteArray, ((⟨#[D]⟩ : ByteArray) ++ T).data.toList = D :: T.data.toList := fun T => by simp [ByteArray.data_append]
    have HCAT := Lib.hid hcat
    clear hcat
    by_cases hs : S = ⟨#[]⟩
    · subst hs
      have hmo := HMO.out (.inl rfl)
      go_wp2_with fail
      refine (HD.out _).mono ?_
      rintro e w1 ⟨rfl, hb1⟩
      obtain ⟨g1, g2, g3⟩ := HNX.out w1 hb1
      obtain ⟨c0, c1, c2, c3⟩ := g3.all
      have f0 := g3.free 0
      have f1 := g3.free 1
      have f2 := g3.free 2
      have f3 := g3.free 3
      have HG := Lib.hid (And.intro g1 g2)
      have HM := Lib.hid hmo
      clear g1 g2 g3 hmo hb1 HNX HMO HEN HL HZ HD
      go_wp2_with fail
      refine ⟨⟨_, q2, rfl, HQ3.out, ?_, HG.out.1, HG.out.2⟩, ?_⟩
      · rw [HCAT.out]; exact HM.out.1
      · show _ - (((⟨#[D]⟩ : ByteArray) ++ ⟨#[]⟩).data.toList.length) < _
        rw [HCAT.out]
        have := HM.out.2
        simp at this ⊢
        omega
    · have hse : (S.toList == ([] : List UInt8)) = false := by
        rw [ByteArray.toList_eq]
        simp only [beq_eq_false_iff_ne]
        intro e
        exact hs (ByteArray.ext (by simpa using congrArg List.toArray e))
      have hsl : S.data.toList ≠ [] := fun e => hs (ByteArray.ext (by simpa using congrArg List.toArray e))
      have HSL := Lib.hid hsl
      clear hs hsl
      go_wp2_with fail
      refine (HZ.out _).mono ?_
      rintro e w1 ⟨rfl, hb1⟩
      by_cases hz : eqB q U4.zero = true
      · rw [hz]
        have hfin := HEN.out HSL.out (HZ0.out.1 hz)
        have hbl := HL.out.2.trans (hb1.mono HL.out.2.size)
        clear HNX HMO HEN HL HZ HD hb1 hz
        go_wp2_with fail
        go_ret
        have e : (⟨S.data.toList.toArray⟩ : ByteArray) = S := by cases S; simp
        refine ⟨?_, hbl⟩
        rw [← hfin, e]
        rfl
      · have hzf : eqB q U4.zero = false := by simpa using hz
        rw [hzf]
        have hmo := HMO.out (.inr fun e => hz (HZ0.out.2 e))
        obtain ⟨c0, c1, c2, c3⟩ := (HL.out.1.below hb1 HL.out.1.lt).all
        have HB1 := Lib.hid hb1
        have hsz : ¬ 9223372036854775807 < 1 + S.size := by
          have h1 := hmo.2
          have h2 := dec_le (nat_lt HX.out)
          have h3 : S.data.toList.length = S.size := by rw [Array.length_toList]; rfl
          omega
        clear hz hzf hb1
        go_wp2_with fail
        refine (HD.out _).mono ?_
        rintro e w2 ⟨rfl, hb2⟩
        obtain ⟨g1, g2, g3⟩ := HNX.out w2 (HB1.out.trans (hb2.mono HB1.out.size))
        obtain ⟨c0, c1, c2, c3⟩ := g3.all
        have f0 := g3.free 0
        have f1 := g3.free 1
        have f2 := g3.free 2
        have f3 := g3.free 3
        have HG := Lib.hid (And.intro g1 g2)
        have HM := Lib.hid hmo
        clear g1 g2 g3 hmo hb2 HNX HMO HEN HL HZ HD
        go_wp2_with fail
        refine ⟨⟨_, q2, rfl, HQ3.out, ?_, HG.out.1, HG.out.2⟩, ?_⟩
        · rw [HCAT.out]; exact HM.out.1
        · show _ - (((⟨#[D]⟩ : ByteArray) ++ S).data.toList.length) < _ - S.data.toList.length
          rw [HCAT.out]
          have := HM.out.2
          simp at this ⊢
          omega
end Go.Proofs.YtpcoonnfaoakhaaGreatDoor
