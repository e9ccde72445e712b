
/- The walk of math/bits.Div64. -/
import Derived.Test.YthiacmpkbioahaaDoorLimbC
import Derived.Test.YthiacmpkbioahaaDoorLimbD
import Derived.Laws.Bits64b
import Derived.LoopTactic
namespace Go.Proofs.YthiacmpkbioahaaDoor
open Go.RowKit

theorem bl_zero : Lib.bitLen 0 = 0 := by decide
theorem bl : ∀ (n x : Nat), x ≤ n → 0 < x → x < 18446744073709551616 → 2 ^ Lib.bitLen x ≤ 2 * x ∧ x < 2 ^ Lib.bitLen x
  | 0, x, h, h0, _ => by omega
  | n + 1, x, h, h0, hx => by
    have e := Lib.bitLen_half x (by omega) hx
    by_cases h1 : x = 1
    · subst h1; decide
    · obtain ⟨k1, k2⟩ := bl n (x / 2) (by omega) (by omega) (by omega)
      rw [e, Nat.add_comm, Nat.pow_succ]
      omega
/-- how far y is turned left, and what becomes of it -/
theorem norm (y : Nat) (h0 : 0 < y) (hy : y < 18446744073709551616) : ∃ s : Nat, s ≤ 63 ∧ (64 : Int) - (Lib.bitLen y : Int) = (s : Int) ∧ 9223372036854775808 ≤ y * 2 ^ s ∧ y * 2 ^ s < 18446744073709551616 := by
  obtain ⟨h1, h2⟩ := bl y y (Nat.le_refl _) h0 hy
  have h3 := Lib.bitLen_le y 64 (by omega) hy
  have h4 : Lib.bitLen y ≠ 0 := by intro e; rw [e] at h2; omega
  have e64 : 2 ^ Lib.bitLen y * 2 ^ (64 - Lib.bitLen y) = 18446744073709551616 := by rw [← Nat.pow_add, show Lib.bitLen y + (64 - Lib.bitLen y) = 64 by omega]
  have hp : 0 < 2 ^ (64 - Lib.bitLen y) := Nat.two_pow_pos _
  refine ⟨64 - Lib.bitLen y, by omega, by omega, ?_, ?_⟩
  · have := Nat.mul_le_mul_right (2 ^ (64 - Lib.bitLen y)) h1
    rw [e64, Nat.mul_assoc] at this
    omega
  · have := (Nat.mul_lt_mul_right hp).2 h2
    rw [e64] at this
    exact this
theorem or_add (h l s : Nat) (hl : l < 2 ^ s) (hb : h * 2 ^ s + l < 18446744073709551616) : bits .or .u64 ((h * 2 ^ s : Nat) : Int) (l : Int) = ((h * 2 ^ s + l : Nat) : Int) := by
  rw [bits_or_u64_nat _ _ (by omega) (by omega)]
  congr 1
  have := Nat.two_pow_add_eq_or_of_lt hl h
  rw [Nat.mul_comm h, this]

theorem wrap_nat {n : Nat} (h : n < 18446744073709551616) : IntKind.u64.wrap (n : Int) = (n : Int) := by rw [IntKind.wrap_u64]; omega
theorem wrap_mul (a b : Nat) (h : a * b < 18446744073709551616) : IntKind.u64.wrap ((a : Int) * (b : Int)) = ((a * b : Nat) : Int) := by
  rw [show (a : Int) * (b : Int) = ((a * b : Nat) : Int) from (Int.natCast_mul a b).symm]; exact wrap_nat h
theorem wrap_mod (a b : Nat) : IntKind.u64.wrap ((a : Int) * (b : Int)) = ((a * b % 18446744073709551616 : Nat) : Int) := by
  rw [show (a : Int) * (b : Int) = ((a * b : Nat) : Int) from (Int.natCast_mul a b).symm, IntKind.wrap_u64]; omega
theorem wrap_div (a b : Nat) (h : a < 18446744073709551616) : IntKind.u64.wrap ((a : Int) / (b : Int)) = ((a / b : Nat) : Int) := by
  have e : (a : Int) / (b : Int) = ((a / b : Nat) : Int) := rfl
  rw [e]; exact wrap_nat (Nat.lt_of_le_of_lt (Nat.div_le_self _ _) h)

theorem wrap_lit (a : Nat) : IntKind.u64.wrap ((a : Int) * 4294967296) = ((a * 4294967296 % 18446744073709551616 : Nat) : Int) := by rw [IntKind.wrap_u64]; omega
theorem wrap_add (a b : Nat) : IntKind.u64.wrap ((a : Int) + (b : Int)) = (((a + b) % 18446744073709551616 : Nat) : Int) := by rw [IntKind.wrap_u64]; omega
/-- what is left of one digit's step, in 64 bits -/
theorem wrap_left {A C R d ub ud qv : Nat} (h : A + d = C + R) (hR : R < 18446744073709551616) (h1 : ub = A % 18446744073709551616) (h2 : ud = (ub + d) % 18446744073709551616) (h3 : qv = C % 18446744073709551616) :
    IntKind.u64.wrap ((ud : Int) - (qv : Int)) = (R : Int) := by rw [IntKind.wrap_u64]; omega

set_option maxRecDepth 100000 in
set_option maxHeartbeats 2000000 in
theorem div64_any (hi lo y : Nat) (w : World) (hlo : lo < 18446744073709551616) (hy : hi < y) (hy2 : y < 18446744073709551616) :
    Calls Tryd.prog 38 #[.int .u64 (hi : Int), .int .u64 (lo : Int), .int .u64 (y : Int)] w fun e w' => e = .returned (.tuple #[.int .u64 (((hi * 18446744073709551616 + lo) / y : Nat) : Int), .int .u64 (((hi * 18446744073709551616 + lo) % y : Nat) : Int)]) ∧ ∃ n, w' = w.drewN n := by
  have q1 : ((y : Int) == 0) = false := by rw [beq_eq_false_iff_ne]; omega
  have q2 : ¬ (y : Int) ≤ (hi : Int) := by omega
  have q3 : (hi : Int) < (y : Int) := by omega
  by_cases h0 : hi = 0
  · subst h0
    have q4 : (0 : Int) < (y : Int) := by omega
    rw [Nat.zero_mul, Nat.zero_add]
    go_enter Tryd.func38, Tryd.ntmps38
    go_wp2
    go_quiet (fail)
    go_wp2
    go_ret2
    refine ⟨?_, _, rfl⟩
    have hw : IntKind.u64.wrap ((lo : Int) / (y : Int)) = ((lo / y : Nat) : Int) := by
      have e : (lo : Int) / (y : Int) = ((lo / y : Nat) : Int) := rfl
      rw [e]
      exact wrap_nat (Nat.lt_of_le_of_lt (Nat.div_le_self lo y) hlo)
    show Ending.returned (.tuple #[.int .u64 (IntKind.u64.wrap ((lo : Int) / (y : Int))), .int .u64 ((lo : Int) % (y : Int))]) = _
    rw [hw]
    rfl
  · have b1 : ((hi : Int) == 0) = false := by rw [beq_eq_false_iff_ne]; omega
    have hl := (Tryd.bits_LeadingZeros64 (y : Int) · (by omega) (by omega))
    obtain ⟨s, hs, hsz, hv1, hv2⟩ := norm y (by omega) hy2
    rw [Int.toNat_natCast] at hl
    rw [hsz] at hl
    obtain ⟨p1, p2, p3, p4⟩ := parts hy hs hlo hv2
    have hor := or_add hi (lo / 2 ^ (64 - s)) s p3 (by omega)
    obtain ⟨sh1, sh2⟩ := shifted (n := hi * 18446744073709551616 + lo) (s := s) (y := y) (by omega)
    have HS := Lib.hid (And.intro sh1 sh2)
    have HL := Lib.hid hl
    have HP := Lib.hid p2
    clear hl sh1 sh2 p2
    obtain ⟨P, hP⟩ : ∃ P : Nat, P = 2 ^ s := ⟨_, rfl⟩
    obtain ⟨R, hR⟩ : ∃ R : Nat, R = 2 ^ (64 - s) := ⟨_, rfl⟩
    have eP : (2 : Int) ^ s = (P : Int) := by rw [hP]; push_cast; rfl
    have eR : (2 : Int) ^ (64 - s) = (R : Int) := by rw [hR]; push_cast; rfl
    rw [← hP, ← hR] at hor p3 p4
    rw [← hP] at p1 hv1 hv2 HS HP
    rw [← hR] at HP
    obtain ⟨v, hv⟩ : ∃ v, v = y * P := ⟨_, rfl⟩
    obtain ⟨h, hh⟩ : ∃ h, h = hi * P := ⟨_, rfl⟩
    obtain ⟨l, hl⟩ : ∃ l, l = lo / R := ⟨_, rfl⟩
    obtain ⟨u, hu⟩ : ∃ u, u = h + l := ⟨_, rfl⟩
    obtain ⟨w1, hw1⟩ : ∃ w1, w1 = lo * P % 18446744073709551616 := ⟨_, rfl⟩
    have E1 := wrap_mul y P hv2
    have E4 := wrap_mul hi P p1
    have E5 : (lo : Int) / (R : Int) = ((lo / R : Nat) : Int) := rfl
    have E7 := wrap_mod lo P
    rw [← hv] at E1 hv1 hv2 HS p4
    rw [← hh] at E4 p1 hor p4 HP
    rw [← hl] at E5 hor p3 p4 HP
    rw [← hu] at hor p4 HP
    rw [← hw1] at E7 HP
    have hw1l : w1 < 18446744073709551616 := by rw [hw1]; exact Nat.mod_lt _ (by decide)
    have G1 := Lib.hid (And.intro hv (And.intro hh (And.intro hl (And.intro hu (And.intro hw1 (And.intro hP hR))))))
    clear hv hh hl hu hw1 hP hR
    obtain ⟨v1, hv1e⟩ : ∃ v1, v1 = v / 4294967296 := ⟨_, rfl⟩
    obtain ⟨v0, hv0e⟩ : ∃ v0, v0 = v % 4294967296 := ⟨_, rfl⟩
    obtain ⟨d1, hd1e⟩ : ∃ d1, d1 = w1 / 4294967296 := ⟨_, rfl⟩
    obtain ⟨d0, hd0e⟩ : ∃ d0, d0 = w1 % 4294967296 := ⟨_, rfl⟩
    have E2 : (v : Int) / 4294967296 = (v1 : Int) := by omega
    have E3 := Mul64.maskN v hv2
    have E8 : (w1 : Int) / 4294967296 = (d1 : Int) := by omega
    have E9 := Mul64.maskN w1 hw1l
    rw [← hv0e] at E3
    rw [← hd0e] at E9
    have k1 : 2147483648 ≤ v1 := by omega
    have k2 : v1 < 4294967296 := by omega
    have k3 : v0 < 4294967296 := by omega
    have k4 : d1 < 4294967296 := by omega
    have k5 : d0 < 4294967296 := by omega
    have hvv : v = v1 * 4294967296 + v0 := by omega
    have hww : w1 = d1 * 4294967296 + d0 := by omega
    have hul : u < v1 * 4294967296 + v0 := by omega
    have DS := Lib.hid (digit_start k1 k2 hul k3 k4)
    have hqs := wrap_div u v1 (by omega)
    have hqm : u / v1 * v1 ≤ u := Nat.div_mul_le_self u v1
    have hqm2 : u = u / v1 * v1 + u % v1 := by rw [Nat.mul_comm]; exact (Nat.div_add_mod u v1).symm
    have E10 := wrap_mul (u / v1) v1 (by omega)
    have E11 : (u : Int) - ((u / v1 * v1 : Nat) : Int) = ((u % v1 : Nat) : Int) := by omega
    generalize hqa : u / v1 = qa at *
    generalize hra : u % v1 = ra at *
    generalize hma : qa * v1 = ma at *
    have k6 : (ma : Int) ≤ (u : Int) := by omega
    have k7 : (v1 : Int) ≠ 0 := by omega
    obtain ⟨Q1, hQ1⟩ : ∃ Q1, Q1 = (u * 4294967296 + d1) / v := ⟨_, rfl⟩
    obtain ⟨R1, hR1⟩ : ∃ R1, R1 = (u * 4294967296 + d1) % v := ⟨_, rfl⟩
    have hQl : Q1 < 4294967296 := by rw [hQ1, hvv]; exact digit_lt k1 hul k4
    have hRl : R1 < v := by rw [hR1]; exact Nat.mod_lt _ (by omega)
    have hQR : u * 4294967296 + d1 = Q1 * v + R1 := by rw [hQ1, hR1]; exact (Nat.div_add_mod' _ _).symm
    have HQ1 := Lib.hid hQ1
    have HQR := Lib.hid hQR
    have hR1l : R1 < v1 * 4294967296 + v0 := by omega
    clear hQ1 hR1 hQR
    have G2 := Lib.hid (And.intro hvv (And.intro hww (And.intro hqa (And.intro hra hma))))
    clear hvv hww hqa hra hma hqm hqm2 hv1e hv0e hd1e hd0e
    obtain ⟨ub, hub⟩ : ∃ ub, ub = u * 4294967296 % 18446744073709551616 := ⟨_, rfl⟩
    obtain ⟨ud, hud⟩ : ∃ ud, ud = (ub + d1) % 18446744073709551616 := ⟨_, rfl⟩
    obtain ⟨qv, hqv⟩ : ∃ qv, qv = Q1 * v % 18446744073709551616 := ⟨_, rfl⟩
    have F3 := wrap_lit u
    have F4 := wrap_add ub d1
    have F5 := wrap_mod Q1 v
    have F6 := wrap_left HQR.out (by omega) hub hud hqv
    rw [← hub] at F3
    rw [← hud] at F4
    rw [← hqv] at F5
    obtain ⟨qb, hqb⟩ : ∃ qb, qb = R1 / v1 := ⟨_, rfl⟩
    obtain ⟨rb, hrb⟩ : ∃ rb, rb = R1 % v1 := ⟨_, rfl⟩
    obtain ⟨mb, hmb⟩ : ∃ mb, mb = qb * v1 := ⟨_, rfl⟩
    have hmr : mb + rb = R1 := by rw [hmb, hqb, hrb]; exact Nat.div_add_mod' _ _
    have F7 := wrap_div R1 v1 (by omega)
    have F8 := wrap_mul qb v1 (by rw [← hmb]; omega)
    rw [← hqb] at F7
    rw [← hmb] at F8
    have F9 : (R1 : Int) - (mb : Int) = (rb : Int) := by omega
    have F10 : (mb : Int) ≤ (R1 : Int) := by omega
    have F10w := wrap_nat (n := rb) (by omega)
    have DS2 := Lib.hid (digit_start k1 k2 hR1l k3 k5)
    rw [← hqb, ← hrb] at DS2
    obtain ⟨Q0, hQ0⟩ : ∃ Q0, Q0 = (R1 * 4294967296 + d0) / v := ⟨_, rfl⟩
    obtain ⟨R0, hR0⟩ : ∃ R0, R0 = (R1 * 4294967296 + d0) % v := ⟨_, rfl⟩
    have hQl0 : Q0 < 4294967296 := by rw [hQ0, G2.out.1]; exact digit_lt k1 hR1l k5
    have hRl0 : R0 < v := by rw [hR0]; exact Nat.mod_lt _ (by omega)
    have hQR0 : R1 * 4294967296 + d0 = Q0 * v + R0 := by rw [hQ0, hR0]; exact (Nat.div_add_mod' _ _).symm
    have HQ0 := Lib.hid hQ0
    obtain ⟨qB, hqB⟩ : ∃ qB, qB = Q1 * 4294967296 % 18446744073709551616 := ⟨_, rfl⟩
    obtain ⟨rs, hrs⟩ : ∃ rs, rs = (qB + Q0) % 18446744073709551616 := ⟨_, rfl⟩
    obtain ⟨rB, hrB⟩ : ∃ rB, rB = R1 * 4294967296 % 18446744073709551616 := ⟨_, rfl⟩
    obtain ⟨rd, hrd⟩ : ∃ rd, rd = (rB + d0) % 18446744073709551616 := ⟨_, rfl⟩
    obtain ⟨qw, hqw⟩ : ∃ qw, qw = Q0 * v % 18446744073709551616 := ⟨_, rfl⟩
    have F11 := wrap_lit Q1
    have F12 := wrap_add qB Q0
    have F13 := wrap_lit R1
    have F14 := wrap_add rB d0
    have F15 := wrap_mod Q0 v
    have F16 := wrap_left hQR0 (by omega) hrB hrd hqw
    rw [← hqB] at F11
    rw [← hrs] at F12
    rw [← hrB] at F13
    rw [← hrd] at F14
    rw [← hqw] at F15
    obtain ⟨rem, hrem⟩ : ∃ rem, rem = R0 / P := ⟨_, rfl⟩
    have F17 : (R0 : Int) / (P : Int) = (rem : Int) := by rw [hrem]; rfl
    obtain ⟨t1, t2⟩ := two_digits (by omega) HP.out G2.out.2.1 HQR.out hQR0 hRl0
    have hres : rs = (hi * 18446744073709551616 + lo) / y := by
      rw [← HS.out.1, t1]; omega
    have hrm : rem = (hi * 18446744073709551616 + lo) % y := by
      rw [← HS.out.2, t2, hrem]
    rw [← hres, ← hrm]
    have HE := Lib.hid (And.intro F3 (And.intro F4 (And.intro F5 (And.intro F6 (And.intro F7 (And.intro F8 (And.intro F9 (And.intro F10 F10w))))))))
    have HT := Lib.hid (And.intro F11 (And.intro F12 (And.intro F13 (And.intro F14 (And.intro F15 (And.intro F16 F17))))))
    clear F3 F4 F5 F6 F7 F8 F9 F10 F10w F11 F12 F13 F14 F15 F16 F17 hub hud hqv hqb hrb hmb hmr hQ0 hR0 hQR0 hqB hrs hrB hrd hqw hrem t1 t2 hres hrm
    go_enter Tryd.func38, Tryd.ntmps38
    go_wp2_with fail
    refine (HL.out _).mono ?_
    rintro e w' ⟨rfl, rfl⟩
    go_wp2_with fail
    have K := Lib.hid (And.intro k1 (And.intro k2 (And.intro k3 (And.intro k4 (And.intro k5 (And.intro hul (And.intro hv1 (And.intro hv2 (And.intro hQl (And.intro hRl (And.intro hR1l (And.intro hw1l (And.intro hlo (And.intro hy2 (And.intro hQl0 hRl0)))))))))))))))
    have z1 : (v1 : Int) ≤ 4294967295 := by omega
    have z2 : (d1 : Int) ≤ 4294967295 := by omega
    have z3 : (d0 : Int) ≤ 4294967295 := by omega
    have z4 : (Q1 : Int) ≤ 4294967295 := by omega
    clear k1 k2 k3 k4 k5 hul hv1 hv2 hQl hRl hR1l hw1l hlo hy2 hQl0 hRl0 p1 p3 p4 hy q3 hs
    go_loop [15, 16] (fun a b => ∃ q r : Nat, a = .int .u64 q ∧ b = .int .u64 r ∧ Digit u v1 v0 d1 q r) (fun a _ => (intOf a).toNat)
    case atStart => exact ⟨qa, ra, rfl, rfl, DS.out⟩
    case round =>
      obtain ⟨q, r, rfl, rfl, hd⟩ := hrel
      obtain ⟨k1, k2, k3, k4, k5, hul, hv1, hv2, hQl, hRl, hR1l, hw1l, hlo, hy2, hQl0, hRl0⟩ := K.out
      have z5 : (q : Int) ≤ 4294967297 := by have := hd.most; omega
      have z6 : (r : Int) ≤ 4294967295 := by have := hd.small; omega
      have HD := Lib.hid hd
      clear hd
      by_cases ht : q < 4294967296 ∧ q * v0 ≤ 4294967296 * r + d1
      · have hq := digit_stop k1 HD.out.left HD.out.above ht.2
        rw [← G2.out.1, ← HQ1.out] at hq
        have E12 := wrap_mul q v0 (by have := Nat.mul_le_mul (Nat.le_of_lt ht.1) (Nat.le_of_lt k3); omega)
        obtain ⟨mm, hmm⟩ : ∃ mm, mm = q * v0 := ⟨_, rfl⟩
        rw [← hmm] at E12 ht
        obtain ⟨ht1, ht2⟩ := ht
        have j1 : decide ((4294967296 : Int) ≤ (q : Int)) = false := by rw [decide_eq_false_iff_not]; omega
        obtain ⟨x, hx⟩ : ∃ x, x = 4294967296 * r := ⟨_, rfl⟩
        obtain ⟨tt, htt⟩ : ∃ tt, tt = x + d1 := ⟨_, rfl⟩
        have F1 : IntKind.u64.wrap (4294967296 * (r : Int)) = (x : Int) := by rw [IntKind.wrap_u64]; omega
        have F2 : IntKind.u64.wrap ((x : Int) + (d1 : Int)) = (tt : Int) := by rw [IntKind.wrap_u64]; omega
        have j2 : decide (tt < mm) = false := by rw [decide_eq_false_iff_not]; omega
        have GM := Lib.hid hmm
        clear hmm ht1 ht2 hx htt k1 k2 k3 k4 k5 hul hv1 hv2 hQl hRl hR1l hw1l hlo hy2 hQl0 hRl0
        subst hq
        obtain ⟨F3, F4, F5, F6, F7, F8, F9, F10, F10w⟩ := HE.out
        go_wp2_with fail
        clear F3 F4 F5 F6 F7 F8 F9 F10 F10w
        try clear E12 F1 F2
        try clear j1 j2
        try clear j1 j2 j3 e1 e2 e3
        try clear j1 j3 e1 e2 e3
        go_loop [18, 16] (fun a b => ∃ q r : Nat, a = .int .u64 q ∧ b = .int .u64 r ∧ Digit R1 v1 v0 d0 q r) (fun a _ => (intOf a).toNat)
        case atStart => exact ⟨qb, rb, rfl, rfl, DS2.out⟩
        case round =>
          obtain ⟨q, r, rfl, rfl, hd⟩ := hrel
          obtain ⟨k1, k2, k3, k4, k5, hul, hv1, hv2, hQl, hRl, hR1l, hw1l, hlo, hy2, hQl0, hRl0⟩ := K.out
          have z5 : (q : Int) ≤ 4294967297 := by have := hd.most; omega
          have z6 : (r : Int) ≤ 4294967295 := by have := hd.small; omega
          have HD := Lib.hid hd
          clear hd
          by_cases ht : q < 4294967296 ∧ q * v0 ≤ 4294967296 * r + d0
          · have hq := digit_stop k1 HD.out.left HD.out.above ht.2
            rw [← G2.out.1, ← HQ0.out] at hq
            have E12 := wrap_mul q v0 (by have := Nat.mul_le_mul (Nat.le_of_lt ht.1) (Nat.le_of_lt k3); omega)
            obtain ⟨mm, hmm⟩ : ∃ mm, mm = q * v0 := ⟨_, rfl⟩
            rw [← hmm] at E12 ht
            obtain ⟨ht1, ht2⟩ := ht
            have j1 : decide ((4294967296 : Int) ≤ (q : Int)) = false := by rw [decide_eq_false_iff_not]; omega
            obtain ⟨x, hx⟩ : ∃ x, x = 4294967296 * r := ⟨_, rfl⟩
            obtain ⟨tt, htt⟩ : ∃ tt, tt = x + d0 := ⟨_, rfl⟩
            have F1 : IntKind.u64.wrap (4294967296 * (r : Int)) = (x : Int) := by rw [IntKind.wrap_u64]; omega
            have F2 : IntKind.u64.wrap ((x : Int) + (d0 : Int)) = (tt : Int) := by rw [IntKind.wrap_u64]; omega
            have j2 : decide (tt < mm) = false := by rw [decide_eq_false_iff_not]; omega
            have GM := Lib.hid hmm
            clear hmm ht1 ht2 hx htt k1 k2 k3 k4 k5 hul hv1 hv2 hQl hRl hR1l hw1l hlo hy2 hQl0 hRl0
            subst hq
            obtain ⟨F11, F12, F13, F14, F15, F16, F17⟩ := HT.out
            go_wp2_with fail
            go_ret2
            exact ⟨rfl, 0, rfl⟩
          · obtain ⟨g1, g2, g3, g4⟩ := digit_down k1 hR1l k5 HD.out (by
              by_cases hB : 4294967296 ≤ q
              · exact .inl hB
              · exact .inr (Nat.lt_of_not_le fun h => ht ⟨by omega, h⟩))
            have hrb : r + v1 < 18446744073709551616 := by have := HD.out.small; omega
            obtain ⟨qd, hqd⟩ : ∃ qd, qd = q - 1 := ⟨_, rfl⟩
            obtain ⟨rp, hrp⟩ : ∃ rp, rp = r + v1 := ⟨_, rfl⟩
            have e1 : (q : Int) - 1 = (qd : Int) := by omega
            have e2 : (r : Int) + (v1 : Int) = (rp : Int) := by omega
            have e3 : (1 : Int) ≤ (q : Int) := by omega
            rw [← hqd] at g2 g3 g4
            rw [← hrp] at g2
            have m1 : q < 4294967296 → q * v0 < 18446744073709551616 := fun h => by have h9 : v0 ≤ 4294967295 := (by omega); have := Nat.mul_le_mul (Nat.le_of_lt h) h9; omega
            by_cases hB : q < 4294967296
            · have E12 := wrap_mul q v0 (m1 hB)
              obtain ⟨mm, hmm⟩ : ∃ mm, mm = q * v0 := ⟨_, rfl⟩
              rw [← hmm] at E12 ht
              obtain ⟨x, hx⟩ : ∃ x, x = 4294967296 * r := ⟨_, rfl⟩
              obtain ⟨tt, htt⟩ : ∃ tt, tt = x + d0 := ⟨_, rfl⟩
              have F1 : IntKind.u64.wrap (4294967296 * (r : Int)) = (x : Int) := by rw [IntKind.wrap_u64]; omega
              have F2 : IntKind.u64.wrap ((x : Int) + (d0 : Int)) = (tt : Int) := by rw [IntKind.wrap_u64]; omega
              have j1 : decide ((4294967296 : Int) ≤ (q : Int)) = false := by rw [decide_eq_false_iff_not]; omega
              have j2 : decide (tt < mm) = true := by rw [decide_eq_true_iff]; omega
              by_cases hb : 4294967296 ≤ rp
              · have j3 : decide ((4294967296 : Int) ≤ (rp : Int)) = true := by rw [decide_eq_true_iff]; omega
                have hq := digit_stop k1 g2 g3 (digit_break k3 g4 hb)
                rw [← G2.out.1, ← HQ0.out] at hq
                clear m1 hB hmm ht hx htt hb hrp hqd g1 g2 g3 g4 hrb k1 k2 k3 k4 k5 hul hv1 hv2 hQl hRl hR1l hw1l hlo hy2 hQl0 hRl0
                subst hq
                obtain ⟨F11, F12, F13, F14, F15, F16, F17⟩ := HT.out
                go_wp2_with fail
                go_ret2
                exact ⟨rfl, 0, rfl⟩
              · have j3 : decide ((4294967296 : Int) ≤ (rp : Int)) = false := by rw [decide_eq_false_iff_not]; omega
                have GD := Lib.hid (Digit.mk g2 g3 (by omega) (by omega))
                have GL : qd < q := by omega
                clear m1 hB hmm ht hx htt hb hrp hqd g1 g2 g3 g4 hrb k1 k2 k3 k4 k5 hul hv1 hv2 hQl hRl hR1l hw1l hlo hy2 hQl0 hRl0
                go_wp2_with fail
                go_round
                case rel => exact ⟨qd, rp, rfl, rfl, GD.out⟩
                case measure => simp [intOf]; omega
            · have j1 : decide ((4294967296 : Int) ≤ (q : Int)) = true := by rw [decide_eq_true_iff]; omega
              by_cases hb : 4294967296 ≤ rp
              · have j3 : decide ((4294967296 : Int) ≤ (rp : Int)) = true := by rw [decide_eq_true_iff]; omega
                have hq := digit_stop k1 g2 g3 (digit_break k3 g4 hb)
                rw [← G2.out.1, ← HQ0.out] at hq
                clear m1 hB ht hb hrp hqd g1 g2 g3 g4 hrb k1 k2 k3 k4 k5 hul hv1 hv2 hQl hRl hR1l hw1l hlo hy2 hQl0 hRl0
                subst hq
                obtain ⟨F11, F12, F13, F14, F15, F16, F17⟩ := HT.out
                go_wp2_with fail
                go_ret2
                exact ⟨rfl, 0, rfl⟩
              · have j3 : decide ((4294967296 : Int) ≤ (rp : Int)) = false := by rw [decide_eq_false_iff_not]; omega
                have GD := Lib.hid (Digit.mk g2 g3 (by omega) (by omega))
                have GL : qd < q := by omega
                clear m1 hB ht hb hrp hqd g1 g2 g3 g4 hrb k1 k2 k3 k4 k5 hul hv1 hv2 hQl hRl hR1l hw1l hlo hy2 hQl0 hRl0
                go_wp2_with fail
                go_round
                case rel => exact ⟨qd, rp, rfl, rfl, GD.out⟩
                case measure => simp [intOf]; omega
      · obtain ⟨g1, g2, g3, g4⟩ := digit_down k1 hul k4 HD.out (by
          by_cases hB : 4294967296 ≤ q
          · exact .inl hB
          · exact .inr (Nat.lt_of_not_le fun h => ht ⟨by omega, h⟩))
        have hrb : r + v1 < 18446744073709551616 := by have := HD.out.small; omega
        obtain ⟨qd, hqd⟩ : ∃ qd, qd = q - 1 := ⟨_, rfl⟩
        obtain ⟨rp, hrp⟩ : ∃ rp, rp = r + v1 := ⟨_, rfl⟩
        have e1 : (q : Int) - 1 = (qd : Int) := by omega
        have e2 : (r : Int) + (v1 : Int) = (rp : Int) := by omega
        have e3 : (1 : Int) ≤ (q : Int) := by omega
        rw [← hqd] at g2 g3 g4
        rw [← hrp] at g2
        have m1 : q < 4294967296 → q * v0 < 18446744073709551616 := fun h => by have h9 : v0 ≤ 4294967295 := (by omega); have := Nat.mul_le_mul (Nat.le_of_lt h) h9; omega
        by_cases hB : q < 4294967296
        · have E12 := wrap_mul q v0 (m1 hB)
          obtain ⟨mm, hmm⟩ : ∃ mm, mm = q * v0 := ⟨_, rfl⟩
          rw [← hmm] at E12 ht
          obtain ⟨x, hx⟩ : ∃ x, x = 4294967296 * r := ⟨_, rfl⟩
          obtain ⟨tt, htt⟩ : ∃ tt, tt = x + d1 := ⟨_, rfl⟩
          have F1 : IntKind.u64.wrap (4294967296 * (r : Int)) = (x : Int) := by rw [IntKind.wrap_u64]; omega
          have F2 : IntKind.u64.wrap ((x : Int) + (d1 : Int)) = (tt : Int) := by rw [IntKind.wrap_u64]; omega
          have j1 : decide ((4294967296 : Int) ≤ (q : Int)) = false := by rw [decide_eq_false_iff_not]; omega
          have j2 : decide (tt < mm) = true := by rw [decide_eq_true_iff]; omega
          by_cases hb : 4294967296 ≤ rp
          · have j3 : decide ((4294967296 : Int) ≤ (rp : Int)) = true := by rw [decide_eq_true_iff]; omega
            have hq := digit_stop k1 g2 g3 (digit_break k3 g4 hb)
            rw [← G2.out.1, ← HQ1.out] at hq
            clear m1 hB hmm ht hx htt hb hrp hqd g1 g2 g3 g4 hrb k1 k2 k3 k4 k5 hul hv1 hv2 hQl hRl hR1l hw1l hlo hy2 hQl0 hRl0
            subst hq
            obtain ⟨F3, F4, F5, F6, F7, F8, F9, F10, F10w⟩ := HE.out
            go_wp2_with fail
            clear F3 F4 F5 F6 F7 F8 F9 F10 F10w
            try clear E12 F1 F2
            try clear j1 j2
            try clear j1 j2 j3 e1 e2 e3
            try clear j1 j3 e1 e2 e3
            go_loop [18, 16] (fun a b => ∃ q r : Nat, a = .int .u64 q ∧ b = .int .u64 r ∧ Digit R1 v1 v0 d0 q r) (fun a _ => (intOf a).toNat)
            case atStart => exact ⟨qb, rb, rfl, rfl, DS2.out⟩
            case round =>
              obtain ⟨q, r, rfl, rfl, hd⟩ := hrel
              obtain ⟨k1, k2, k3, k4, k5, hul, hv1, hv2, hQl, hRl, hR1l, hw1l, hlo, hy2, hQl0, hRl0⟩ := K.out
              have z5 : (q : Int) ≤ 4294967297 := by have := hd.most; omega
              have z6 : (r : Int) ≤ 4294967295 := by have := hd.small; omega
              have HD := Lib.hid hd
              clear hd
              by_cases ht : q < 4294967296 ∧ q * v0 ≤ 4294967296 * r + d0
              · have hq := digit_stop k1 HD.out.left HD.out.above ht.2
                rw [← G2.out.1, ← HQ0.out] at hq
                have E12 := wrap_mul q v0 (by have := Nat.mul_le_mul (Nat.le_of_lt ht.1) (Nat.le_of_lt k3); omega)
                obtain ⟨mm, hmm⟩ : ∃ mm, mm = q * v0 := ⟨_, rfl⟩
                rw [← hmm] at E12 ht
                obtain ⟨ht1, ht2⟩ := ht
                have j1 : decide ((4294967296 : Int) ≤ (q : Int)) = false := by rw [decide_eq_false_iff_not]; omega
                obtain ⟨x, hx⟩ : ∃ x, x = 4294967296 * r := ⟨_, rfl⟩
                obtain ⟨tt, htt⟩ : ∃ tt, tt = x + d0 := ⟨_, rfl⟩
                have F1 : IntKind.u64.wrap (4294967296 * (r : Int)) = (x : Int) := by rw [IntKind.wrap_u64]; omega
                have F2 : IntKind.u64.wrap ((x : Int) + (d0 : Int)) = (tt : Int) := by rw [IntKind.wrap_u64]; omega
                have j2 : decide (tt < mm) = false := by rw [decide_eq_false_iff_not]; omega
                have GM := Lib.hid hmm
                clear hmm ht1 ht2 hx htt k1 k2 k3 k4 k5 hul hv1 hv2 hQl hRl hR1l hw1l hlo hy2 hQl0 hRl0
                subst hq
                obtain ⟨F11, F12, F13, F14, F15, F16, F17⟩ := HT.out
                go_wp2_with fail
                go_ret2
                exact ⟨rfl, 0, rfl⟩
              · obtain ⟨g1, g2, g3, g4⟩ := digit_down k1 hR1l k5 HD.out (by
                  by_cases hB : 4294967296 ≤ q
                  · exact .inl hB
                  · exact .inr (Nat.lt_of_not_le fun h => ht ⟨by omega, h⟩))
                have hrb : r + v1 < 18446744073709551616 := by have := HD.out.small; omega
                obtain ⟨qd, hqd⟩ : ∃ qd, qd = q - 1 := ⟨_, rfl⟩
                obtain ⟨rp, hrp⟩ : ∃ rp, rp = r + v1 := ⟨_, rfl⟩
                have e1 : (q : Int) - 1 = (qd : Int) := by omega
                have e2 : (r : Int) + (v1 : Int) = (rp : Int) := by omega
                have e3 : (1 : Int) ≤ (q : Int) := by omega
                rw [← hqd] at g2 g3 g4
                rw [← hrp] at g2
                have m1 : q < 4294967296 → q * v0 < 18446744073709551616 := fun h => by have h9 : v0 ≤ 4294967295 := (by omega); have := Nat.mul_le_mul (Nat.le_of_lt h) h9; omega
                by_cases hB : q < 4294967296
                · have E12 := wrap_mul q v0 (m1 hB)
                  obtain ⟨mm, hmm⟩ : ∃ mm, mm = q * v0 := ⟨_, rfl⟩
                  rw [← hmm] at E12 ht
                  obtain ⟨x, hx⟩ : ∃ x, x = 4294967296 * r := ⟨_, rfl⟩
                  obtain ⟨tt, htt⟩ : ∃ tt, tt = x + d0 := ⟨_, rfl⟩
                  have F1 : IntKind.u64.wrap (4294967296 * (r : Int)) = (x : Int) := by rw [IntKind.wrap_u64]; omega
                  have F2 : IntKind.u64.wrap ((x : Int) + (d0 : Int)) = (tt : Int) := by rw [IntKind.wrap_u64]; omega
                  have j1 : decide ((4294967296 : Int) ≤ (q : Int)) = false := by rw [decide_eq_false_iff_not]; omega
                  have j2 : decide (tt < mm) = true := by rw [decide_eq_true_iff]; omega
                  by_cases hb : 4294967296 ≤ rp
                  · have j3 : decide ((4294967296 : Int) ≤ (rp : Int)) = true := by rw [decide_eq_true_iff]; omega
                    have hq := digit_stop k1 g2 g3 (digit_break k3 g4 hb)
                    rw [← G2.out.1, ← HQ0.out] at hq
                    clear m1 hB hmm ht hx htt hb hrp hqd g1 g2 g3 g4 hrb k1 k2 k3 k4 k5 hul hv1 hv2 hQl hRl hR1l hw1l hlo hy2 hQl0 hRl0
                    subst hq
                    obtain ⟨F11, F12, F13, F14, F15, F16, F17⟩ := HT.out
                    go_wp2_with fail
                    go_ret2
                    exact ⟨rfl, 0, rfl⟩
                  · have j3 : decide ((4294967296 : Int) ≤ (rp : Int)) = false := by rw [decide_eq_false_iff_not]; omega
                    have GD := Lib.hid (Digit.mk g2 g3 (by omega) (by omega))
                    have GL : qd < q := by omega
                    clear m1 hB hmm ht hx htt hb hrp hqd g1 g2 g3 g4 hrb k1 k2 k3 k4 k5 hul hv1 hv2 hQl hRl hR1l hw1l hlo hy2 hQl0 hRl0
                    go_wp2_with fail
                    go_round
                    case rel => exact ⟨qd, rp, rfl, rfl, GD.out⟩
                    case measure => simp [intOf]; omega
                · have j1 : decide ((4294967296 : Int) ≤ (q : Int)) = true := by rw [decide_eq_true_iff]; omega
                  by_cases hb : 4294967296 ≤ rp
                  · have j3 : decide ((4294967296 : Int) ≤ (rp : Int)) = true := by rw [decide_eq_true_iff]; omega
                    have hq := digit_stop k1 g2 g3 (digit_break k3 g4 hb)
                    rw [← G2.out.1, ← HQ0.out] at hq
                    clear m1 hB ht hb hrp hqd g1 g2 g3 g4 hrb k1 k2 k3 k4 k5 hul hv1 hv2 hQl hRl hR1l hw1l hlo hy2 hQl0 hRl0
                    subst hq
                    obtain ⟨F11, F12, F13, F14, F15, F16, F17⟩ := HT.out
                    go_wp2_with fail
                    go_ret2
                    exact ⟨rfl, 0, rfl⟩
                  · have j3 : decide ((4294967296 : Int) ≤ (rp : Int)) = false := by rw [decide_eq_false_iff_not]; omega
                    have GD := Lib.hid (Digit.mk g2 g3 (by omega) (by omega))
                    have GL : qd < q := by omega
                    clear m1 hB ht hb hrp hqd g1 g2 g3 g4 hrb k1 k2 k3 k4 k5 hul hv1 hv2 hQl hRl hR1l hw1l hlo hy2 hQl0 hRl0
                    go_wp2_with fail
                    go_round
                    case rel => exact ⟨qd, rp, rfl, rfl, GD.out⟩
                    case measure => simp [intOf]; omega
          · have j3 : decide ((4294967296 : Int) ≤ (rp : Int)) = false := by rw [decide_eq_false_iff_not]; omega
            have GD := Lib.hid (Digit.mk g2 g3 (by omega) (by omega))
            have GL : qd < q := by omega
            clear m1 hB hmm ht hx htt hb hrp hqd g1 g2 g3 g4 hrb k1 k2 k3 k4 k5 hul hv1 hv2 hQl hRl hR1l hw1l hlo hy2 hQl0 hRl0
            go_wp2_with fail
            go_round
            case rel => exact ⟨qd, rp, rfl, rfl, GD.out⟩
            case measure => simp [intOf]; omega
        · have j1 : decide ((4294967296 : Int) ≤ (q : Int)) = true := by rw [decide_eq_true_iff]; omega
          by_cases hb : 4294967296 ≤ rp
          · have j3 : decide ((4294967296 : Int) ≤ (rp : Int)) = true := by rw [decide_eq_true_iff]; omega
            have hq := digit_stop k1 g2 g3 (digit_break k3 g4 hb)
            rw [← G2.out.1, ← HQ1.out] at hq
            clear m1 hB ht hb hrp hqd g1 g2 g3 g4 hrb k1 k2 k3 k4 k5 hul hv1 hv2 hQl hRl hR1l hw1l hlo hy2 hQl0 hRl0
            subst hq
            obtain ⟨F3, F4, F5, F6, F7, F8, F9, F10, F10w⟩ := HE.out
            go_wp2_with fail
            clear F3 F4 F5 F6 F7 F8 F9 F10 F10w
            try clear E12 F1 F2
            try clear j1 j2
            try clear j1 j2 j3 e1 e2 e3
            try clear j1 j3 e1 e2 e3
            go_loop [18, 16] (fun a b => ∃ q r : Nat, a = .int .u64 q ∧ b = .int .u64 r ∧ Digit R1 v1 v0 d0 q r) (fun a _ => (intOf a).toNat)
            case atStart => exact ⟨qb, rb, rfl, rfl, DS2.out⟩
            case round =>
              obtain ⟨q, r, rfl, rfl, hd⟩ := hrel
              obtain ⟨k1, k2, k3, k4, k5, hul, hv1, hv2, hQl, hRl, hR1l, hw1l, hlo, hy2, hQl0, hRl0⟩ := K.out
              have z5 : (q : Int) ≤ 4294967297 := by have := hd.most; omega
              have z6 : (r : Int) ≤ 4294967295 := by have := hd.small; omega
              have HD := Lib.hid hd
              clear hd
              by_cases ht : q < 4294967296 ∧ q * v0 ≤ 4294967296 * r + d0
              · have hq := digit_stop k1 HD.out.left HD.out.above ht.2
                rw [← G2.out.1, ← HQ0.out] at hq
                have E12 := wrap_mul q v0 (by have := Nat.mul_le_mul (Nat.le_of_lt ht.1) (Nat.le_of_lt k3); omega)
                obtain ⟨mm, hmm⟩ : ∃ mm, mm = q * v0 := ⟨_, rfl⟩
                rw [← hmm] at E12 ht
                obtain ⟨ht1, ht2⟩ := ht
                have j1 : decide ((4294967296 : Int) ≤ (q : Int)) = false := by rw [decide_eq_false_iff_not]; omega
                obtain ⟨x, hx⟩ : ∃ x, x = 4294967296 * r := ⟨_, rfl⟩
                obtain ⟨tt, htt⟩ : ∃ tt, tt = x + d0 := ⟨_, rfl⟩
                have F1 : IntKind.u64.wrap (4294967296 * (r : Int)) = (x : Int) := by rw [IntKind.wrap_u64]; omega
                have F2 : IntKind.u64.wrap ((x : Int) + (d0 : Int)) = (tt : Int) := by rw [IntKind.wrap_u64]; omega
                have j2 : decide (tt < mm) = false := by rw [decide_eq_false_iff_not]; omega
                have GM := Lib.hid hmm
                clear hmm ht1 ht2 hx htt k1 k2 k3 k4 k5 hul hv1 hv2 hQl hRl hR1l hw1l hlo hy2 hQl0 hRl0
                subst hq
                obtain ⟨F11, F12, F13, F14, F15, F16, F17⟩ := HT.out
                go_wp2_with fail
                go_ret2
                exact ⟨rfl, 0, rfl⟩
              · obtain ⟨g1, g2, g3, g4⟩ := digit_down k1 hR1l k5 HD.out (by
                  by_cases hB : 4294967296 ≤ q
                  · exact .inl hB
                  · exact .inr (Nat.lt_of_not_le fun h => ht ⟨by omega, h⟩))
                have hrb : r + v1 < 18446744073709551616 := by have := HD.out.small; omega
                obtain ⟨qd, hqd⟩ : ∃ qd, qd = q - 1 := ⟨_, rfl⟩
                obtain ⟨rp, hrp⟩ : ∃ rp, rp = r + v1 := ⟨_, rfl⟩
                have e1 : (q : Int) - 1 = (qd : Int) := by omega
                have e2 : (r : Int) + (v1 : Int) = (rp : Int) := by omega
                have e3 : (1 : Int) ≤ (q : Int) := by omega
                rw [← hqd] at g2 g3 g4
                rw [← hrp] at g2
                have m1 : q < 4294967296 → q * v0 < 18446744073709551616 := fun h => by have h9 : v0 ≤ 4294967295 := (by omega); have := Nat.mul_le_mul (Nat.le_of_lt h) h9; omega
                by_cases hB : q < 4294967296
                · have E12 := wrap_mul q v0 (m1 hB)
                  obtain ⟨mm, hmm⟩ : ∃ mm, mm = q * v0 := ⟨_, rfl⟩
                  rw [← hmm] at E12 ht
                  obtain ⟨x, hx⟩ : ∃ x, x = 4294967296 * r := ⟨_, rfl⟩
                  obtain ⟨tt, htt⟩ : ∃ tt, tt = x + d0 := ⟨_, rfl⟩
                  have F1 : IntKind.u64.wrap (4294967296 * (r : Int)) = (x : Int) := by rw [IntKind.wrap_u64]; omega
                  have F2 : IntKind.u64.wrap ((x : Int) + (d0 : Int)) = (tt : Int) := by rw [IntKind.wrap_u64]; omega
                  have j1 : decide ((4294967296 : Int) ≤ (q : Int)) = false := by rw [decide_eq_false_iff_not]; omega
                  have j2 : decide (tt < mm) = true := by rw [decide_eq_true_iff]; omega
                  by_cases hb : 4294967296 ≤ rp
                  · have j3 : decide ((4294967296 : Int) ≤ (rp : Int)) = true := by rw [decide_eq_true_iff]; omega
                    have hq := digit_stop k1 g2 g3 (digit_break k3 g4 hb)
                    rw [← G2.out.1, ← HQ0.out] at hq
                    clear m1 hB hmm ht hx htt hb hrp hqd g1 g2 g3 g4 hrb k1 k2 k3 k4 k5 hul hv1 hv2 hQl hRl hR1l hw1l hlo hy2 hQl0 hRl0
                    subst hq
                    obtain ⟨F11, F12, F13, F14, F15, F16, F17⟩ := HT.out
                    go_wp2_with fail
                    go_ret2
                    exact ⟨rfl, 0, rfl⟩
                  · have j3 : decide ((4294967296 : Int) ≤ (rp : Int)) = false := by rw [decide_eq_false_iff_not]; omega
                    have GD := Lib.hid (Digit.mk g2 g3 (by omega) (by omega))
                    have GL : qd < q := by omega
                    clear m1 hB hmm ht hx htt hb hrp hqd g1 g2 g3 g4 hrb k1 k2 k3 k4 k5 hul hv1 hv2 hQl hRl hR1l hw1l hlo hy2 hQl0 hRl0
                    go_wp2_with fail
                    go_round
                    case rel => exact ⟨qd, rp, rfl, rfl, GD.out⟩
                    case measure => simp [intOf]; omega
                · have j1 : decide ((4294967296 : Int) ≤ (q : Int)) = true := by rw [decide_eq_true_iff]; omega
                  by_cases hb : 4294967296 ≤ rp
                  · have j3 : decide ((4294967296 : Int) ≤ (rp : Int)) = true := by rw [decide_eq_true_iff]; omega
                    have hq := digit_stop k1 g2 g3 (digit_break k3 g4 hb)
                    rw [← G2.out.1, ← HQ0.out] at hq
                    clear m1 hB ht hb hrp hqd g1 g2 g3 g4 hrb k1 k2 k3 k4 k5 hul hv1 hv2 hQl hRl hR1l hw1l hlo hy2 hQl0 hRl0
                    subst hq
                    obtain ⟨F11, F12, F13, F14, F15, F16, F17⟩ := HT.out
                    go_wp2_with fail
                    go_ret2
                    exact ⟨rfl, 0, rfl⟩
                  · have j3 : decide ((4294967296 : Int) ≤ (rp : Int)) = false := by rw [decide_eq_false_iff_not]; omega
                    have GD := Lib.hid (Digit.mk g2 g3 (by omega) (by omega))
                    have GL : qd < q := by omega
                    clear m1 hB ht hb hrp hqd g1 g2 g3 g4 hrb k1 k2 k3 k4 k5 hul hv1 hv2 hQl hRl hR1l hw1l hlo hy2 hQl0 hRl0
                    go_wp2_with fail
                    go_round
                    case rel => exact ⟨qd, rp, rfl, rfl, GD.out⟩
                    case measure => simp [intOf]; omega
          · have j3 : decide ((4294967296 : Int) ≤ (rp : Int)) = false := by rw [decide_eq_false_iff_not]; omega
            have GD := Lib.hid (Digit.mk g2 g3 (by omega) (by omega))
            have GL : qd < q := by omega
            clear m1 hB ht hb hrp hqd g1 g2 g3 g4 hrb k1 k2 k3 k4 k5 hul hv1 hv2 hQl hRl hR1l hw1l hlo hy2 hQl0 hRl0
            go_wp2_with fail
            go_round
            case rel => exact ⟨qd, rp, rfl, rfl, GD.out⟩
            case measure => simp [intOf]; omega
end Go.Proofs.YthiacmpkbioahaaDoor
