/- Texts joined: RNid, HeldBy. -/
import Derived.Test.YtpcoonnfaoakhaaGreatDoorM03
import Derived.Test.YtpcoonnfaoakhaaGreatDoorM14
import Derived.Test.YtpcoonnfaoakhaaGreatDoorM17
import Derived.Test.YtpcoonnfaoakhaaGreatDoorM13
import Derived.Deep.RegionHeldLaw
import Derived.Test.YtpcoonnfaoakhaaGreatDoorM01
namespace Go.Proofs.YtpcoonnfaoakhaaGreatDoor
set_option maxRecDepth 100000
open Go Go.RowKit
set_option linter.unusedVariables false

set_option maxHeartbeats 2000000 in
theorem rset_noD {w : World} {b : Nat} {R : List Pr} (h : DocS w b R) (key : ByteArray) (hk : key.size ≤ maxLen) (v : Value) (val : List UInt8) (hr : Rd w w.heap.size v val) (hp : pairB (key, val) = false) :
    Calls Tryz.prog 79 #[.pointer (some ⟨b, 0, none⟩), .string key, v] w fun e w' => e = .returned (.int .i64 60) ∧ w = w' := by
  have HT := Lib.hid (rtakes_any key v val w hk hr)
  rw [hp] at HT
  obtain ⟨A, c, rfl⟩ := hr.form
  clear h hr hp
  go_enter Tryz.func79, Tryz.ntmps79
  go_wp2_with fail
  refine HT.out.mono ?_
  rintro e w1 ⟨rfl, rfl⟩
  go_wp2_with fail
  go_ret
  exact ⟨rfl, rfl⟩
theorem putL_shortD {key : ByteArray} {val : List UInt8} {R : List Pr} (hv : val.length ≤ 2000000) (h : ∀ p ∈ R, p.2.length ≤ 2000000) : ∀ p ∈ putL (key, some val) R, p.2.length ≤ 2000000 := fun p hp => by
  rcases List.mem_append.1 ((putL_perm key _ R).mem_iff.1 hp) with hp | hp
  · rw [List.mem_singleton.1 hp]; exact hv
  · exact h p (List.mem_filter.1 hp).1
theorem Doc.setAny {w W : World} {b N : Nat} {R : List Pr} (h : Doc w b R N W) (hN : N + 1 ≤ 100000000) (key : ByteArray) (hk : key.size ≤ maxLen) (x : Value) (val : List UInt8) (hr : Rd W W.heap.size x val) (hl : val.length ≤ 2000000) :
    Calls Tryz.prog 79 #[.pointer (some ⟨b, 0, none⟩), .string key, x] W fun e w' => (∃ c, e = .returned (.int .i64 c)) ∧ Doc w b (setL key val R) (N + 1) w' ∧ Chg W w' (fun k => k = b) := by
  unfold setL
  by_cases hp : pairB (key, val) = true
  · rw [if_pos hp]
    exact (rset_any h.s (by have := h.n; omega) key hk x val hr hp).mono fun e w' ⟨h1, h2, h3⟩ => ⟨⟨_, h1⟩, ⟨h2, Nat.le_trans (putL_length _ R) (by have := h.n; omega), putL_shortD hl h.v, h.c.trans' h3⟩, h3⟩
  · rw [if_neg hp]
    refine (rset_noD h.s key hk x val hr (by simpa using hp)).mono ?_
    rintro e w' ⟨he, rfl⟩
    exact ⟨⟨_, he⟩, h.more (by omega), Chg.refl _ _⟩
theorem rofD_any (n : Nat) (w : World) : Calls Tryz.prog 81 #[.int .u64 (n : Int)] w fun e w' => e = .returned (.agg #[.int .u64 (n : Int), .int .u64 0, .int .u64 0, .int .u64 0]) ∧ Below w.heap.size w w' := by
  go_enter Tryz.func81, Tryz.ntmps81
  go_wp2_with fail
  refine bodyPost_ret (v := .agg #[.int .u64 (n : Int), .int .u64 0, .int .u64 0, .int .u64 0]) ?_ rfl ⟨rfl, ?_⟩
  · simp [results, Tryz.results81, go_sem]
  · exact (Below.refl _ _).alloc (Nat.le_refl _) _
theorem u4_one (n : Nat) : (U4.mk n 0 0 0).nat = n := by simp [U4.nat]
set_option maxHeartbeats 4000000 in
theorem rnewid_any {w W : World} {b N : Nat} {R : List Pr} (h : Doc w b R N W) (hN : N + 1 ≤ 100000000) (kind : ByteArray) (hk : kind.size ≤ 100000000) (hd : (decB (numN R kind)).size ≤ 1000) :
    Calls Tryz.prog 24 #[.pointer (some ⟨b, 0, none⟩), .string kind] W fun e w' => e = .returned (.string (newID R kind)) ∧ Doc w b (newR R kind) (N + 1) w' ∧ Chg W w' (fun k => k = b) := by
  have s1 : numP.size = 6 := rfl
  have z1 := kNum_size kind
  have hc1 := fun Z => txt_add numP kind (by rw [s1]; omega) Z
  have HG := Lib.hid (rget_any h.s (Nat.le_trans h.n (by omega)) h.v (kNum kind))
  have HL : ((getL R (kNum kind)).getD []).length ≤ 2000000 := by
    cases e : getL R (kNum kind) with
    | none => simp
    | some v => exact h.v _ (getL_mem e)
  have hnn : numN R kind < 18446744073709551616 := rN_ltP _ _
  have hc2 := fun Z => txt_add kind dashB (by rw [dash_size]; omega) Z
  have hc3 := fun Z => txt_add (kind ++ dashB) (decB (numN R kind)) (by rw [ByteArray.size_append, dash_size]; omega) Z
  have HS : Hid (∀ (Z : World) (hz : Below W.heap.size W Z) (v : Value) (hr : Rd Z Z.heap.size v (be ((numN R kind + 1) % 18446744073709551616) 8)), Calls Tryz.prog 79 #[.pointer (some ⟨b, 0, none⟩), .string (kNum kind), v] Z fun e w' => (∃ c, e = .returned (.int .i64 c)) ∧ Doc w b (setL (kNum kind) (be ((numN R kind + 1) % 18446744073709551616) 8) R) (N + 1) w' ∧ Chg Z w' (fun k => k = b)) :=
    Lib.hid fun Z hz v hr => (h.up hz).setAny hN (kNum kind) (by rw [z1]; unfold maxLen; omega) v _ hr (by rw [be_length]; decide)
  have HF := Lib.hid (fun Z : World => rofD_any (numN R kind) Z)
  have HP : Hid (∀ Z, Calls Tryz.prog 80 #[.agg #[.int .u64 (numN R kind : Int), .int .u64 0, .int .u64 0, .int .u64 0]] Z fun e w' => e = .returned (.string (decB (numN R kind))) ∧ Below Z.heap.size Z w') := Lib.hid fun Z => by
    have := rprint_any ⟨numN R kind, 0, 0, 0⟩ Z ⟨hnn, by show (0 : Nat) < _; decide, by show (0 : Nat) < _; decide, by show (0 : Nat) < _; decide⟩
    rw [u4_one] at this
    exact this
  have hwrap : IntKind.u64.wrap ((numN R kind : Int) + 1) = (((numN R kind + 1) % 18446744073709551616 : Nat) : Int) := by
    unfold IntKind.wrap
    simp [IntKind.bits, IntKind.signed]
  have HN : Hid (∀ Z, Calls Tryz.prog 74 #[.slice none 0 0, .int .u64 (((numN R kind + 1) % 18446744073709551616 : Nat) : Int)] Z fun e w' => ∃ v', e = .returned v' ∧ Own w' Z.heap.size v' (be ((numN R kind + 1) % 18446744073709551616) 8) ∧ Below Z.heap.size Z w') := Lib.hid fun Z => by
    have := refN_any (.slice none 0 0) [] ((numN R kind + 1) % 18446744073709551616) Z (Rd.nil _ _) (Nat.mod_lt _ (by decide)) (by simp)
    rwa [List.nil_append] at this
  have hfin : newR R kind = setL (kNum kind) (be ((numN R kind + 1) % 18446744073709551616) 8) R := rfl
  have hidf : newID R kind = (kind ++ dashB) ++ decB (numN R kind) := rfl
  rw [hfin, hidf]
  have hnum : numN R kind = (rN ((getL R (kNum kind)).getD []) 0).1 := rfl
  have hnn0 : getL R (kNum kind) = none → numN R kind = 0 := fun e => by rw [hnum, e]; rfl
  obtain ⟨m, hm⟩ : ∃ m, m = (numN R kind + 1) % 18446744073709551616 := ⟨_, rfl⟩
  rw [← hm] at HS HN hwrap ⊢
  generalize setL (kNum kind) (be m 8) R = R2 at *
  generalize (kind ++ dashB) ++ decB (numN R kind) = IDv at *
  generalize decB (numN R kind) = DV at *
  generalize kind ++ dashB = kd at *
  have hpos : kNum kind = numP ++ kind := rfl
  rw [← hpos] at hc1
  generalize kNum kind = key at *
  unfold numP at hc1
  unfold dashB at hc2
  generalize numN R kind = n at *
  generalize getL R key = o at *
  clear hfin hidf hpos hd hnn h z1
  cases o with
  | none =>
    have hn0 := hnn0 rfl
    subst hn0
    have hm1 : m = 1 := hm
    subst hm1
    have HN1 : Hid (∀ Z, Calls Tryz.prog 74 #[.slice none 0 0, .int .u64 1] Z fun e w' => ∃ v', e = .returned v' ∧ Own w' Z.heap.size v' (be 1 8) ∧ Below Z.heap.size Z w') := Lib.hid HN.out
    have HF1 : Hid (∀ Z, Calls Tryz.prog 81 #[.int .u64 0] Z fun e w' => e = .returned (.agg #[.int .u64 0, .int .u64 0, .int .u64 0, .int .u64 0]) ∧ Below Z.heap.size Z w') := Lib.hid HF.out
    have HP1 : Hid (∀ Z, Calls Tryz.prog 80 #[.agg #[.int .u64 0, .int .u64 0, .int .u64 0, .int .u64 0]] Z fun e w' => e = .returned (.string DV) ∧ Below Z.heap.size Z w') := Lib.hid HP.out
    clear HN HF HP hwrap hm hnum hnn0
    go_enter Tryz.func24, Tryz.ntmps24
    go_wp2_with fail
    refine HG.out.mono ?_
    rintro e w1 ⟨v, rfl, hov, hb1⟩
    obtain ⟨A, c, rfl⟩ := hov.form
    clear hov HG
    go_wp2_with fail
    refine (HN1.out _).mono ?_
    rintro e w4 ⟨v4, rfl, ho4, hb4⟩
    have hq4 := below_chain hb1 hb1.size hb4
    have HS4 := Lib.hid (HS.out _ hq4 v4 ho4.rd)
    obtain ⟨A4, c4, rfl⟩ := ho4.form
    generalize (be 1 8).length = n4 at *
    clear ho4 HS HN1 hb4
    go_wp2_with fail
    refine HS4.out.mono ?_
    rintro e w5 ⟨⟨c5, rfl⟩, hA5, hk5⟩
    have hkk := (Chg.of_below hq4 _).trans' hk5
    clear HS4
    go_wp2_with fail
    refine (HF1.out _).mono ?_
    rintro e w6 ⟨rfl, hb6⟩
    go_wp2_with fail
    refine (HP1.out _).mono ?_
    rintro e w7 ⟨rfl, hb7⟩
    have hb8 := below_chain hb6 hb6.size hb7
    go_wp2_with fail
    go_ret
    exact ⟨rfl, hA5.up hb8, hkk.trans' (Chg.of_below hb8 _)⟩
  | some l =>
    have HNUM : Hid (n = (rN l 0).1) := Lib.hid hnum
    have HL' := Lib.hid (show l.length ≤ 2000000 from HL)
    clear hm hnum hnn0 HL
    go_enter Tryz.func24, Tryz.ntmps24
    go_wp2_with fail
    refine HG.out.mono ?_
    rintro e w1 ⟨v, rfl, hov, hb1⟩
    have HO := Lib.hid (open_dd v l w1 hov.rd (by have := HL'.out; omega))
    obtain ⟨A, c, rfl⟩ := hov.form
    clear hov HG
    go_wp2_with fail
    refine HO.out.mono ?_
    rintro e w2 ⟨g, rfl, hr2, hb2⟩
    have hq2 := below_chain hb1 hb1.size hb2
    have hg := hr2.from_
    have HR := Lib.hid (dN_any hr2)
    rw [← HNUM.out] at HR
    clear HO hr2 hb2
    go_wp2_with fail
    refine HR.out.mono ?_
    rintro e w3 ⟨rfl, -, hg3⟩
    have hq3 := hq2.grown hg3 hq2.size (fun k hk => by injection hk with hk; have := hb1.size; omega)
    clear HR hg3 hg hb1 hq2
    go_wp2_with fail
    refine (HN.out _).mono ?_
    rintro e w4 ⟨v4, rfl, ho4, hb4⟩
    have hq4 := below_chain hq3 hq3.size hb4
    have HS4 := Lib.hid (HS.out _ hq4 v4 ho4.rd)
    obtain ⟨A4, c4, rfl⟩ := ho4.form
    generalize (be m 8).length = n4 at *
    clear ho4 HS HN hb4 hq3
    go_wp2_with fail
    refine HS4.out.mono ?_
    rintro e w5 ⟨⟨c5, rfl⟩, hA5, hk5⟩
    have hkk := (Chg.of_below hq4 _).trans' hk5
    clear HS4
    go_wp2_with fail
    refine (HF.out _).mono ?_
    rintro e w6 ⟨rfl, hb6⟩
    go_wp2_with fail
    refine (HP.out _).mono ?_
    rintro e w7 ⟨rfl, hb7⟩
    have hb8 := below_chain hb6 hb6.size hb7
    go_wp2_with fail
    go_ret
    exact ⟨rfl, hA5.up hb8, hkk.trans' (Chg.of_below hb8 _)⟩
section
variable {B : Nat} {y : Lyr} {b k : Nat} {Rp Rd : List Pr} {W W' : World}
theorem Two.at0 (h : Two B y b Rp Rd k W) : ∃ n f, n ≤ y.n + k ∧ PileS W [⟨y.b, y.m, n, f⟩] ∧ At W ⟨y.b, y.m, n, f⟩ [] Rp 0 W := by
  obtain ⟨n, f, h1, h2, h3⟩ := h.p
  exact ⟨n, f, h3, h1, BankS.refl h1 h2, h1⟩
theorem Two.rnewid (h : Two B y b Rp Rd k W) (hn : y.n + k + 2 ≤ 100000000) (kind : ByteArray) (hk : kind.size ≤ 100000000) (hd : (decB (numN Rd kind)).size ≤ 1000) :
    Calls Tryz.prog 24 #[.pointer (some ⟨b, 0, none⟩), .string kind] W fun e w' => e = .returned (.string (newID Rd kind)) ∧ Two B y b Rp (newR Rd kind) (k + 2) w' ∧ Chg W w' (FT y b) := by
  refine (rnewid_any h.doc (by omega) kind hk hd).mono ?_
  rintro e w' ⟨he, hq, -⟩
  exact ⟨he, h.docS (hq.more (by omega))⟩
end
end Go.Proofs.YtpcoonnfaoakhaaGreatDoor
namespace Go.Proofs.YtpcoonnfaoakhaaGreatDoor
set_option maxRecDepth 100000
open Go Go.RowKit
section
variable {P : Program} {ops : Array Oper} {Q : Exit → Act → World → Prop} {md : Region.Mode} {S S' : World → Prop}
end
/-- what stands in the world w reads so from here on -/
def BelS (w : World) : World → Prop := fun W => Below w.heap.size w W
theorem BelS.refl (w : World) : BelS w w := Below.refl _ _
end Go.Proofs.YtpcoonnfaoakhaaGreatDoor
