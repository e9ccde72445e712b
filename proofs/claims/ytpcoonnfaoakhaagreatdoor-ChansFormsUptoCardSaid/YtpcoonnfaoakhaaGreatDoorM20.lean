/- Texts joined: RNid, RConG, RefF, RConB, RCliG, HeldBy. -/
import Derived.Test.YtpcoonnfaoakhaaGreatDoorM03
import Derived.Test.YtpcoonnfaoakhaaGreatDoorM15
import Derived.Test.YtpcoonnfaoakhaaGreatDoorM19
import Derived.Test.YtpcoonnfaoakhaaGreatDoorM13
import Derived.Test.YtpcoonnfaoakhaaGreatDoorM14
import Derived.Test.YtpcoonnfaoakhaaGreatDoorM18
import Derived.Test.YtpcoonnfaoakhaaGreatDoorM01
import Derived.Test.YtpcoonnfaoakhaaGreatDoorM12
import Derived.Deep.RegionHeldLaw
namespace Go.Proofs.YtpcoonnfaoakhaaGreatDoor
set_option maxRecDepth 100000
open Go Go.RowKit
set_option linter.unusedVariables false

set_option maxHeartbeats 2000000 in
theorem rset_noD {w : World} {b : Nat} {R : List Pr} (h : DocS w b R) (key : ByteArray) (hk : key.size ≤ maxLen) (v : Value) (val : List UInt8) (hr : Rd w w.heap.size v val) (hp : pairB (key, val) = false) :
    Calls Tryz.prog 79 #[.pointer (some ⟨b, 0, none⟩), .string key, v] w fun e w' => e = .returned (.int .i64 60) ∧ w = w' := by
  have HT := Lib.hid (rtakes_any key v val w hk hr)
  rw [hp] at HT
  obtain ⟨A, c, rfl⟩ := hr.form
  clear h hr hp
  go_enter Tryz.func79, Tryz.ntmps79
  go_wp2_with fail
  refine HT.out.mono ?_
  rintro e w1 ⟨rfl, rfl⟩
  go_wp2_with fail
  go_ret
  exact ⟨rfl, rfl⟩
theorem putL_shortD {key : ByteArray} {val : List UInt8} {R : List Pr} (hv : val.length ≤ 2000000) (h : ∀ p ∈ R, p.2.length ≤ 2000000) : ∀ p ∈ putL (key, some val) R, p.2.length ≤ 2000000 := fun p hp => by
  rcases List.mem_append.1 ((putL_perm key _ R).mem_iff.1 hp) with hp | hp
  · rw [List.mem_singleton.1 hp]; exact hv
  · exact h p (List.mem_filter.1 hp).1
theorem Doc.setAny {w W : World} {b N : Nat} {R : List Pr} (h : Doc w b R N W) (hN : N + 1 ≤ 100000000) (key : ByteArray) (hk : key.size ≤ maxLen) (x : Value) (val : List UInt8) (hr : Rd W W.heap.size x val) (hl : val.length ≤ 2000000) :
    Calls Tryz.prog 79 #[.pointer (some ⟨b, 0, none⟩), .string key, x] W fun e w' => (∃ c, e = .returned (.int .i64 c)) ∧ Doc w b (setL key val R) (N + 1) w' ∧ Chg W w' (fun k => k = b) := by
  unfold setL
  by_cases hp : pairB (key, val) = true
  · rw [if_pos hp]
    exact (rset_any h.s (by have := h.n; omega) key hk x val hr hp).mono fun e w' ⟨h1, h2, h3⟩ => ⟨⟨_, h1⟩, ⟨h2, Nat.le_trans (putL_length _ R) (by have := h.n; omega), putL_shortD hl h.v, h.c.trans' h3⟩, h3⟩
  · rw [if_neg hp]
    refine (rset_noD h.s key hk x val hr (by simpa using hp)).mono ?_
    rintro e w' ⟨he, rfl⟩
    exact ⟨⟨_, he⟩, h.more (by omega), Chg.refl _ _⟩
theorem rofD_any (n : Nat) (w : World) : Calls Tryz.prog 81 #[.int .u64 (n : Int)] w fun e w' => e = .returned (.agg #[.int .u64 (n : Int), .int .u64 0, .int .u64 0, .int .u64 0]) ∧ Below w.heap.size w w' := by
  go_enter Tryz.func81, Tryz.ntmps81
  go_wp2_with fail
  refine bodyPost_ret (v := .agg #[.int .u64 (n : Int), .int .u64 0, .int .u64 0, .int .u64 0]) ?_ rfl ⟨rfl, ?_⟩
  · simp [results, Tryz.results81, go_sem]
  · exact (Below.refl _ _).alloc (Nat.le_refl _) _
theorem u4_one (n : Nat) : (U4.mk n 0 0 0).nat = n := by simp [U4.nat]
set_option maxHeartbeats 4000000 in
theorem rnewid_any {w W : World} {b N : Nat} {R : List Pr} (h : Doc w b R N W) (hN : N + 1 ≤ 100000000) (kind : ByteArray) (hk : kind.size ≤ 100000000) (hd : (decB (numN R kind)).size ≤ 1000) :
    Calls Tryz.prog 24 #[.pointer (some ⟨b, 0, none⟩), .string kind] W fun e w' => e = .returned (.string (newID R kind)) ∧ Doc w b (newR R kind) (N + 1) w' ∧ Chg W w' (fun k => k = b) := by
  have s1 : numP.size = 6 := rfl
  have z1 := kNum_size kind
  have hc1 := fun Z => txt_add numP kind (by rw [s1]; omega) Z
  have HG := Lib.hid (rget_any h.s (Nat.le_trans h.n (by omega)) h.v (kNum kind))
  have HL : ((getL R (kNum kind)).getD []).length ≤ 2000000 := by
    cases e : getL R (kNum kind) with
    | none => simp
    | some v => exact h.v _ (getL_mem e)
  have hnn : numN R kind < 18446744073709551616 := rN_ltP _ _
  have hc2 := fun Z => txt_add kind dashB (by rw [dash_size]; omega) Z
  have hc3 := fun Z => txt_add (kind ++ dashB) (decB (numN R kind)) (by rw [ByteArray.size_append, dash_size]; omega) Z
  have HS : Hid (∀ (Z : World) (hz : Below W.heap.size W Z) (v : Value) (hr : Rd Z Z.heap.size v (be ((numN R kind + 1) % 18446744073709551616) 8)), Calls Tryz.prog 79 #[.pointer (some ⟨b, 0, none⟩), .string (kNum kind), v] Z fun e w' => (∃ c, e = .returned (.int .i64 c)) ∧ Doc w b (setL (kNum kind) (be ((numN R kind + 1) % 18446744073709551616) 8) R) (N + 1) w' ∧ Chg Z w' (fun k => k = b)) :=
    Lib.hid fun Z hz v hr => (h.up hz).setAny hN (kNum kind) (by rw [z1]; unfold maxLen; omega) v _ hr (by rw [be_length]; decide)
  have HF := Lib.hid (fun Z : World => rofD_any (numN R kind) Z)
  have HP : Hid (∀ Z, Calls Tryz.prog 80 #[.agg #[.int .u64 (numN R kind : Int), .int .u64 0, .int .u64 0, .int .u64 0]] Z fun e w' => e = .returned (.string (decB (numN R kind))) ∧ Below Z.heap.size Z w') := Lib.hid fun Z => by
    have := rprint_any ⟨numN R kind, 0, 0, 0⟩ Z ⟨hnn, by show (0 : Nat) < _; decide, by show (0 : Nat) < _; decide, by show (0 : Nat) < _; decide⟩
    rw [u4_one] at this
    exact this
  have hwrap : IntKind.u64.wrap ((numN R kind : Int) + 1) = (((numN R kind + 1) % 18446744073709551616 : Nat) : Int) := by
    unfold IntKind.wrap
    simp [IntKind.bits, IntKind.signed]
  have HN : Hid (∀ Z, Calls Tryz.prog 74 #[.slice none 0 0, .int .u64 (((numN R kind + 1) % 18446744073709551616 : Nat) : Int)] Z fun e w' => ∃ v', e = .returned v' ∧ Own w' Z.heap.size v' (be ((numN R kind + 1) % 18446744073709551616) 8) ∧ Below Z.heap.size Z w') := Lib.hid fun Z => by
    have := refN_any (.slice none 0 0) [] ((numN R kind + 1) % 18446744073709551616) Z (Rd.nil _ _) (Nat.mod_lt _ (by decide)) (by simp)
    rwa [List.nil_append] at this
  have hfin : newR R kind = setL (kNum kind) (be ((numN R kind + 1) % 18446744073709551616) 8) R := rfl
  have hidf : newID R kind = (kind ++ dashB) ++ decB (numN R kind) := rfl
  rw [hfin, hidf]
  have hnum : numN R kind = (rN ((getL R (kNum kind)).getD []) 0).1 := rfl
  have hnn0 : getL R (kNum kind) = none → numN R kind = 0 := fun e => by rw [hnum, e]; rfl
  obtain ⟨m, hm⟩ : ∃ m, m = (numN R kind + 1) % 18446744073709551616 := ⟨_, rfl⟩
  rw [← hm] at HS HN hwrap ⊢
  generalize setL (kNum kind) (be m 8) R = R2 at *
  generalize (kind ++ dashB) ++ decB (numN R kind) = IDv at *
  generalize decB (numN R kind) = DV at *
  generalize kind ++ dashB = kd at *
  have hpos : kNum kind = numP ++ kind := rfl
  rw [← hpos] at hc1
  generalize kNum kind = key at *
  unfold numP at hc1
  unfold dashB at hc2
  generalize numN R kind = n at *
  generalize getL R key = o at *
  clear hfin hidf hpos hd hnn h z1
  cases o with
  | none =>
    have hn0 := hnn0 rfl
    subst hn0
    have hm1 : m = 1 := hm
    subst hm1
    have HN1 : Hid (∀ Z, Calls Tryz.prog 74 #[.slice none 0 0, .int .u64 1] Z fun e w' => ∃ v', e = .returned v' ∧ Own w' Z.heap.size v' (be 1 8) ∧ Below Z.heap.size Z w') := Lib.hid HN.out
    have HF1 : Hid (∀ Z, Calls Tryz.prog 81 #[.int .u64 0] Z fun e w' => e = .returned (.agg #[.int .u64 0, .int .u64 0, .int .u64 0, .int .u64 0]) ∧ Below Z.heap.size Z w') := Lib.hid HF.out
    have HP1 : Hid (∀ Z, Calls Tryz.prog 80 #[.agg #[.int .u64 0, .int .u64 0, .int .u64 0, .int .u64 0]] Z fun e w' => e = .returned (.string DV) ∧ Below Z.heap.size Z w') := Lib.hid HP.out
    clear HN HF HP hwrap hm hnum hnn0
    go_enter Tryz.func24, Tryz.ntmps24
    go_wp2_with fail
    refine HG.out.mono ?_
    rintro e w1 ⟨v, rfl, hov, hb1⟩
    obtain ⟨A, c, rfl⟩ := hov.form
    clear hov HG
    go_wp2_with fail
    refine (HN1.out _).mono ?_
    rintro e w4 ⟨v4, rfl, ho4, hb4⟩
    have hq4 := below_chain hb1 hb1.size hb4
    have HS4 := Lib.hid (HS.out _ hq4 v4 ho4.rd)
    obtain ⟨A4, c4, rfl⟩ := ho4.form
    generalize (be 1 8).length = n4 at *
    clear ho4 HS HN1 hb4
    go_wp2_with fail
    refine HS4.out.mono ?_
    rintro e w5 ⟨⟨c5, rfl⟩, hA5, hk5⟩
    have hkk := (Chg.of_below hq4 _).trans' hk5
    clear HS4
    go_wp2_with fail
    refine (HF1.out _).mono ?_
    rintro e w6 ⟨rfl, hb6⟩
    go_wp2_with fail
    refine (HP1.out _).mono ?_
    rintro e w7 ⟨rfl, hb7⟩
    have hb8 := below_chain hb6 hb6.size hb7
    go_wp2_with fail
    go_ret
    exact ⟨rfl, hA5.up hb8, hkk.trans' (Chg.of_below hb8 _)⟩
  | some l =>
    have HNUM : Hid (n = (rN l 0).1) := Lib.hid hnum
    have HL' := Lib.hid (show l.length ≤ 2000000 from HL)
    clear hm hnum hnn0 HL
    go_enter Tryz.func24, Tryz.ntmps24
    go_wp2_with fail
    refine HG.out.mono ?_
    rintro e w1 ⟨v, rfl, hov, hb1⟩
    have HO := Lib.hid (open_dd v l w1 hov.rd (by have := HL'.out; omega))
    obtain ⟨A, c, rfl⟩ := hov.form
    clear hov HG
    go_wp2_with fail
    refine HO.out.mono ?_
    rintro e w2 ⟨g, rfl, hr2, hb2⟩
    have hq2 := below_chain hb1 hb1.size hb2
    have hg := hr2.from_
    have HR := Lib.hid (dN_any hr2)
    rw [← HNUM.out] at HR
    clear HO hr2 hb2
    go_wp2_with fail
    refine HR.out.mono ?_
    rintro e w3 ⟨rfl, -, hg3⟩
    have hq3 := hq2.grown hg3 hq2.size (fun k hk => by injection hk with hk; have := hb1.size; omega)
    clear HR hg3 hg hb1 hq2
    go_wp2_with fail
    refine (HN.out _).mono ?_
    rintro e w4 ⟨v4, rfl, ho4, hb4⟩
    have hq4 := below_chain hq3 hq3.size hb4
    have HS4 := Lib.hid (HS.out _ hq4 v4 ho4.rd)
    obtain ⟨A4, c4, rfl⟩ := ho4.form
    generalize (be m 8).length = n4 at *
    clear ho4 HS HN hb4 hq3
    go_wp2_with fail
    refine HS4.out.mono ?_
    rintro e w5 ⟨⟨c5, rfl⟩, hA5, hk5⟩
    have hkk := (Chg.of_below hq4 _).trans' hk5
    clear HS4
    go_wp2_with fail
    refine (HF.out _).mono ?_
    rintro e w6 ⟨rfl, hb6⟩
    go_wp2_with fail
    refine (HP.out _).mono ?_
    rintro e w7 ⟨rfl, hb7⟩
    have hb8 := below_chain hb6 hb6.size hb7
    go_wp2_with fail
    go_ret
    exact ⟨rfl, hA5.up hb8, hkk.trans' (Chg.of_below hb8 _)⟩
section
variable {B : Nat} {y : Lyr} {b k : Nat} {Rp Rd : List Pr} {W W' : World}
theorem Two.at0 (h : Two B y b Rp Rd k W) : ∃ n f, n ≤ y.n + k ∧ PileS W [⟨y.b, y.m, n, f⟩] ∧ At W ⟨y.b, y.m, n, f⟩ [] Rp 0 W := by
  obtain ⟨n, f, h1, h2, h3⟩ := h.p
  exact ⟨n, f, h3, h1, BankS.refl h1 h2, h1⟩
end
end Go.Proofs.YtpcoonnfaoakhaaGreatDoor
namespace Go.Proofs.YtpcoonnfaoakhaaGreatDoor
set_option maxRecDepth 100000
open Go Go.RowKit
set_option linter.unusedVariables false

/-- a document's store that can be read -/
structure RGet (w : World) (b : Nat) (R : List Pr) : Prop where
  get : ∀ Z, Below w.heap.size w Z → ∀ key : ByteArray, key.size ≤ maxLen → Calls Tryz.prog 76 #[.pointer (some ⟨b, 0, none⟩), .string key] Z fun e w' => ∃ v, e = .returned (.tuple #[v, .bool (getL R key).isSome]) ∧ Own w' Z.heap.size v ((getL R key).getD []) ∧ Below Z.heap.size Z w'
  short : ∀ key v, getL R key = some v → v.length ≤ 2000000
theorem RdP.keptX {w w' : World} {v : Value} {ps : List Pr} (h : RdP w w.heap.size v ps) (hk : Kept w w') : RdP w' w'.heap.size v ps := by
  have hsz : w.heap.size ≤ w'.heap.size := by obtain ⟨F, h1, _⟩ := hk; exact h1.size
  obtain ⟨A, c, hv, h1, h2, hp⟩ := h
  refine ⟨A, c, hv, h1, h2, fun h0 => ?_⟩
  obtain ⟨b, o, hA, hb, hcell⟩ := hp h0
  refine ⟨b, o, hA, by omega, fun j hj => ?_⟩
  obtain ⟨q1, x, q2, q3⟩ := hcell j hj
  exact ⟨hk.cell q1, x, hk.cell q2, hk.rd q3⟩
theorem DocS.upX {w w' : World} {b : Nat} {R : List Pr} (h : DocS w b R) (hb : Below w.heap.size w w') : DocS w' b R := by
  obtain ⟨v, h1, h2⟩ := h
  exact ⟨v, (hb.block _ (blk_lt h1)).trans h1, h2.keptX (Kept.of_belowX hb)⟩
theorem RGet.of {w : World} {b : Nat} {R : List Pr} (h : DocS w b R) (hn : R.length ≤ 100000000) (hv : ∀ p ∈ R, p.2.length ≤ 2000000) : RGet w b R where
  get := fun Z hz key _ => rget_any (h.upX hz) hn hv key
  short := fun key v e => hv _ (getL_mem e)
theorem RGet.up {w w' : World} {b : Nat} {R : List Pr} (h : RGet w b R) (hb : Below w.heap.size w w') : RGet w' b R where
  get := fun Z hz key hk => h.get Z (below_chain hb hb.size hz) key hk
  short := h.short
theorem rcnkey_any (a : ByteArray) (w : World) (ha : a.size ≤ 100000000) : Calls Tryz.prog 191 #[.string a] w fun e w' => e = .returned (.string (kConn a)) ∧ w = w' := by
  have s1 : connP.size = 9 := rfl
  have h1 := fun W => txt_add connP a (by rw [s1]; omega) W
  unfold kConn
  unfold connP at *
  go_enter Tryz.func191, Tryz.ntmps191
  go_wp2
  go_ret
  exact ⟨rfl, rfl⟩
theorem rchkey_any (a : ByteArray) (w : World) (ha : a.size ≤ 100000000) : Calls Tryz.prog 35 #[.string a] w fun e w' => e = .returned (.string (kChn a)) ∧ w = w' := by
  have s1 : chanP.size = 9 := rfl
  have h1 := fun W => txt_add chanP a (by rw [s1]; omega) W
  unfold kChn
  unfold chanP at *
  go_enter Tryz.func35, Tryz.ntmps35
  go_wp2
  go_ret
  exact ⟨rfl, rfl⟩
set_option maxHeartbeats 8000000 in
theorem rcnget_any {w : World} {b : Nat} {R : List Pr} (h : RGet w b R) (a : ByteArray) (ha : a.size ≤ 100000000) :
    Calls Tryz.prog 152 #[.pointer (some ⟨b, 0, none⟩), .string a] w fun e w' => e = .returned (cnV (getCn R a)) ∧ Below w.heap.size w w' := by
  have HG := Lib.hid (fun (Z : World) (hz : Below w.heap.size w Z) => h.get Z hz (kConn a) (by rw [kConn_size]; unfold maxLen; omega))
  have HFT : Hid (∀ v, getL R (kConn a) = some v → v.length ≤ 2000000) := Lib.hid (fun v e => h.short _ v e)
  obtain ⟨B, hB⟩ : ∃ B : Addr, B = ⟨b, 0, none⟩ := ⟨_, rfl⟩
  rw [← hB] at HG ⊢
  clear hB h
  have HK := Lib.hid (fun W => (rcnkey_any a W ha).mono fun e w' ⟨h1, h2⟩ => (⟨h1, h2.symm⟩ : _ ∧ w' = W))
  have HI : Hid (∀ Z : World, Calls Tryz.prog 94 #[.string a] Z fun e w' => e = .returned (.bool (identB a)) ∧ Z = w') := Lib.hid fun Z => rident_any a Z (by unfold maxLen; omega)
  obtain ⟨V, hV⟩ : ∃ V, V = cnV (getCn R a) := ⟨_, rfl⟩
  rw [← hV]
  unfold getCn at hV
  generalize getL R (kConn a) = o at *
  generalize kConn a = key at *
  generalize identB a = bi at *
  have hk0 := heap_alloc_new w (.cells #[.int .u64 0, .string ⟨#[]⟩, .string ⟨#[]⟩, .string ⟨#[]⟩] 133)
  have ha0 : Below w.heap.size w (w.alloc (.cells #[.int .u64 0, .string ⟨#[]⟩, .string ⟨#[]⟩, .string ⟨#[]⟩] 133)) := (Below.refl _ _).alloc (Nat.le_refl _) _
  go_enter Tryz.func152, Tryz.ntmps152
  go_wp2_with fail
  generalize w.alloc (.cells #[.int .u64 0, .string ⟨#[]⟩, .string ⟨#[]⟩, .string ⟨#[]⟩] 133) = w0 at *
  refine (HK.out _).mono ?_
  rintro e w9 ⟨rfl, rfl⟩
  go_wp2_with fail
  refine (HG.out _ ha0).mono ?_
  rintro e w1 ⟨v, rfl, hov, hb1⟩
  have hq1 := below_chain ha0 ha0.size hb1
  have hk1 := (hb1.block _ (blk_lt hk0)).trans hk0
  have hl0 := blk_lt hk0
  obtain ⟨gr, hgr⟩ : ∃ gr, gr = w.heap.size := ⟨_, rfl⟩
  rw [← hgr] at hk1
  clear HG HK ha0 hk0 hb1
  cases o with
  | none =>
    have hv : V = .tuple #[CnV.none.val, .bool false] := by rw [hV]; cases bi <;> rfl
    obtain ⟨A, c, rfl⟩ := hov.form
    have r0 := blk_cell hk1 0
    have q0 := blk_free hk1 0
    have r1 := blk_cell hk1 1
    have q1 := blk_free hk1 1
    have r2 := blk_cell hk1 2
    have q2 := blk_free hk1 2
    have r3 := blk_cell hk1 3
    have q3 := blk_free hk1 3
    clear hov HFT hV HI
    subst hgr
    have hk7 := set4P hk1 (.int .u64 0) (.string ⟨#[]⟩) (.string ⟨#[]⟩) (.string ⟨#[]⟩)
    have hb7 := below_set4P hq1 (Nat.le_refl _) (.int .u64 0) (.string ⟨#[]⟩) (.string ⟨#[]⟩) (.string ⟨#[]⟩)
    have HD := Lib.hid (And.intro (blk_cell hk7 0) (And.intro (blk_cell hk7 1) (And.intro (blk_cell hk7 2) (blk_cell hk7 3))))
    have HVV := Lib.hid hv
    clear hk7 hv
    go_wp2_with fail
    obtain ⟨d0, d1, d2, d3⟩ := HD.out
    refine bodyPost_ret (v := V) ?_ rfl ⟨rfl, hb7⟩
    rw [HVV.out]
    simp at d0 d1 d2 d3
    simp [results, Tryz.results152, go_sem, d0, d1, d2, d3, CnV.val, CnV.none]
  | some l =>
    have hll := HFT.out l rfl
    have HO := Lib.hid (open_dd v l w1 hov.rd (by omega))
    obtain ⟨A, c, rfl⟩ := hov.form
    clear hov HFT
    go_wp2_with fail
    refine (HI.out _).mono ?_
    rintro e w9 ⟨rfl, rfl⟩
    clear HI
    cases bi with
    | false =>
      have hv : V = .tuple #[CnV.none.val, .bool false] := by rw [hV]; rfl
      have r0 := blk_cell hk1 0
      have q0 := blk_free hk1 0
      have r1 := blk_cell hk1 1
      have q1 := blk_free hk1 1
      have r2 := blk_cell hk1 2
      have q2 := blk_free hk1 2
      have r3 := blk_cell hk1 3
      have q3 := blk_free hk1 3
      clear hV HO
      subst hgr
      have hk7 := set4P hk1 (.int .u64 0) (.string ⟨#[]⟩) (.string ⟨#[]⟩) (.string ⟨#[]⟩)
      have hb7 := below_set4P hq1 (Nat.le_refl _) (.int .u64 0) (.string ⟨#[]⟩) (.string ⟨#[]⟩) (.string ⟨#[]⟩)
      have HD := Lib.hid (And.intro (blk_cell hk7 0) (And.intro (blk_cell hk7 1) (And.intro (blk_cell hk7 2) (blk_cell hk7 3))))
      have HVV := Lib.hid hv
      clear hk7 hv
      go_wp2_with fail
      obtain ⟨d0, d1, d2, d3⟩ := HD.out
      refine bodyPost_ret (v := V) ?_ rfl ⟨rfl, hb7⟩
      rw [HVV.out]
      simp at d0 d1 d2 d3
      simp [results, Tryz.results152, go_sem, d0, d1, d2, d3, CnV.val, CnV.none]
    | true =>
      have HV := Lib.hid (show V = cnV (readCn l) from hV)
      unfold cnV readCn at HV
      clear hV
      go_wp2_with fail
      refine HO.out.mono ?_
      rintro e w2 ⟨g, rfl, hr2, hb2⟩
      have hq2 := below_chain hq1 hq1.size hb2
      have hk2 := (hb2.block _ (blk_lt hk1)).trans hk1
      have hgl := hr2.lt
      have hlo := blk_lt hk1
      generalize w1.heap.size = lo at *
      clear HO hb2 hk1 hq1
      have hgi := hr2.from_
      obtain ⟨gd, hgd⟩ : ∃ gd, gd = w2.heap.size := ⟨_, rfl⟩
      have P1 : PZ 188 w gr gd lo g 133 133 #[.int .u64 0, .string ⟨#[]⟩, .string ⟨#[]⟩, .string ⟨#[]⟩] #[.int .u64 0, .string ⟨#[]⟩, .string ⟨#[]⟩, .string ⟨#[]⟩] l 0 (w2.alloc (.cells #[.int .u64 0, .string ⟨#[]⟩, .string ⟨#[]⟩, .string ⟨#[]⟩] 133)) :=
        ⟨hq2.alloc hq2.size _, by omega, by have := hq2.size; omega, (Below.heap_alloc w2 _ _ (blk_lt hk2)).trans hk2, by rw [hgd]; exact heap_alloc_new w2 _, hr2.below ((Below.refl _ _).alloc (Nat.le_refl _) _), by omega, by omega⟩
      clear hq2 hk2 hr2 hgl hlo hgi
      go_wp2_with fail
      rw [← hgd]
      generalize w2.alloc (.cells #[.int .u64 0, .string ⟨#[]⟩, .string ⟨#[]⟩, .string ⟨#[]⟩] 133) = wz at *
      clear hgd
      refine (dN_any P1.rd).mono ?_
      rintro e wa1 ⟨rfl, hr, hg⟩
      replace P1 := P1.call hg hr
      clear hr hg
      have b_xa := rN_ltP l 0
      generalize rN l 0 = Q at *
      obtain ⟨xa, l_xa, f_xa⟩ := Q
      dsimp only at P1 HV b_xa ⊢
      have z0 := blk_cell P1.loc 0
      have f0 := blk_free P1.loc 0
      have P2 : PZ 188 w gr gd lo g _ 133 _ #[.int .u64 (xa : Int), .string ⟨#[]⟩, .string ⟨#[]⟩, .string ⟨#[]⟩] l_xa f_xa ((wa1).setCell ⟨gd, 0, none⟩ (.int .u64 (xa : Int))) := (P1.set 0 (.int .u64 (xa : Int)))
      clear P1
      go_wp2_with fail
      generalize (wa1).setCell ⟨gd, 0, none⟩ (.int .u64 (xa : Int)) = wb1 at *
      refine (dT_any P2.rd).mono ?_
      rintro e wa2 ⟨rfl, hr, hg⟩
      replace P2 := P2.call hg hr
      clear hr hg
      have b_xb := rB_le l_xa f_xa
      generalize rB l_xa f_xa = Q at *
      obtain ⟨xb, l_xb, f_xb⟩ := Q
      dsimp only at P2 HV b_xb ⊢
      have z0 := blk_cell P2.loc 1
      have f0 := blk_free P2.loc 1
      have P3 : PZ 188 w gr gd lo g _ 133 _ #[.int .u64 (xa : Int), .string ⟨xb.toArray⟩, .string ⟨#[]⟩, .string ⟨#[]⟩] l_xb f_xb ((wa2).setCell ⟨gd, 1, none⟩ (.string ⟨xb.toArray⟩)) := (P2.set 1 (.string ⟨xb.toArray⟩))
      clear P2
      go_wp2_with fail
      generalize (wa2).setCell ⟨gd, 1, none⟩ (.string ⟨xb.toArray⟩) = wb2 at *
      refine (dT_any P3.rd).mono ?_
      rintro e wa3 ⟨rfl, hr, hg⟩
      replace P3 := P3.call hg hr
      clear hr hg
      have b_xc := rB_le l_xb f_xb
      generalize rB l_xb f_xb = Q at *
      obtain ⟨xc, l_xc, f_xc⟩ := Q
      dsimp only at P3 HV b_xc ⊢
      have z0 := blk_cell P3.loc 2
      have f0 := blk_free P3.loc 2
      have P4 : PZ 188 w gr gd lo g _ 133 _ #[.int .u64 (xa : Int), .string ⟨xb.toArray⟩, .string ⟨xc.toArray⟩, .string ⟨#[]⟩] l_xc f_xc ((wa3).setCell ⟨gd, 2, none⟩ (.string ⟨xc.toArray⟩)) := (P3.set 2 (.string ⟨xc.toArray⟩))
      clear P3
      go_wp2_with fail
      generalize (wa3).setCell ⟨gd, 2, none⟩ (.string ⟨xc.toArray⟩) = wb3 at *
      refine (dT_any P4.rd).mono ?_
      rintro e wa4 ⟨rfl, hr, hg⟩
      replace P4 := P4.call hg hr
      clear hr hg
      have b_xd := rB_le l_xc f_xc
      generalize rB l_xc f_xc = Q at *
      obtain ⟨xd, l_xd, f_xd⟩ := Q
      dsimp only at P4 HV b_xd ⊢
      have z0 := blk_cell P4.loc 3
      have f0 := blk_free P4.loc 3
      have P5 : PZ 188 w gr gd lo g _ 133 _ #[.int .u64 (xa : Int), .string ⟨xb.toArray⟩, .string ⟨xc.toArray⟩, .string ⟨xd.toArray⟩] l_xd f_xd ((wa4).setCell ⟨gd, 3, none⟩ (.string ⟨xd.toArray⟩)) := (P4.set 3 (.string ⟨xd.toArray⟩))
      clear P4
      go_wp2_with fail
      generalize (wa4).setCell ⟨gd, 3, none⟩ (.string ⟨xd.toArray⟩) = wb4 at *
      refine (dEnd_any P5.rd).mono ?_
      rintro e w7 ⟨rfl, rfl⟩
      generalize rEnd l_xd f_xd = E at *
      subst hgr
      by_cases hE : E = 0
      · subst hE
        have hv := HV.out
        rw [if_pos rfl] at hv
        (try dsimp only at hv)
        clear HV
        have r0 := blk_cell P5.res 0
        have q0 := blk_free P5.res 0
        have r1 := blk_cell P5.res 1
        have q1 := blk_free P5.res 1
        have r2 := blk_cell P5.res 2
        have q2 := blk_free P5.res 2
        have r3 := blk_cell P5.res 3
        have q3 := blk_free P5.res 3
        have s0 := blk_cell P5.loc 0
        have s1 := blk_cell P5.loc 1
        have s2 := blk_cell P5.loc 2
        have s3 := blk_cell P5.loc 3
        have hk7 := set4P P5.res (.int .u64 (xa : Int)) (.string ⟨xb.toArray⟩) (.string ⟨xc.toArray⟩) (.string ⟨xd.toArray⟩)
        have hb7 := below_set4P P5.below P5.hr (.int .u64 (xa : Int)) (.string ⟨xb.toArray⟩) (.string ⟨xc.toArray⟩) (.string ⟨xd.toArray⟩)
        have HD := Lib.hid (And.intro (blk_cell hk7 0) (And.intro (blk_cell hk7 1) (And.intro (blk_cell hk7 2) (blk_cell hk7 3))))
        have HVV := Lib.hid hv
        clear hk7 hv
        go_wp2_with fail
        obtain ⟨d0, d1, d2, d3⟩ := HD.out
        refine bodyPost_ret (v := V) ?_ rfl ⟨rfl, hb7⟩
        rw [HVV.out]
        simp at d0 d1 d2 d3
        simp [results, Tryz.results152, go_sem, d0, d1, d2, d3, CnV.val, CnV.none]
      · have hne : (E != 0) = true := by simpa using hE
        have hv := HV.out
        rw [if_neg hE] at hv
        (try dsimp only at hv)
        clear HV
        have r0 := blk_cell P5.res 0
        have q0 := blk_free P5.res 0
        have r1 := blk_cell P5.res 1
        have q1 := blk_free P5.res 1
        have r2 := blk_cell P5.res 2
        have q2 := blk_free P5.res 2
        have r3 := blk_cell P5.res 3
        have q3 := blk_free P5.res 3
        have hk7 := set4P P5.res (.int .u64 0) (.string ⟨#[]⟩) (.string ⟨#[]⟩) (.string ⟨#[]⟩)
        have hb7 := below_set4P P5.below P5.hr (.int .u64 0) (.string ⟨#[]⟩) (.string ⟨#[]⟩) (.string ⟨#[]⟩)
        have HD := Lib.hid (And.intro (blk_cell hk7 0) (And.intro (blk_cell hk7 1) (And.intro (blk_cell hk7 2) (blk_cell hk7 3))))
        have HVV := Lib.hid hv
        clear hk7 hv
        go_wp2_with fail
        obtain ⟨d0, d1, d2, d3⟩ := HD.out
        refine bodyPost_ret (v := V) ?_ rfl ⟨rfl, hb7⟩
        rw [HVV.out]
        simp at d0 d1 d2 d3
        simp [results, Tryz.results152, go_sem, d0, d1, d2, d3, CnV.val, CnV.none]
end Go.Proofs.YtpcoonnfaoakhaaGreatDoor
namespace Go.Proofs.YtpcoonnfaoakhaaGreatDoor
set_option maxRecDepth 100000
open Go.RowKit

set_option maxHeartbeats 400000 in
theorem refF_any (v : Value) (yes : Bool) (l : List UInt8) (w : World) (hr : Rd w w.heap.size v l) (hl : l.length ≤ 140737488355320) :
    Calls Tryz.prog 98 #[v, .bool yes] w fun e w' => ∃ v', e = .returned v' ∧ Own w' w.heap.size v' (l ++ [fb yes]) ∧ Below w.heap.size w w' := by
  obtain ⟨i0, hi, hz, hsz, hby⟩ := info_parts Tryz.infoByte
  have hbe : Below w.heap.size w (w.alloc (.cells #[] 5)) := (Below.refl _ _).alloc (Nat.le_refl _) _
  go_enter Tryz.func98, Tryz.ntmps98
  cases yes
  · go_wp2_with (first
      | (at_builtin; refine wpList_append_rd rfl (.tmp 6) (.tmp 7) _ rfl i0 Tryz.underlying27 hi hz hsz hby rfl (own_empty w (Nat.le_refl _)) rfl (hr.below hbe) (by simp; omega) hbe.size ?_; intro v1 w1 ho1 hg1 _; have hb1 : Below w.heap.size w w1 := Own.below_grown hbe (own_empty w (Nat.le_refl _)) (Nat.le_refl _) hbe.size hg1)
      | (at_builtin; refine wpList_append_rd rfl (.tmp 13) (.tmp 14) _ rfl i0 Tryz.underlying27 hi hz hsz hby rfl (ho1.alloc _) rfl (rd_lit w1 _ [0] 1 rfl (by simp [bcells, bval]) (by simp [maxLen])) (by simp; omega) (by have := hb1.size; simp; omega) ?_; intro v3 w3 ho3 hg3 _))
    go_ret
    exact ⟨_, rfl, ho3, Own.below_grown (hb1.alloc hb1.size _) (ho1.alloc _) (Nat.le_refl _) (by have := hb1.size; simp; omega) hg3⟩
  · go_wp2_with (first
      | (at_builtin; refine wpList_append_rd rfl (.tmp 6) (.tmp 7) _ rfl i0 Tryz.underlying27 hi hz hsz hby rfl (own_empty w (Nat.le_refl _)) rfl (hr.below hbe) (by simp; omega) hbe.size ?_; intro v1 w1 ho1 hg1 _; have hb1 : Below w.heap.size w w1 := Own.below_grown hbe (own_empty w (Nat.le_refl _)) (Nat.le_refl _) hbe.size hg1)
      | (at_builtin; refine wpList_append_rd rfl (.tmp 10) (.tmp 11) _ rfl i0 Tryz.underlying27 hi hz hsz hby rfl (ho1.alloc _) rfl (rd_lit w1 _ [1] 1 rfl (by simp [bcells, bval]) (by simp [maxLen])) (by simp; omega) (by have := hb1.size; simp; omega) ?_; intro v3 w3 ho3 hg3 _))
    go_ret
    exact ⟨_, rfl, ho3, Own.below_grown (hb1.alloc hb1.size _) (ho1.alloc _) (Nat.le_refl _) (by have := hb1.size; simp; omega) hg3⟩


end Go.Proofs.YtpcoonnfaoakhaaGreatDoor
namespace Go.Proofs.YtpcoonnfaoakhaaGreatDoor
set_option maxRecDepth 100000
open Go Go.RowKit
set_option linter.unusedVariables false

theorem rTSx (v : Value) (s : ByteArray) (l : List UInt8) (Z : World) (hr : Rd Z Z.heap.size v l) (hs : s.size ≤ maxLen) (hl : l.length ≤ 140737488355328 - 65539) :
    Calls Tryz.prog 97 #[v, .string s] Z fun e w' => ∃ v', e = .returned v' ∧ Own w' Z.heap.size v' (l ++ encS s) ∧ Below Z.heap.size Z w' :=
  (refT_any v s l Z hr hs hl).mono fun e w' ⟨v', h1, h2, h3⟩ => ⟨v', h1, by rw [List.append_assoc] at h2; exact h2, h3⟩
set_option maxHeartbeats 8000000 in
theorem rchbytes_any (c : ChV) (w : World) (h_st : c.st < 18446744073709551616) (h_po : c.po.size ≤ maxLen) (h_cp : c.cp.size ≤ maxLen) (h_cn : c.cn.size ≤ maxLen) (h_cc : c.cc.size ≤ maxLen) (h_ve : c.ve.size ≤ maxLen) :
    Calls Tryz.prog 33 #[c.val] w fun e w' => ∃ v', e = .returned v' ∧ Own w' w.heap.size v' (chB c) ∧ Below w.heap.size w w' := by
  obtain ⟨st, od, po, cp, cn, cc, ve⟩ := c
  dsimp only at h_st h_po h_cp h_cn h_cc h_ve
  unfold ChV.val chB
  dsimp only
  have hbox := heap_alloc_new w (.cells #[.int .u64 (st : Int), .bool od, .string po, .string cp, .string cn, .string cc, .string ve] 71)
  have ha0 : Below w.heap.size w (w.alloc (.cells #[.int .u64 (st : Int), .bool od, .string po, .string cp, .string cn, .string cc, .string ve] 71)) := (Below.refl _ _).alloc (Nat.le_refl _) _
  generalize hW0 : w.alloc (.cells #[.int .u64 (st : Int), .bool od, .string po, .string cp, .string cn, .string cc, .string ve] 71) = W0 at *
  have hgl := blk_lt hbox
  generalize hgg : w.heap.size = g0 at *
  have HC : Hid (∀ Z, Below W0.heap.size W0 Z → Z.cell? ⟨g0, 0, none⟩ = some (.int .u64 (st : Int)) ∧ Z.cell? ⟨g0, 1, none⟩ = some (.bool od) ∧ Z.cell? ⟨g0, 2, none⟩ = some (.string po) ∧ Z.cell? ⟨g0, 3, none⟩ = some (.string cp) ∧ Z.cell? ⟨g0, 4, none⟩ = some (.string cn) ∧ Z.cell? ⟨g0, 5, none⟩ = some (.string cc) ∧ Z.cell? ⟨g0, 6, none⟩ = some (.string ve)) := Lib.hid fun Z hz => ⟨blk_cell ((hz.block _ hgl).trans hbox) 0, blk_cell ((hz.block _ hgl).trans hbox) 1, blk_cell ((hz.block _ hgl).trans hbox) 2, blk_cell ((hz.block _ hgl).trans hbox) 3, blk_cell ((hz.block _ hgl).trans hbox) 4, blk_cell ((hz.block _ hgl).trans hbox) 5, blk_cell ((hz.block _ hgl).trans hbox) 6⟩
  have hkD : Below W0.heap.size W0 W0.drew := Below.drew (Below.refl _ _)
  have l_po : (encS po).length ≤ 65539 := encB_lenP (strBytes po)
  have l_cp : (encS cp).length ≤ 65539 := encB_lenP (strBytes cp)
  have l_cn : (encS cn).length ≤ 65539 := encB_lenP (strBytes cn)
  have l_cc : (encS cc).length ≤ 65539 := encB_lenP (strBytes cc)
  have l_ve : (encS ve).length ≤ 65539 := encB_lenP (strBytes ve)
  have H1 : Hid (∀ (Z : World), Calls Tryz.prog 74 #[.slice none 0 0, .int .u64 (st : Int)] Z fun e w' => ∃ v', e = .returned v' ∧ Own w' Z.heap.size v' (be st 8) ∧ Below Z.heap.size Z w') :=
    Lib.hid fun Z => refN_any (.slice none 0 0) _ st Z (Rd.nil _ _) h_st (by simp [be_length]; try omega)
  have H2 : Hid (∀ (v : Value) (Z : World) (B : Nat), Own Z B v (be st 8) → Calls Tryz.prog 98 #[v, .bool od] Z fun e w' => ∃ v', e = .returned v' ∧ Own w' Z.heap.size v' (be st 8 ++ [fb od]) ∧ Below Z.heap.size Z w') :=
    Lib.hid fun v Z B ho => refF_any v od _ Z ho.rd (by simp [be_length]; try omega)
  have H3 : Hid (∀ (v : Value) (Z : World) (B : Nat), Own Z B v (be st 8 ++ [fb od]) → Calls Tryz.prog 97 #[v, .string po] Z fun e w' => ∃ v', e = .returned v' ∧ Own w' Z.heap.size v' ((be st 8 ++ [fb od]) ++ encS po) ∧ Below Z.heap.size Z w') :=
    Lib.hid fun v Z B ho => rTSx v po _ Z ho.rd h_po (by simp [be_length]; try omega)
  have H4 : Hid (∀ (v : Value) (Z : World) (B : Nat), Own Z B v ((be st 8 ++ [fb od]) ++ encS po) → Calls Tryz.prog 97 #[v, .string cp] Z fun e w' => ∃ v', e = .returned v' ∧ Own w' Z.heap.size v' (((be st 8 ++ [fb od]) ++ encS po) ++ encS cp) ∧ Below Z.heap.size Z w') :=
    Lib.hid fun v Z B ho => rTSx v cp _ Z ho.rd h_cp (by simp [be_length]; try omega)
  have H5 : Hid (∀ (v : Value) (Z : World) (B : Nat), Own Z B v (((be st 8 ++ [fb od]) ++ encS po) ++ encS cp) → Calls Tryz.prog 97 #[v, .string cn] Z fun e w' => ∃ v', e = .returned v' ∧ Own w' Z.heap.size v' ((((be st 8 ++ [fb od]) ++ encS po) ++ encS cp) ++ encS cn) ∧ Below Z.heap.size Z w') :=
    Lib.hid fun v Z B ho => rTSx v cn _ Z ho.rd h_cn (by simp [be_length]; try omega)
  have H6 : Hid (∀ (v : Value) (Z : World) (B : Nat), Own Z B v ((((be st 8 ++ [fb od]) ++ encS po) ++ encS cp) ++ encS cn) → Calls Tryz.prog 97 #[v, .string cc] Z fun e w' => ∃ v', e = .returned v' ∧ Own w' Z.heap.size v' (((((be st 8 ++ [fb od]) ++ encS po) ++ encS cp) ++ encS cn) ++ encS cc) ∧ Below Z.heap.size Z w') :=
    Lib.hid fun v Z B ho => rTSx v cc _ Z ho.rd h_cc (by simp [be_length]; try omega)
  have H7 : Hid (∀ (v : Value) (Z : World) (B : Nat), Own Z B v (((((be st 8 ++ [fb od]) ++ encS po) ++ encS cp) ++ encS cn) ++ encS cc) → Calls Tryz.prog 97 #[v, .string ve] Z fun e w' => ∃ v', e = .returned v' ∧ Own w' Z.heap.size v' ((((((be st 8 ++ [fb od]) ++ encS po) ++ encS cp) ++ encS cn) ++ encS cc) ++ encS ve) ∧ Below Z.heap.size Z w') :=
    Lib.hid fun v Z B ho => rTSx v ve _ Z ho.rd h_ve (by simp [be_length]; try omega)
  generalize (((((be st 8 ++ [fb od]) ++ encS po) ++ encS cp) ++ encS cn) ++ encS cc) ++ encS ve = L7 at *
  generalize ((((be st 8 ++ [fb od]) ++ encS po) ++ encS cp) ++ encS cn) ++ encS cc = L6 at *
  generalize (((be st 8 ++ [fb od]) ++ encS po) ++ encS cp) ++ encS cn = L5 at *
  generalize ((be st 8 ++ [fb od]) ++ encS po) ++ encS cp = L4 at *
  generalize (be st 8 ++ [fb od]) ++ encS po = L3 at *
  generalize be st 8 ++ [fb od] = L2 at *
  generalize be st 8 = L1 at *
  clear hbox h_st h_po h_cp h_cn h_cc h_ve l_po l_cp l_cn l_cc l_ve
  go_enter Tryz.func33, Tryz.ntmps33
  go_wp2_with fail
  try rw [hW0]
  clear hW0
  try rw [hgg]
  go_region_held_law (fun Z => Z.cell? ⟨g0, 0, none⟩ = some (.int .u64 (st : Int)) ∧ Z.cell? ⟨g0, 1, none⟩ = some (.bool od) ∧ Z.cell? ⟨g0, 2, none⟩ = some (.string po) ∧ Z.cell? ⟨g0, 3, none⟩ = some (.string cp) ∧ Z.cell? ⟨g0, 4, none⟩ = some (.string cn) ∧ Z.cell? ⟨g0, 5, none⟩ = some (.string cc) ∧ Z.cell? ⟨g0, 6, none⟩ = some (.string ve))
    (with_reducible first | exact HC.out _ hk4 | exact HC.out _ hk3 | exact HC.out _ hk2 | exact HC.out _ hk1 | exact HC.out _ hkD)
    ((first
      | (go_at_call 74; first
        | (refine (H1.out _).mono ?_; rintro e w1 ⟨v1, rfl, ho1, hb1⟩; have hk1 := below_chain hkD hkD.size hb1))
      | (go_at_call 98; first
        | (refine (H2.out _ _ _ ho1).mono ?_; rintro e w2 ⟨v2, rfl, ho2, hb2⟩; have hk2 := below_chain hk1 hk1.size hb2))
      | (go_at_call 97; first
        | (refine (H4.out _ _ _ ho3).mono ?_; rintro e w4 ⟨v4, rfl, ho4, hb4⟩; have hk4 := below_chain hk3 hk3.size hb4)
        | (refine (H3.out _ _ _ ho2).mono ?_; rintro e w3 ⟨v3, rfl, ho3, hb3⟩; have hk3 := below_chain hk2 hk2.size hb3))))
  all_goals
    have hkE1 := Below.drew hk4
    have hoE1 : Own w4.drew _ v4 L4 := ho4
    obtain ⟨A4, c4, rfl⟩ := ho4.form
    generalize L4.length = n4 at *
    clear ho1 ho2 ho3 ho4
    go_wp2_with fail
    go_region_held_law (fun Z => Z.cell? ⟨g0, 0, none⟩ = some (.int .u64 (st : Int)) ∧ Z.cell? ⟨g0, 1, none⟩ = some (.bool od) ∧ Z.cell? ⟨g0, 2, none⟩ = some (.string po) ∧ Z.cell? ⟨g0, 3, none⟩ = some (.string cp) ∧ Z.cell? ⟨g0, 4, none⟩ = some (.string cn) ∧ Z.cell? ⟨g0, 5, none⟩ = some (.string cc) ∧ Z.cell? ⟨g0, 6, none⟩ = some (.string ve))
      (with_reducible first | exact HC.out _ hk7 | exact HC.out _ hk6 | exact HC.out _ hk5 | exact HC.out _ hkE1)
      ((first
        | (go_at_call 97; first
          | (refine (H7.out _ _ _ ho6).mono ?_; rintro e w7 ⟨v7, rfl, ho7, hb7⟩; have hk7 := below_chain hk6 hk6.size hb7)
          | (refine (H6.out _ _ _ ho5).mono ?_; rintro e w6 ⟨v6, rfl, ho6, hb6⟩; have hk6 := below_chain hk5 hk5.size hb6)
          | (refine (H5.out _ _ _ hoE1).mono ?_; rintro e w5 ⟨v5, rfl, ho5, hb5⟩; have hk5 := below_chain hkE1 hkE1.size hb5))))
    all_goals
      obtain ⟨A7, c7, rfl⟩ := ho7.form
      go_wp2_with fail
      subst hgg
      have hsF := Nat.le_trans ha0.size hk6.size
      have hfin := below_chain ha0 ha0.size hk7
      go_ret
      exact ⟨_, rfl, ho7.more hsF, hfin⟩
end Go.Proofs.YtpcoonnfaoakhaaGreatDoor
namespace Go.Proofs.YtpcoonnfaoakhaaGreatDoor
set_option maxRecDepth 100000
open Go Go.RowKit
set_option linter.unusedVariables false

set_option maxHeartbeats 8000000 in
theorem rclget_any {w : World} {b : Nat} {R : List Pr} (h : RGet w b R) (a : ByteArray) (ha : a.size ≤ 100000000) :
    Calls Tryz.prog 239 #[.pointer (some ⟨b, 0, none⟩), .string a] w fun e w' => e = .returned (clV (getCl R a)) ∧ Below w.heap.size w w' := by
  have HG := Lib.hid (fun (Z : World) (hz : Below w.heap.size w Z) => h.get Z hz (kCli a) (by rw [kCli_size]; unfold maxLen; omega))
  have HFT : Hid (∀ v, getL R (kCli a) = some v → v.length ≤ 2000000) := Lib.hid (fun v e => h.short _ v e)
  obtain ⟨B, hB⟩ : ∃ B : Addr, B = ⟨b, 0, none⟩ := ⟨_, rfl⟩
  rw [← hB] at HG ⊢
  clear hB h
  have hcat := fun W => txt_add cliP a (by rw [show cliP.size = 11 from rfl]; omega) W
  have HI : Hid (∀ Z : World, Calls Tryz.prog 94 #[.string a] Z fun e w' => e = .returned (.bool (identB a)) ∧ Z = w') := Lib.hid fun Z => rident_any a Z (by unfold maxLen; omega)
  obtain ⟨V, hV⟩ : ∃ V, V = clV (getCl R a) := ⟨_, rfl⟩
  rw [← hV]
  unfold getCl at hV
  generalize getL R (kCli a) = o at *
  unfold kCli at *
  generalize cliP ++ a = key at *
  unfold cliP at *
  generalize identB a = bi at *
  have hk0 := heap_alloc_new w (.cells #[.string ⟨#[]⟩, .int .u64 0, .int .u64 0, .bool false] 282)
  have ha0 : Below w.heap.size w (w.alloc (.cells #[.string ⟨#[]⟩, .int .u64 0, .int .u64 0, .bool false] 282)) := (Below.refl _ _).alloc (Nat.le_refl _) _
  go_enter Tryz.func239, Tryz.ntmps239
  go_wp2_with fail
  generalize w.alloc (.cells #[.string ⟨#[]⟩, .int .u64 0, .int .u64 0, .bool false] 282) = w0 at *
  refine (HG.out _ ha0).mono ?_
  rintro e w1 ⟨v, rfl, hov, hb1⟩
  have hq1 := below_chain ha0 ha0.size hb1
  have hk1 := (hb1.block _ (blk_lt hk0)).trans hk0
  have hl0 := blk_lt hk0
  obtain ⟨gr, hgr⟩ : ∃ gr, gr = w.heap.size := ⟨_, rfl⟩
  rw [← hgr] at hk1
  clear HG ha0 hk0 hb1
  cases o with
  | none =>
    have hv : V = .tuple #[ClV.none.val, .bool false] := by rw [hV]; cases bi <;> rfl
    obtain ⟨A, c, rfl⟩ := hov.form
    have r0 := blk_cell hk1 0
    have q0 := blk_free hk1 0
    have r1 := blk_cell hk1 1
    have q1 := blk_free hk1 1
    have r2 := blk_cell hk1 2
    have q2 := blk_free hk1 2
    have r3 := blk_cell hk1 3
    have q3 := blk_free hk1 3
    clear hov HFT hV HI
    subst hgr
    have hk7 := set4P hk1 (.string ⟨#[]⟩) (.int .u64 0) (.int .u64 0) (.bool false)
    have hb7 := below_set4P hq1 (Nat.le_refl _) (.string ⟨#[]⟩) (.int .u64 0) (.int .u64 0) (.bool false)
    have HD := Lib.hid (And.intro (blk_cell hk7 0) (And.intro (blk_cell hk7 1) (And.intro (blk_cell hk7 2) (blk_cell hk7 3))))
    have HVV := Lib.hid hv
    clear hk7 hv
    go_wp2_with fail
    obtain ⟨d0, d1, d2, d3⟩ := HD.out
    refine bodyPost_ret (v := V) ?_ rfl ⟨rfl, hb7⟩
    rw [HVV.out]
    simp at d0 d1 d2 d3
    simp [results, Tryz.results239, go_sem, d0, d1, d2, d3, ClV.val, ClV.none]
  | some l =>
    have hll := HFT.out l rfl
    have HO := Lib.hid (open_dd v l w1 hov.rd (by omega))
    obtain ⟨A, c, rfl⟩ := hov.form
    clear hov HFT
    go_wp2_with fail
    refine (HI.out _).mono ?_
    rintro e w9 ⟨rfl, rfl⟩
    clear HI
    cases bi with
    | false =>
      have hv : V = .tuple #[ClV.none.val, .bool false] := by rw [hV]; rfl
      have r0 := blk_cell hk1 0
      have q0 := blk_free hk1 0
      have r1 := blk_cell hk1 1
      have q1 := blk_free hk1 1
      have r2 := blk_cell hk1 2
      have q2 := blk_free hk1 2
      have r3 := blk_cell hk1 3
      have q3 := blk_free hk1 3
      clear hV HO
      subst hgr
      have hk7 := set4P hk1 (.string ⟨#[]⟩) (.int .u64 0) (.int .u64 0) (.bool false)
      have hb7 := below_set4P hq1 (Nat.le_refl _) (.string ⟨#[]⟩) (.int .u64 0) (.int .u64 0) (.bool false)
      have HD := Lib.hid (And.intro (blk_cell hk7 0) (And.intro (blk_cell hk7 1) (And.intro (blk_cell hk7 2) (blk_cell hk7 3))))
      have HVV := Lib.hid hv
      clear hk7 hv
      go_wp2_with fail
      obtain ⟨d0, d1, d2, d3⟩ := HD.out
      refine bodyPost_ret (v := V) ?_ rfl ⟨rfl, hb7⟩
      rw [HVV.out]
      simp at d0 d1 d2 d3
      simp [results, Tryz.results239, go_sem, d0, d1, d2, d3, ClV.val, ClV.none]
    | true =>
      have HV := Lib.hid (show V = clV (readCl l) from hV)
      unfold clV readCl at HV
      clear hV
      go_wp2_with fail
      refine HO.out.mono ?_
      rintro e w2 ⟨g, rfl, hr2, hb2⟩
      have hq2 := below_chain hq1 hq1.size hb2
      have hk2 := (hb2.block _ (blk_lt hk1)).trans hk1
      have hgl := hr2.lt
      have hlo := blk_lt hk1
      generalize w1.heap.size = lo at *
      clear HO hb2 hk1 hq1
      have hgi := hr2.from_
      obtain ⟨gd, hgd⟩ : ∃ gd, gd = w2.heap.size := ⟨_, rfl⟩
      have P1 : PZ 188 w gr gd lo g 282 282 #[.string ⟨#[]⟩, .int .u64 0, .int .u64 0, .bool false] #[.string ⟨#[]⟩, .int .u64 0, .int .u64 0, .bool false] l 0 (w2.alloc (.cells #[.string ⟨#[]⟩, .int .u64 0, .int .u64 0, .bool false] 282)) :=
        ⟨hq2.alloc hq2.size _, by omega, by have := hq2.size; omega, (Below.heap_alloc w2 _ _ (blk_lt hk2)).trans hk2, by rw [hgd]; exact heap_alloc_new w2 _, hr2.below ((Below.refl _ _).alloc (Nat.le_refl _) _), by omega, by omega⟩
      clear hq2 hk2 hr2 hgl hlo hgi
      go_wp2_with fail
      rw [← hgd]
      generalize w2.alloc (.cells #[.string ⟨#[]⟩, .int .u64 0, .int .u64 0, .bool false] 282) = wz at *
      clear hgd
      refine (dT_any P1.rd).mono ?_
      rintro e wa1 ⟨rfl, hr, hg⟩
      replace P1 := P1.call hg hr
      clear hr hg
      have b_xa := rB_le l 0
      generalize rB l 0 = Q at *
      obtain ⟨xa, l_xa, f_xa⟩ := Q
      dsimp only at P1 HV b_xa ⊢
      have z0 := blk_cell P1.loc 0
      have f0 := blk_free P1.loc 0
      have P2 : PZ 188 w gr gd lo g _ 282 _ #[.string ⟨xa.toArray⟩, .int .u64 0, .int .u64 0, .bool false] l_xa f_xa ((wa1).setCell ⟨gd, 0, none⟩ (.string ⟨xa.toArray⟩)) := (P1.set 0 (.string ⟨xa.toArray⟩))
      clear P1
      go_wp2_with fail
      generalize (wa1).setCell ⟨gd, 0, none⟩ (.string ⟨xa.toArray⟩) = wb1 at *
      refine (dN_any P2.rd).mono ?_
      rintro e wa2 ⟨rfl, hr, hg⟩
      replace P2 := P2.call hg hr
      clear hr hg
      have b_xb := rN_ltP l_xa f_xa
      generalize rN l_xa f_xa = Q at *
      obtain ⟨xb, l_xb, f_xb⟩ := Q
      dsimp only at P2 HV b_xb ⊢
      have z0 := blk_cell P2.loc 1
      have f0 := blk_free P2.loc 1
      have P3 : PZ 188 w gr gd lo g _ 282 _ #[.string ⟨xa.toArray⟩, .int .u64 (xb : Int), .int .u64 0, .bool false] l_xb f_xb ((wa2).setCell ⟨gd, 1, none⟩ (.int .u64 (xb : Int))) := (P2.set 1 (.int .u64 (xb : Int)))
      clear P2
      go_wp2_with fail
      generalize (wa2).setCell ⟨gd, 1, none⟩ (.int .u64 (xb : Int)) = wb2 at *
      refine (dN_any P3.rd).mono ?_
      rintro e wa3 ⟨rfl, hr, hg⟩
      replace P3 := P3.call hg hr
      clear hr hg
      have b_xc := rN_ltP l_xb f_xb
      generalize rN l_xb f_xb = Q at *
      obtain ⟨xc, l_xc, f_xc⟩ := Q
      dsimp only at P3 HV b_xc ⊢
      have z0 := blk_cell P3.loc 2
      have f0 := blk_free P3.loc 2
      have P4 : PZ 188 w gr gd lo g _ 282 _ #[.string ⟨xa.toArray⟩, .int .u64 (xb : Int), .int .u64 (xc : Int), .bool false] l_xc f_xc ((wa3).setCell ⟨gd, 2, none⟩ (.int .u64 (xc : Int))) := (P3.set 2 (.int .u64 (xc : Int)))
      clear P3
      go_wp2_with fail
      generalize (wa3).setCell ⟨gd, 2, none⟩ (.int .u64 (xc : Int)) = wb3 at *
      refine (dF_any P4.rd).mono ?_
      rintro e wa4 ⟨rfl, hr, hg⟩
      replace P4 := P4.call hg hr
      clear hr hg
      generalize rF l_xc f_xc = Q at *
      obtain ⟨xd, l_xd, f_xd⟩ := Q
      dsimp only at P4 HV ⊢
      have z0 := blk_cell P4.loc 3
      have f0 := blk_free P4.loc 3
      have P5 : PZ 188 w gr gd lo g _ 282 _ #[.string ⟨xa.toArray⟩, .int .u64 (xb : Int), .int .u64 (xc : Int), .bool xd] l_xd f_xd ((wa4).setCell ⟨gd, 3, none⟩ (.bool xd)) := (P4.set 3 (.bool xd))
      clear P4
      go_wp2_with fail
      generalize (wa4).setCell ⟨gd, 3, none⟩ (.bool xd) = wb4 at *
      refine (dEnd_any P5.rd).mono ?_
      rintro e w7 ⟨rfl, rfl⟩
      generalize rEnd l_xd f_xd = E at *
      subst hgr
      by_cases hE : E = 0
      · subst hE
        have hv := HV.out
        rw [if_pos rfl] at hv
        (try dsimp only at hv)
        clear HV
        have r0 := blk_cell P5.res 0
        have q0 := blk_free P5.res 0
        have r1 := blk_cell P5.res 1
        have q1 := blk_free P5.res 1
        have r2 := blk_cell P5.res 2
        have q2 := blk_free P5.res 2
        have r3 := blk_cell P5.res 3
        have q3 := blk_free P5.res 3
        have s0 := blk_cell P5.loc 0
        have s1 := blk_cell P5.loc 1
        have s2 := blk_cell P5.loc 2
        have s3 := blk_cell P5.loc 3
        have hk7 := set4P P5.res (.string ⟨xa.toArray⟩) (.int .u64 (xb : Int)) (.int .u64 (xc : Int)) (.bool xd)
        have hb7 := below_set4P P5.below P5.hr (.string ⟨xa.toArray⟩) (.int .u64 (xb : Int)) (.int .u64 (xc : Int)) (.bool xd)
        have HD := Lib.hid (And.intro (blk_cell hk7 0) (And.intro (blk_cell hk7 1) (And.intro (blk_cell hk7 2) (blk_cell hk7 3))))
        have HVV := Lib.hid hv
        clear hk7 hv
        go_wp2_with fail
        obtain ⟨d0, d1, d2, d3⟩ := HD.out
        refine bodyPost_ret (v := V) ?_ rfl ⟨rfl, hb7⟩
        rw [HVV.out]
        simp at d0 d1 d2 d3
        simp [results, Tryz.results239, go_sem, d0, d1, d2, d3, ClV.val, ClV.none]
      · have hne : (E != 0) = true := by simpa using hE
        have hv := HV.out
        rw [if_neg hE] at hv
        (try dsimp only at hv)
        clear HV
        have r0 := blk_cell P5.res 0
        have q0 := blk_free P5.res 0
        have r1 := blk_cell P5.res 1
        have q1 := blk_free P5.res 1
        have r2 := blk_cell P5.res 2
        have q2 := blk_free P5.res 2
        have r3 := blk_cell P5.res 3
        have q3 := blk_free P5.res 3
        have hk7 := set4P P5.res (.string ⟨#[]⟩) (.int .u64 0) (.int .u64 0) (.bool false)
        have hb7 := below_set4P P5.below P5.hr (.string ⟨#[]⟩) (.int .u64 0) (.int .u64 0) (.bool false)
        have HD := Lib.hid (And.intro (blk_cell hk7 0) (And.intro (blk_cell hk7 1) (And.intro (blk_cell hk7 2) (blk_cell hk7 3))))
        have HVV := Lib.hid hv
        clear hk7 hv
        go_wp2_with fail
        obtain ⟨d0, d1, d2, d3⟩ := HD.out
        refine bodyPost_ret (v := V) ?_ rfl ⟨rfl, hb7⟩
        rw [HVV.out]
        simp at d0 d1 d2 d3
        simp [results, Tryz.results239, go_sem, d0, d1, d2, d3, ClV.val, ClV.none]
end Go.Proofs.YtpcoonnfaoakhaaGreatDoor
namespace Go.Proofs.YtpcoonnfaoakhaaGreatDoor
set_option maxRecDepth 100000
open Go Go.RowKit
section
variable {P : Program} {ops : Array Oper} {Q : Exit → Act → World → Prop} {md : Region.Mode} {S S' : World → Prop}
theorem wpAnyH_stronger (h : ∀ w, S' w → S w) : ∀ (fuel : Nat) (listed : Array Bool) (a : Act) (w : World), wpAnyH P md ops Q S' fuel listed a w → wpAnyH P md ops Q S fuel listed a w
  | 0, _, _, _, H => H
  | fuel + 1, _, _, _, H => ⟨H.1, fun i hi => wpOp_mono (fun a' w' h' => ⟨h _ h'.1, wpAnyH_stronger h fuel _ a' w' h'.2⟩) (H.2 i hi)⟩
end
/-- what stands in the world w reads so from here on -/
def BelS (w : World) : World → Prop := fun W => Below w.heap.size w W
theorem BelS.refl (w : World) : BelS w w := Below.refl _ _
end Go.Proofs.YtpcoonnfaoakhaaGreatDoor
