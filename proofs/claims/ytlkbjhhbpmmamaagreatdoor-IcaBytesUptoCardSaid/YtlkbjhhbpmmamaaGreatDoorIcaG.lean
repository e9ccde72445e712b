
/- The walks of an owner's account and channel; the law's fixed answers. The law's fixed answers about interchain accounts, walked. -/
import Derived.Test.YtlkbjhhbpmmamaaGreatDoorChnF
import Derived.Test.YtlkbjhhbpmmamaaGreatDoorRConG
namespace Go.Proofs.YtlkbjhhbpmmamaaGreatDoor
set_option maxRecDepth 100000
open Go Go.RowKit
set_option linter.unusedVariables false

def icaP : ByteArray := ⟨#[105, 99, 97, 46]⟩
def dotB : ByteArray := ⟨#[46]⟩
def actP : ByteArray := ⟨#[105, 99, 97, 47, 97, 99, 116, 105, 118, 101, 47]⟩
/-- an owner's account; where the channel is kept that an owner asked for last -/
def kIca (a b : ByteArray) : ByteArray := ((icaP ++ a) ++ dotB) ++ b
def kAct (a b : ByteArray) : ByteArray := ((actP ++ a) ++ slB) ++ b
theorem kAct_size (a b : ByteArray) : (kAct a b).size = a.size + b.size + 12 := by
  have h1 : actP.size = 11 := by decide +kernel
  have h2 : slB.size = 1 := by decide +kernel
  unfold kAct; simp only [ByteArray.size_append]; omega
theorem icaaddr_any (a b : ByteArray) (w : World) (ha : a.size ≤ 100000000) (hb : b.size ≤ 100000000) : Calls Tryz.prog 66 #[.string a, .string b] w fun e w' => e = .returned (.string (kIca a b)) ∧ w = w' := by
  have s1 : icaP.size = 4 := rfl
  have s2 : dotB.size = 1 := rfl
  have h1 := fun W => txt_add icaP a (by rw [s1]; omega) W
  have h2 := fun W => txt_add (icaP ++ a) dotB (by rw [ByteArray.size_append, s1, s2]; omega) W
  have h3 := fun W => txt_add ((icaP ++ a) ++ dotB) b (by rw [ByteArray.size_append, ByteArray.size_append, s1, s2]; omega) W
  unfold kIca
  generalize (icaP ++ a) ++ dotB = x2 at *
  generalize hx1 : icaP ++ a = x1 at *
  clear hx1
  unfold icaP dotB at *
  go_enter Tryz.func66, Tryz.ntmps66
  go_wp2
  go_ret
  exact ⟨rfl, rfl⟩
theorem icaact_any (a b : ByteArray) (w : World) (ha : a.size ≤ 100000000) (hb : b.size ≤ 100000000) : Calls Tryz.prog 136 #[.string a, .string b] w fun e w' => e = .returned (.string (kAct a b)) ∧ w = w' := by
  have s1 : actP.size = 11 := rfl
  have s2 : slB.size = 1 := rfl
  have h1 := fun W => txt_add actP a (by rw [s1]; omega) W
  have h2 := fun W => txt_add (actP ++ a) slB (by rw [ByteArray.size_append, s1, s2]; omega) W
  have h3 := fun W => txt_add ((actP ++ a) ++ slB) b (by rw [ByteArray.size_append, ByteArray.size_append, s1, s2]; omega) W
  unfold kAct
  generalize (actP ++ a) ++ slB = x2 at *
  generalize hx1 : actP ++ a = x1 at *
  clear hx1
  unfold actP slB at *
  go_enter Tryz.func136, Tryz.ntmps136
  go_wp2
  go_ret
  exact ⟨rfl, rfl⟩
set_option maxHeartbeats 2000000 in
theorem icaactive_any {W w : World} {y : Lyr} {l : List Lyr} {R : List Pr} {k : Nat} (h : At W y l R k w) (a o : ByteArray) (ha : a.size ≤ 100000000) (ho : o.size ≤ 100000000) :
    Calls Tryz.prog 65 #[.pointer (some ⟨y.b, 0, none⟩), .string a, .string o] w fun e w' => e = .returned (.tuple #[.string ⟨((getL R (kAct a o)).getD []).toArray⟩, .bool (getL R (kAct a o)).isSome]) ∧ Below w.heap.size w w' := by
  have HG := Lib.hid (h.get (kAct a o) (by rw [kAct_size]; unfold maxLen; omega))
  have HK := Lib.hid (fun Z : World => icaact_any a o Z ha ho)
  generalize (getL R (kAct a o)).isSome = B0 at *
  generalize (getL R (kAct a o)).getD [] = L0 at *
  generalize kAct a o = key at *
  obtain ⟨S, hS⟩ : ∃ S : ByteArray, S = ⟨L0.toArray⟩ := ⟨_, rfl⟩
  have HCS : Hid (∀ (Z : World) (v : Value) (B : Nat), Own Z B v L0 → (convert 23 9 v).run Tryz.prog Z = .ok (.string S) Z) := Lib.hid fun Z v B h => by rw [hS]; exact run_str Tryz.underlying23 Tryz.underlying5 Tryz.isString h.rd
  rw [← hS]
  obtain ⟨B, hB⟩ : ∃ B : Addr, B = ⟨y.b, 0, none⟩ := ⟨_, rfl⟩
  rw [← hB] at HG ⊢
  clear hS hB h ha ho
  go_enter Tryz.func65, Tryz.ntmps65
  go_wp2_with fail
  refine (HK.out _).mono ?_
  rintro e w1 ⟨rfl, rfl⟩
  go_wp2_with fail
  refine HG.out.mono ?_
  rintro e w1 ⟨v, rfl, hov, hb1⟩
  have hc := fun (Z : World) (hz : Below w1.heap.size w1 Z) => HCS.out Z v _ (hov.below hz)
  have hc0 := hc w1 (Below.refl _ _)
  obtain ⟨A, c, rfl⟩ := hov.form
  generalize L0.length = n0 at *
  clear hov hc HG HK
  go_wp2_with fail
  go_ret2
  exact ⟨rfl, hb1⟩
/-- is there a channel of that owner's already, that isn't closed? -/
def busyB (R : List Pr) (via owner : ByteArray) : Bool := match getL R (kAct via owner) with
  | none => false
  | some l => match getCh R ⟨l.toArray⟩ with
    | none => false
    | some c => !decide (c.st = 4)
def regE (R : List Pr) (owner via : ByteArray) : Int := if identB owner = true then (if identB via = true then (if busyB R via owner = true then 111 else beginE R via sControl sHost true owner) else 160) else 160
def regI (R : List Pr) (owner via : ByteArray) : ByteArray := if regE R owner via = 0 then newID R sChan else ⟨#[]⟩
def regR (R : List Pr) (owner via : ByteArray) : List Pr := if regE R owner via = 0 then setL (kAct via owner) (strBytes (newID R sChan)) (beginR R via sControl sHost true owner) else R
set_option maxHeartbeats 8000000 in
theorem icareg_any {W w : World} {y : Lyr} {l : List Lyr} {R : List Pr} {k : Nat} (h : At W y l R k w) (hn : y.n + k + 6 ≤ maxLen) (hs : numN R sChan < 10) (owner via : ByteArray) (h_owner : owner.size ≤ 100000000) (h_via : via.size ≤ 100000000)
    (hlen : ∀ v, getL R (kAct via owner) = some v → v.length ≤ 65535) :
    Calls Tryz.prog 63 #[.pointer (some ⟨y.b, 0, none⟩), .string owner, .string via] w fun e w' => e = .returned (.tuple #[.string (regI R owner via), .int .i64 (regE R owner via)]) ∧ At W y l (regR R owner via) (k + 6) w' ∧ Kept w w' := by
  have HI1 : Hid (∀ Z : World, Calls Tryz.prog 82 #[.string owner] Z fun e w' => e = .returned (.bool (identB owner)) ∧ Z = w') := Lib.hid fun Z => ident_any owner Z (by unfold maxLen; omega)
  have HI2 : Hid (∀ Z : World, Calls Tryz.prog 82 #[.string via] Z fun e w' => e = .returned (.bool (identB via)) ∧ Z = w') := Lib.hid fun Z => ident_any via Z (by unfold maxLen; omega)
  have HA := Lib.hid (icaactive_any h via owner h_via h_owner)
  have HG : Hid (∀ Z, Below w.heap.size w Z → Calls Tryz.prog 116 #[.pointer (some ⟨y.b, 0, none⟩), .string ⟨((getL R (kAct via owner)).getD []).toArray⟩] Z fun e w' => e = .returned (chV (getCh R ⟨((getL R (kAct via owner)).getD []).toArray⟩)) ∧ Below Z.heap.size Z w') := Lib.hid fun Z hz => chget_any (h.up hz) _ (by
    show ((getL R (kAct via owner)).getD []).length ≤ 100000000
    cases e : getL R (kAct via owner) with
    | none => simp
    | some v => have := hlen v e; simp; omega)
  have HB : Hid (∀ Z, Below w.heap.size w Z → Calls Tryz.prog 37 #[.pointer (some ⟨y.b, 0, none⟩), .string via, .string ⟨#[99, 111, 110, 116, 114, 111, 108]⟩, .string ⟨#[104, 111, 115, 116]⟩, .bool true, .string owner] Z fun e w' => e = .returned (.tuple #[.string (if beginE R via sControl sHost true owner = 0 then newID R sChan else ⟨#[]⟩), .int .i64 (beginE R via sControl sHost true owner)]) ∧ At W y l (beginR R via sControl sHost true owner) (k + 5) w' ∧ Kept Z w') :=
    Lib.hid fun Z hz => chbegin_any (h.up hz) (by omega) hs via sControl sHost true owner h_via (by decide +kernel) (by decide +kernel) h_owner
  have HUP := Lib.hid (fun (Z : World) (hz : Below w.heap.size w Z) => (h.up hz).more (show k ≤ k + 6 by omega))
  have zid := numN_small R sChan hs
  have z4 : sChan.size = 4 := rfl
  have zid2 : (newID R sChan).size ≤ maxLen := by unfold maxLen; omega
  have HK := Lib.hid (fun Z : World => icaact_any via owner Z h_via h_owner)
  have HS : Hid (∀ (Z : World) (hz : At W y l (beginR R via sControl sHost true owner) (k + 5) Z) (v : Value) (hr : Rd Z Z.heap.size v (strBytes (newID R sChan))), Calls Tryz.prog 20 #[.pointer (some ⟨y.b, 0, none⟩), .string (kAct via owner), v] Z fun e w' => (∃ c, e = .returned (.int .i64 c)) ∧ At W y l (setL (kAct via owner) (strBytes (newID R sChan)) (beginR R via sControl sHost true owner)) (k + 5 + 1) w' ∧ Kept Z w') :=
    Lib.hid fun Z hz v hr => (hz.set (by omega) (kAct via owner) (by rw [kAct_size]; unfold maxLen; omega) v _ hr).mono fun e w' ⟨h1, h2, h3⟩ => ⟨⟨_, h1⟩, h2, h3⟩
  have hRE : beginE R via sControl sHost true owner ≠ 0 → beginR R via sControl sHost true owner = R := beginR_no
  unfold regI regR regE
  obtain ⟨bz, hbz⟩ : ∃ bz, bz = busyB R via owner := ⟨_, rfl⟩
  rw [← hbz]
  unfold busyB at hbz
  generalize setL (kAct via owner) (strBytes (newID R sChan)) (beginR R via sControl sHost true owner) = R3 at *
  generalize beginR R via sControl sHost true owner = R2 at *
  generalize beginE R via sControl sHost true owner = E at *
  generalize newID R sChan = ID at *
  generalize kAct via owner = key at *
  generalize identB owner = b1 at *
  generalize identB via = b2 at *
  clear h hn hs h_owner h_via hlen zid z4
  cases b1 with
  | false =>
    simp only [Bool.false_eq_true, if_false, if_neg (show ¬ (160 : Int) = 0 by decide)]
    go_enter Tryz.func63, Tryz.ntmps63
    go_wp2_with fail
    refine (HI1.out _).mono ?_
    rintro e w1 ⟨rfl, rfl⟩
    go_wp2_with fail
    go_ret2
    exact ⟨rfl, HUP.out _ (Below.refl _ _), Kept.refl _⟩
  | true =>
    cases b2 with
    | false =>
      simp only [Bool.false_eq_true, if_false, if_true, if_neg (show ¬ (160 : Int) = 0 by decide)]
      go_enter Tryz.func63, Tryz.ntmps63
      go_wp2_with fail
      refine (HI1.out _).mono ?_
      rintro e w1 ⟨rfl, rfl⟩
      go_wp2_with fail
      refine (HI2.out _).mono ?_
      rintro e w1 ⟨rfl, rfl⟩
      go_wp2_with fail
      go_ret2
      exact ⟨rfl, HUP.out _ (Below.refl _ _), Kept.refl _⟩
    | true =>
      cases hg : getL R key with
      | none =>
        rw [hg] at HA
        dsimp only [Option.getD_none, Option.isSome_none] at HA
        rw [hg] at hbz
        dsimp only at hbz
        subst hbz
        simp only [if_true, Bool.false_eq_true, if_false]
        clear hg HG HUP
        by_cases hE : E = 0
        · subst hE
          (try simp only [if_true])
          simp only [if_true] at HB
          go_enter Tryz.func63, Tryz.ntmps63
          go_wp2_with fail
          refine (HI1.out _).mono ?_
          rintro e w1 ⟨rfl, rfl⟩
          go_wp2_with fail
          refine (HI2.out _).mono ?_
          rintro e w1 ⟨rfl, rfl⟩
          go_wp2_with fail
          refine HA.out.mono ?_
          rintro e w2 ⟨rfl, hb2⟩
          clear HA
          go_wp2_with fail
          refine (HB.out _ hb2).mono ?_
          rintro e w5 ⟨rfl, A5, hk5⟩
          have hkk := (Kept.of_belowX hb2).transX hk5
          clear HB HI1 HI2
          go_wp2_with fail
          refine (HK.out _).mono ?_
          rintro e w6 ⟨rfl, rfl⟩
          obtain ⟨c6, w6, hrun, hr6, hb6⟩ := conv_str w5 ID (by omega)
          have HS6 := Lib.hid (HS.out w6 (A5.up hb6) _ hr6)
          have hkk6 := hkk.transX (Kept.of_belowX hb6)
          clear HS A5 hk5 hkk hr6
          go_wp2_with fail
          refine HS6.out.mono ?_
          rintro e w7 ⟨⟨c7, rfl⟩, A7, hk7⟩
          have hkf := hkk6.transX hk7
          go_wp2_with fail
          go_ret2
          exact ⟨rfl, A7, hkf⟩
        · have he : (E != 0) = true := by simpa using hE
          have hR := hRE hE
          subst hR
          simp only [if_neg hE] at HB ⊢
          clear hE hRE
          go_enter Tryz.func63, Tryz.ntmps63
          go_wp2_with fail
          refine (HI1.out _).mono ?_
          rintro e w1 ⟨rfl, rfl⟩
          go_wp2_with fail
          refine (HI2.out _).mono ?_
          rintro e w1 ⟨rfl, rfl⟩
          go_wp2_with fail
          refine HA.out.mono ?_
          rintro e w2 ⟨rfl, hb2⟩
          clear HA
          go_wp2_with fail
          refine (HB.out _ hb2).mono ?_
          rintro e w5 ⟨rfl, A5, hk5⟩
          have hkk := (Kept.of_belowX hb2).transX hk5
          have A6 := A5.more (show k + 5 ≤ k + 6 by omega)
          clear HB HI1 HI2 HS HK A5
          go_wp2_with fail
          go_ret2
          exact ⟨rfl, A6, hkk⟩
      | some v =>
        rw [hg] at HA HG
        dsimp only [Option.getD_some, Option.isSome_some] at HA HG
        rw [hg] at hbz
        dsimp only at hbz
        cases hc : getCh R ⟨v.toArray⟩ with
        | none =>
          rw [hc] at HG
          unfold chV ChV.val ChV.none at HG
          dsimp only at HG
          rw [hc] at hbz
          dsimp only at hbz
          subst hbz
          simp only [if_true, Bool.false_eq_true, if_false]
          clear hg HUP hc
          obtain ⟨last, hl⟩ : ∃ last : ByteArray, last = ⟨v.toArray⟩ := ⟨_, rfl⟩
          rw [← hl] at HA HG
          clear hl
          by_cases hE : E = 0
          · subst hE
            (try simp only [if_true])
            simp only [if_true] at HB
            go_enter Tryz.func63, Tryz.ntmps63
            go_wp2_with fail
            refine (HI1.out _).mono ?_
            rintro e w1 ⟨rfl, rfl⟩
            go_wp2_with fail
            refine (HI2.out _).mono ?_
            rintro e w1 ⟨rfl, rfl⟩
            go_wp2_with fail
            refine HA.out.mono ?_
            rintro e w2 ⟨rfl, hb2⟩
            have HG2 := Lib.hid (HG.out _ hb2)
            clear HA HG
            go_wp2_with fail
            refine HG2.out.mono ?_
            rintro e w3 ⟨rfl, hb3⟩
            have b3 := below_chain hb2 hb2.size hb3
            have m3 := heap_alloc_new w3 (.cells #[.int .u64 0, .bool false, .string ⟨#[]⟩, .string ⟨#[]⟩, .string ⟨#[]⟩, .string ⟨#[]⟩, .string ⟨#[]⟩] 82)
            have b4 := b3.alloc b3.size (.cells #[.int .u64 0, .bool false, .string ⟨#[]⟩, .string ⟨#[]⟩, .string ⟨#[]⟩, .string ⟨#[]⟩, .string ⟨#[]⟩] 82)
            have c0 := blk_cell m3 0
            clear HG2 hb3 b3
            go_wp2_with fail
            refine (HB.out _ b4).mono ?_
            rintro e w5 ⟨rfl, A5, hk5⟩
            have hkk := (Kept.of_belowX b4).transX hk5
            clear HB HI1 HI2
            go_wp2_with fail
            refine (HK.out _).mono ?_
            rintro e w6 ⟨rfl, rfl⟩
            obtain ⟨c6, w6, hrun, hr6, hb6⟩ := conv_str w5 ID (by omega)
            have HS6 := Lib.hid (HS.out w6 (A5.up hb6) _ hr6)
            have hkk6 := hkk.transX (Kept.of_belowX hb6)
            clear HS A5 hk5 hkk hr6
            go_wp2_with fail
            refine HS6.out.mono ?_
            rintro e w7 ⟨⟨c7, rfl⟩, A7, hk7⟩
            have hkf := hkk6.transX hk7
            go_wp2_with fail
            go_ret2
            exact ⟨rfl, A7, hkf⟩
          · have he : (E != 0) = true := by simpa using hE
            have hR := hRE hE
            subst hR
            simp only [if_neg hE] at HB ⊢
            clear hE hRE
            go_enter Tryz.func63, Tryz.ntmps63
            go_wp2_with fail
            refine (HI1.out _).mono ?_
            rintro e w1 ⟨rfl, rfl⟩
            go_wp2_with fail
            refine (HI2.out _).mono ?_
            rintro e w1 ⟨rfl, rfl⟩
            go_wp2_with fail
            refine HA.out.mono ?_
            rintro e w2 ⟨rfl, hb2⟩
            have HG2 := Lib.hid (HG.out _ hb2)
            clear HA HG
            go_wp2_with fail
            refine HG2.out.mono ?_
            rintro e w3 ⟨rfl, hb3⟩
            have b3 := below_chain hb2 hb2.size hb3
            have m3 := heap_alloc_new w3 (.cells #[.int .u64 0, .bool false, .string ⟨#[]⟩, .string ⟨#[]⟩, .string ⟨#[]⟩, .string ⟨#[]⟩, .string ⟨#[]⟩] 82)
            have b4 := b3.alloc b3.size (.cells #[.int .u64 0, .bool false, .string ⟨#[]⟩, .string ⟨#[]⟩, .string ⟨#[]⟩, .string ⟨#[]⟩, .string ⟨#[]⟩] 82)
            have c0 := blk_cell m3 0
            clear HG2 hb3 b3
            go_wp2_with fail
            refine (HB.out _ b4).mono ?_
            rintro e w5 ⟨rfl, A5, hk5⟩
            have hkk := (Kept.of_belowX b4).transX hk5
            have A6 := A5.more (show k + 5 ≤ k + 6 by omega)
            clear HB HI1 HI2 HS HK A5
            go_wp2_with fail
            go_ret2
            exact ⟨rfl, A6, hkk⟩
        | some c =>
          obtain ⟨st, od, po, cp, cn, cc, ve⟩ := c
          rw [hc] at HG
          unfold chV ChV.val at HG
          dsimp only at HG
          rw [hc] at hbz
          dsimp only at hbz
          clear hc
          obtain ⟨last, hl⟩ : ∃ last : ByteArray, last = ⟨v.toArray⟩ := ⟨_, rfl⟩
          rw [← hl] at HA HG
          clear hl
          by_cases h4 : st = 4
          · have f4 : ((st : Int) == 4) = true := by simp; omega
            rw [decide_eq_true h4] at hbz
            subst hbz
            simp only [if_true, Bool.not_true, Bool.false_eq_true, if_false]
            clear hg HUP h4
            by_cases hE : E = 0
            · subst hE
              (try simp only [if_true])
              simp only [if_true] at HB
              go_enter Tryz.func63, Tryz.ntmps63
              go_wp2_with fail
              refine (HI1.out _).mono ?_
              rintro e w1 ⟨rfl, rfl⟩
              go_wp2_with fail
              refine (HI2.out _).mono ?_
              rintro e w1 ⟨rfl, rfl⟩
              go_wp2_with fail
              refine HA.out.mono ?_
              rintro e w2 ⟨rfl, hb2⟩
              have HG2 := Lib.hid (HG.out _ hb2)
              clear HA HG
              go_wp2_with fail
              refine HG2.out.mono ?_
              rintro e w3 ⟨rfl, hb3⟩
              have b3 := below_chain hb2 hb2.size hb3
              have m3 := heap_alloc_new w3 (.cells #[.int .u64 (st : Int), .bool od, .string po, .string cp, .string cn, .string cc, .string ve] 82)
              have b4 := b3.alloc b3.size (.cells #[.int .u64 (st : Int), .bool od, .string po, .string cp, .string cn, .string cc, .string ve] 82)
              have c0 := blk_cell m3 0
              clear HG2 hb3 b3
              go_wp2_with fail
              refine (HB.out _ b4).mono ?_
              rintro e w5 ⟨rfl, A5, hk5⟩
              have hkk := (Kept.of_belowX b4).transX hk5
              clear HB HI1 HI2
              go_wp2_with fail
              refine (HK.out _).mono ?_
              rintro e w6 ⟨rfl, rfl⟩
              obtain ⟨c6, w6, hrun, hr6, hb6⟩ := conv_str w5 ID (by omega)
              have HS6 := Lib.hid (HS.out w6 (A5.up hb6) _ hr6)
              have hkk6 := hkk.transX (Kept.of_belowX hb6)
              clear HS A5 hk5 hkk hr6
              go_wp2_with fail
              refine HS6.out.mono ?_
              rintro e w7 ⟨⟨c7, rfl⟩, A7, hk7⟩
              have hkf := hkk6.transX hk7
              go_wp2_with fail
              go_ret2
              exact ⟨rfl, A7, hkf⟩
            · have he : (E != 0) = true := by simpa using hE
              have hR := hRE hE
              subst hR
              simp only [if_neg hE] at HB ⊢
              clear hE hRE
              go_enter Tryz.func63, Tryz.ntmps63
              go_wp2_with fail
              refine (HI1.out _).mono ?_
              rintro e w1 ⟨rfl, rfl⟩
              go_wp2_with fail
              refine (HI2.out _).mono ?_
              rintro e w1 ⟨rfl, rfl⟩
              go_wp2_with fail
              refine HA.out.mono ?_
              rintro e w2 ⟨rfl, hb2⟩
              have HG2 := Lib.hid (HG.out _ hb2)
              clear HA HG
              go_wp2_with fail
              refine HG2.out.mono ?_
              rintro e w3 ⟨rfl, hb3⟩
              have b3 := below_chain hb2 hb2.size hb3
              have m3 := heap_alloc_new w3 (.cells #[.int .u64 (st : Int), .bool od, .string po, .string cp, .string cn, .string cc, .string ve] 82)
              have b4 := b3.alloc b3.size (.cells #[.int .u64 (st : Int), .bool od, .string po, .string cp, .string cn, .string cc, .string ve] 82)
              have c0 := blk_cell m3 0
              clear HG2 hb3 b3
              go_wp2_with fail
              refine (HB.out _ b4).mono ?_
              rintro e w5 ⟨rfl, A5, hk5⟩
              have hkk := (Kept.of_belowX b4).transX hk5
              have A6 := A5.more (show k + 5 ≤ k + 6 by omega)
              clear HB HI1 HI2 HS HK A5
              go_wp2_with fail
              go_ret2
              exact ⟨rfl, A6, hkk⟩
          · have f4 : ((st : Int) == 4) = false := by simp; omega
            rw [decide_eq_false h4] at hbz
            subst hbz
            simp only [if_true, Bool.not_false, if_neg (show ¬ (111 : Int) = 0 by decide)]
            clear hg h4 HB HS HK
            go_enter Tryz.func63, Tryz.ntmps63
            go_wp2_with fail
            refine (HI1.out _).mono ?_
            rintro e w1 ⟨rfl, rfl⟩
            go_wp2_with fail
            refine (HI2.out _).mono ?_
            rintro e w1 ⟨rfl, rfl⟩
            go_wp2_with fail
            refine HA.out.mono ?_
            rintro e w2 ⟨rfl, hb2⟩
            have HG2 := Lib.hid (HG.out _ hb2)
            clear HA HG
            go_wp2_with fail
            refine HG2.out.mono ?_
            rintro e w3 ⟨rfl, hb3⟩
            have b3 := below_chain hb2 hb2.size hb3
            have m3 := heap_alloc_new w3 (.cells #[.int .u64 (st : Int), .bool od, .string po, .string cp, .string cn, .string cc, .string ve] 82)
            have b4 := b3.alloc b3.size (.cells #[.int .u64 (st : Int), .bool od, .string po, .string cp, .string cn, .string cc, .string ve] 82)
            have c0 := blk_cell m3 0
            clear HG2 hb3 b3
            have A4 := HUP.out _ b4
            have hk4 := Kept.of_belowX b4
            clear HUP HI1 HI2
            go_wp2_with fail
            go_ret2
            exact ⟨rfl, A4, hk4⟩
set_option maxHeartbeats 4000000 in
theorem icaexec_owner {W w : World} {y : Lyr} {l : List Lyr} {R : List Pr} {k : Nat} (h : At W y l R k w) (owner id : ByteArray) (hid : id.size ≤ 100000000) (c : ChV) (hc : getCh R id = some c) (hp : c.po = sControl) (hv : ¬ c.ve = owner) :
    Calls Tryz.prog 64 #[.pointer (some ⟨y.b, 0, none⟩), .string owner, .string id, .slice none 0 0, .int .u64 0, .int .u64 0] w fun e w' => e = .returned (.tuple #[.agg #[.string ⟨#[]⟩, .string ⟨#[]⟩, .int .u64 0, .slice none 0 0, .int .u64 0, .int .u64 0], .int .i64 160]) ∧ Below w.heap.size w w' := by
  have hk0 := heap_alloc_new w (.cells #[.string ⟨#[]⟩, .string ⟨#[]⟩, .int .u64 0, .slice none 0 0, .int .u64 0, .int .u64 0] 49)
  have ha0 : Below w.heap.size w (w.alloc (.cells #[.string ⟨#[]⟩, .string ⟨#[]⟩, .int .u64 0, .slice none 0 0, .int .u64 0, .int .u64 0] 49)) := (Below.refl _ _).alloc (Nat.le_refl _) _
  have HG := Lib.hid (chget_any (h.up ha0) id hid)
  rw [hc] at HG
  generalize hW0 : w.alloc (.cells #[.string ⟨#[]⟩, .string ⟨#[]⟩, .int .u64 0, .slice none 0 0, .int .u64 0, .int .u64 0] 49) = w0 at *
  obtain ⟨st, od, po, cp, cn, cc, ve⟩ := c
  dsimp only at hp hv
  subst hp
  have hne : (ve.toList == owner.toList) = false := beq_toList_ne hv
  unfold chV ChV.val sControl at HG
  dsimp only at HG
  clear h hc hv
  go_enter Tryz.func64, Tryz.ntmps64
  go_wp2_with fail
  try rw [hW0]
  clear hW0
  refine HG.out.mono ?_
  rintro e w1 ⟨rfl, hb1⟩
  have q1 := below_chain ha0 ha0.size hb1
  have k1 := (hb1.block _ (blk_lt hk0)).trans hk0
  have q2 := q1.alloc q1.size (.cells #[.int .u64 (st : Int), .bool od, .string ⟨#[99, 111, 110, 116, 114, 111, 108]⟩, .string cp, .string cn, .string cc, .string ve] 82)
  replace k1 := (Below.heap_alloc w1 (.cells #[.int .u64 (st : Int), .bool od, .string ⟨#[99, 111, 110, 116, 114, 111, 108]⟩, .string cp, .string cn, .string cc, .string ve] 82) _ (blk_lt k1)).trans k1
  have m1 := heap_alloc_new w1 (.cells #[.int .u64 (st : Int), .bool od, .string ⟨#[99, 111, 110, 116, 114, 111, 108]⟩, .string cp, .string cn, .string cc, .string ve] 82)
  have s2 := blk_cell m1 2
  have s6 := blk_cell m1 6
  have r0 := blk_cell k1 0
  have q0_ := blk_free k1 0
  have r1 := blk_cell k1 1
  have q1_ := blk_free k1 1
  have r2 := blk_cell k1 2
  have q2_ := blk_free k1 2
  have r3 := blk_cell k1 3
  have q3_ := blk_free k1 3
  have r4 := blk_cell k1 4
  have q4_ := blk_free k1 4
  have r5 := blk_cell k1 5
  have q5_ := blk_free k1 5
  have m4 := set6P k1 (.string ⟨#[]⟩) (.string ⟨#[]⟩) (.int .u64 0) (.slice none 0 0) (.int .u64 0) (.int .u64 0)
  have b4 := below_set6P q2 (Nat.le_refl _) (.string ⟨#[]⟩) (.string ⟨#[]⟩) (.int .u64 0) (.slice none 0 0) (.int .u64 0) (.int .u64 0)
  have HD := Lib.hid (And.intro (blk_cell m4 0) (And.intro (blk_cell m4 1) (And.intro (blk_cell m4 2) (And.intro (blk_cell m4 3) (And.intro (blk_cell m4 4) (blk_cell m4 5))))))
  clear m4 HG hk0 ha0 hb1 q1
  go_wp2_with fail
  obtain ⟨d0, d1, d2, d3, d4, d5⟩ := HD.out
  refine bodyPost_ret (v := .tuple #[.agg #[.string ⟨#[]⟩, .string ⟨#[]⟩, .int .u64 0, .slice none 0 0, .int .u64 0, .int .u64 0], .int .i64 160]) ?_ rfl ⟨rfl, b4⟩
  simp at d0 d1 d2 d3 d4 d5
  simp [results, Tryz.results64, go_sem, d0, d1, d2, d3, d4, d5]
end Go.Proofs.YtlkbjhhbpmmamaaGreatDoor
namespace Go.Proofs.YtlkbjhhbpmmamaaGreatDoor
set_option maxRecDepth 100000
open Go Go.RowKit
set_option linter.unusedVariables false

def sAnn : ByteArray := ⟨#[97, 110, 110]⟩
def sBob : ByteArray := ⟨#[98, 111, 98]⟩
def fixIcaR : List Pr := regR fixCnR sAnn sConn0
theorem fixIca1 : regE fixCnR sAnn sConn0 = 0 := by decide +kernel
theorem fixIca2 : regI fixCnR sAnn sConn0 = sChan0 := by decide +kernel
theorem fixIca3 : regE fixIcaR sAnn sConn0 = 111 := by decide +kernel
theorem fixIca4 : getCh fixIcaR sChan0 = some ⟨1, true, sControl, sHost, sConn0, ⟨#[]⟩, sAnn⟩ := by kernel_rfl
theorem fixIca5 : getL fixIcaR (kAct sConn0 sAnn) = some (strBytes sChan0) := by kernel_rfl
theorem fixIca6 : kIca sConn0 sAnn = ⟨#[105, 99, 97, 46, 99, 111, 110, 110, 45, 48, 46, 97, 110, 110]⟩ := by decide +kernel
theorem fixIca7 : numN fixIcaR sChan < 10 := by decide +kernel
theorem fixIca8 : getL fixCnR (kAct sConn0 sAnn) = none := by kernel_rfl
theorem sAnn_ne : ¬ sAnn = sBob := by decide +kernel
set_option maxHeartbeats 8000000 in
theorem icafixed_any (w : World) : Calls Tryz.prog 11 #[] w fun e w' => e = .returned (.bool true) ∧ Below w.heap.size w w' := by
  have HB := Lib.hid (cnbytes_any fixCn w (by show 3 < _; decide) (by decide +kernel) (by decide +kernel) (by decide +kernel))
  have HN : Hid (∀ (Z : World) (v : Value) (B : Nat), Own Z B v (cnB fixCn) → Calls Tryz.prog 14 #[.slice (some ⟨Z.heap.size, 0, none⟩) 1 1] (Z.alloc (.cells #[.string (kConn sConn0), v] 87)) fun e w' => ∃ y : Lyr, e = .returned (.tuple #[.pointer (some ⟨y.b, 0, none⟩), .int .i64 0]) ∧ Z.heap.size ≤ y.m ∧ y.n = 1 ∧ At w' y [] fixCnR 0 w' ∧ Below Z.heap.size (Z.alloc (.cells #[.string (kConn sConn0), v] 87)) w') := Lib.hid fun Z v B ho => by
    refine (new_any _ _ fixCnR (rdp_one Z (kConn sConn0) v _ ho.rd) fixSmallCn).mono ?_
    rintro e w' ⟨⟨h, -⟩ | ⟨-, y, he, h1, h2, h3, h4, h5, h6⟩, hb⟩
    · exact absurd h (by decide +kernel)
    · have hs : Z.heap.size ≤ (Z.alloc (.cells #[.string (kConn sConn0), v] 87)).heap.size := ((Below.refl Z.heap.size Z).alloc (Nat.le_refl _) _).size
      exact ⟨y, he, Nat.le_trans hs h2, h3, At.made h6 h4 h5 fixSmallCn, hb.mono hs⟩
  rw [fixKey] at HN
  have h0 : ∀ Z v, Below Z.heap.size Z (Z.alloc (.cells #[.string ⟨#[105, 98, 99, 47, 99, 111, 110, 110, 47, 99, 111, 110, 110, 45, 48]⟩, v] 87)) := fun Z v => (Below.refl _ _).alloc (Nat.le_refl _) _
  have HAD := Lib.hid (fun Z : World => icaaddr_any sConn0 sAnn Z (by decide +kernel) (by decide +kernel))
  rw [fixIca6] at HAD
  unfold sConn0 sAnn at HAD
  unfold CnV.val at HB
  generalize cnB fixCn = LB at *
  unfold fixCn sClient0 sClient1 sConn5 at HB
  dsimp only at HB
  go_enter Tryz.func11, Tryz.ntmps11
  go_wp2_with fail
  refine HB.out.mono ?_
  rintro e w1 ⟨v1, rfl, ho1, hb1⟩
  have HN1 := Lib.hid (HN.out w1 v1 _ ho1)
  have q0 := h0 w1 v1
  obtain ⟨A1, c1, rfl⟩ := ho1.form
  generalize LB.length = n1 at *
  clear HB HN ho1 h0
  go_wp2_with fail
  refine HN1.out.mono ?_
  rintro e w2 ⟨y, rfl, hym, hyn, A2, hb2⟩
  have q2 : Below w.heap.size w w2 := hb1.trans ((q0.mono hb1.size).trans (hb2.mono hb1.size))
  have hym2 : w.heap.size ≤ y.m := Nat.le_trans hb1.size hym
  obtain ⟨yb, ym, yn, yf⟩ := y
  dsimp only at hyn hym2 ⊢
  subst hyn
  have HG1 := Lib.hid (icareg_any A2 (show 1 + 0 + 6 ≤ maxLen by unfold maxLen; decide) fixCh7 sAnn sConn0 (by decide +kernel) (by decide +kernel) (fun v e => by rw [fixIca8] at e; cases e))
  rw [fixIca1, fixIca2, show regR fixCnR sAnn sConn0 = fixIcaR from rfl] at HG1
  have HQ := Lib.hid (And.intro q2 hym2)
  clear HN1 q0 hb1 hb2 hym q2 hym2 A2
  unfold sConn0 sAnn sChan0 at HG1
  go_wp2_with fail
  refine HG1.out.mono ?_
  rintro e w3 ⟨rfl, A3, -⟩
  have HG2 := Lib.hid (icareg_any A3 (show 1 + (0 + 6) + 6 ≤ maxLen by unfold maxLen; decide) fixIca7 sAnn sConn0 (by decide +kernel) (by decide +kernel) (fun v e => by rw [fixIca5] at e; injection e with e; rw [← e]; decide +kernel))
  rw [show regI fixIcaR sAnn sConn0 = ⟨#[]⟩ by unfold regI; rw [fixIca3]; rfl, show regR fixIcaR sAnn sConn0 = fixIcaR by unfold regR; rw [fixIca3]; rfl, fixIca3] at HG2
  clear HG1 A3
  unfold sConn0 sAnn at HG2
  go_wp2_with fail
  refine HG2.out.mono ?_
  rintro e w4 ⟨rfl, A4, -⟩
  have HG3 := Lib.hid (icaexec_owner A4 sBob sChan0 (by decide +kernel) _ fixIca4 rfl sAnn_ne)
  have HA4 := Lib.hid A4
  clear HG2 A4
  unfold sBob sChan0 at HG3
  go_wp2_with fail
  refine HG3.out.mono ?_
  rintro e w5 ⟨rfl, hb5⟩
  have A5 := HA4.out.up (hb5.alloc hb5.size (.cells #[.string ⟨#[]⟩, .string ⟨#[]⟩, .int .u64 0, .slice none 0 0, .int .u64 0, .int .u64 0] 49))
  have HG4 := Lib.hid (icaactive_any A5 sConn0 sAnn (by decide +kernel) (by decide +kernel))
  rw [fixIca5, show (⟨((some (strBytes sChan0)).getD []).toArray⟩ : ByteArray) = sChan0 from rfl] at HG4
  dsimp only [Option.isSome_some] at HG4
  have HA5 := Lib.hid A5
  clear HG3 HA4 A5 hb5
  unfold sConn0 sAnn sChan0 at HG4
  go_wp2_with fail
  refine HG4.out.mono ?_
  rintro e w6 ⟨rfl, hb6⟩
  have A6 := HA5.out.up hb6
  have hq := HQ.out.1.trans (A6.below HQ.out.2 HQ.out.1.size)
  clear HG4 HA5 A6 hb6
  go_wp2_with fail
  refine (HAD.out _).mono ?_
  rintro e w7 ⟨rfl, rfl⟩
  go_wp2_with fail
  go_ret
  exact ⟨rfl, hq⟩
end Go.Proofs.YtlkbjhhbpmmamaaGreatDoor
