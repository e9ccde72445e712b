
/- The walks of an owner's account and channel; the law's fixed answers. -/
import Derived.Test.YtlkkjnacolmmpabDoorChnF
import Derived.Test.YtlkkjnacolmmpabDoorRConG
namespace Go.Proofs.YtlkkjnacolmmpabDoor
set_option maxRecDepth 100000
open Go Go.RowKit
set_option linter.unusedVariables false

def icaP : ByteArray := ⟨#[105, 99, 97, 46]⟩
def dotB : ByteArray := ⟨#[46]⟩
def actP : ByteArray := ⟨#[105, 99, 97, 47, 97, 99, 116, 105, 118, 101, 47]⟩
/-- an owner's account; where the channel is kept that an owner asked for last -/
def kIca (a b : ByteArray) : ByteArray := ((icaP ++ a) ++ dotB) ++ b
def kAct (a b : ByteArray) : ByteArray := ((actP ++ a) ++ slB) ++ b
theorem kAct_size (a b : ByteArray) : (kAct a b).size = a.size + b.size + 12 := by
  have h1 : actP.size = 11 := by decide +kernel
  have h2 : slB.size = 1 := by decide +kernel
  unfold kAct; simp only [ByteArray.size_append]; omega
theorem icaaddr_any (a b : ByteArray) (w : World) (ha : a.size ≤ 100000000) (hb : b.size ≤ 100000000) : Calls Tryd.prog 7 #[.string a, .string b] w fun e w' => e = .returned (.string (kIca a b)) ∧ w = w' := by
  have s1 : icaP.size = 4 := rfl
  have s2 : dotB.size = 1 := rfl
  have h1 := fun W => txt_add icaP a (by rw [s1]; omega) W
  have h2 := fun W => txt_add (icaP ++ a) dotB (by rw [ByteArray.size_append, s1, s2]; omega) W
  have h3 := fun W => txt_add ((icaP ++ a) ++ dotB) b (by rw [ByteArray.size_append, ByteArray.size_append, s1, s2]; omega) W
  unfold kIca
  generalize (icaP ++ a) ++ dotB = x2 at *
  generalize hx1 : icaP ++ a = x1 at *
  clear hx1
  unfold icaP dotB at *
  go_enter Tryd.func7, Tryd.ntmps7
  go_wp2
  go_ret
  exact ⟨rfl, rfl⟩
theorem ricaaddr_any (a b : ByteArray) (w : World) (ha : a.size ≤ 100000000) (hb : b.size ≤ 100000000) : Calls Tryd.prog 8 #[.string a, .string b] w fun e w' => e = .returned (.string (kIca a b)) ∧ w = w' := by
  have s1 : icaP.size = 4 := rfl
  have s2 : dotB.size = 1 := rfl
  have h1 := fun W => txt_add icaP a (by rw [s1]; omega) W
  have h2 := fun W => txt_add (icaP ++ a) dotB (by rw [ByteArray.size_append, s1, s2]; omega) W
  have h3 := fun W => txt_add ((icaP ++ a) ++ dotB) b (by rw [ByteArray.size_append, ByteArray.size_append, s1, s2]; omega) W
  unfold kIca
  generalize (icaP ++ a) ++ dotB = x2 at *
  generalize hx1 : icaP ++ a = x1 at *
  clear hx1
  unfold icaP dotB at *
  go_enter Tryd.func8, Tryd.ntmps8
  go_wp2
  go_ret
  exact ⟨rfl, rfl⟩
theorem icaact_any (a b : ByteArray) (w : World) (ha : a.size ≤ 100000000) (hb : b.size ≤ 100000000) : Calls Tryd.prog 18 #[.string a, .string b] w fun e w' => e = .returned (.string (kAct a b)) ∧ w = w' := by
  have s1 : actP.size = 11 := rfl
  have s2 : slB.size = 1 := rfl
  have h1 := fun W => txt_add actP a (by rw [s1]; omega) W
  have h2 := fun W => txt_add (actP ++ a) slB (by rw [ByteArray.size_append, s1, s2]; omega) W
  have h3 := fun W => txt_add ((actP ++ a) ++ slB) b (by rw [ByteArray.size_append, ByteArray.size_append, s1, s2]; omega) W
  unfold kAct
  generalize (actP ++ a) ++ slB = x2 at *
  generalize hx1 : actP ++ a = x1 at *
  clear hx1
  unfold actP slB at *
  go_enter Tryd.func18, Tryd.ntmps18
  go_wp2
  go_ret
  exact ⟨rfl, rfl⟩
theorem ricaact_any (a b : ByteArray) (w : World) (ha : a.size ≤ 100000000) (hb : b.size ≤ 100000000) : Calls Tryd.prog 20 #[.string a, .string b] w fun e w' => e = .returned (.string (kAct a b)) ∧ w = w' := by
  have s1 : actP.size = 11 := rfl
  have s2 : slB.size = 1 := rfl
  have h1 := fun W => txt_add actP a (by rw [s1]; omega) W
  have h2 := fun W => txt_add (actP ++ a) slB (by rw [ByteArray.size_append, s1, s2]; omega) W
  have h3 := fun W => txt_add ((actP ++ a) ++ slB) b (by rw [ByteArray.size_append, ByteArray.size_append, s1, s2]; omega) W
  unfold kAct
  generalize (actP ++ a) ++ slB = x2 at *
  generalize hx1 : actP ++ a = x1 at *
  clear hx1
  unfold actP slB at *
  go_enter Tryd.func20, Tryd.ntmps20
  go_wp2
  go_ret
  exact ⟨rfl, rfl⟩
set_option maxHeartbeats 2000000 in
theorem icaactive_any {W w : World} {y : Lyr} {l : List Lyr} {R : List Pr} {k : Nat} (h : At W y l R k w) (a o : ByteArray) (ha : a.size ≤ 100000000) (ho : o.size ≤ 100000000) :
    Calls Tryd.prog 9 #[.pointer (some ⟨y.b, 0, none⟩), .string a, .string o] w fun e w' => e = .returned (.tuple #[.string ⟨((getL R (kAct a o)).getD []).toArray⟩, .bool (getL R (kAct a o)).isSome]) ∧ Below w.heap.size w w' := by
  have HG := Lib.hid (h.get (kAct a o) (by rw [kAct_size]; unfold maxLen; omega))
  have HK := Lib.hid (fun Z : World => icaact_any a o Z ha ho)
  generalize (getL R (kAct a o)).isSome = B0 at *
  generalize (getL R (kAct a o)).getD [] = L0 at *
  generalize kAct a o = key at *
  obtain ⟨S, hS⟩ : ∃ S : ByteArray, S = ⟨L0.toArray⟩ := ⟨_, rfl⟩
  have HCS : Hid (∀ (Z : World) (v : Value) (B : Nat), Own Z B v L0 → (convert 37 9 v).run Tryd.prog Z = .ok (.string S) Z) := Lib.hid fun Z v B h => by rw [hS]; exact run_str Tryd.underlying37 Tryd.underlying5 Tryd.isString h.rd
  rw [← hS]
  obtain ⟨B, hB⟩ : ∃ B : Addr, B = ⟨y.b, 0, none⟩ := ⟨_, rfl⟩
  rw [← hB] at HG ⊢
  clear hS hB h ha ho
  go_enter Tryd.func9, Tryd.ntmps9
  go_wp2_with fail
  refine (HK.out _).mono ?_
  rintro e w1 ⟨rfl, rfl⟩
  go_wp2_with fail
  refine HG.out.mono ?_
  rintro e w1 ⟨v, rfl, hov, hb1⟩
  have hc := fun (Z : World) (hz : Below w1.heap.size w1 Z) => HCS.out Z v _ (hov.below hz)
  have hc0 := hc w1 (Below.refl _ _)
  obtain ⟨A, c, rfl⟩ := hov.form
  generalize L0.length = n0 at *
  clear hov hc HG HK
  go_wp2_with fail
  go_ret2
  exact ⟨rfl, hb1⟩
set_option maxHeartbeats 2000000 in
theorem ricaactive_any {w : World} {b : Nat} {R : List Pr} (h : RGet w b R) (a o : ByteArray) (ha : a.size ≤ 100000000) (ho : o.size ≤ 100000000) :
    Calls Tryd.prog 10 #[.pointer (some ⟨b, 0, none⟩), .string a, .string o] w fun e w' => e = .returned (.tuple #[.string ⟨((getL R (kAct a o)).getD []).toArray⟩, .bool (getL R (kAct a o)).isSome]) ∧ Below w.heap.size w w' := by
  have HG := Lib.hid (h.get w (Below.refl _ _) (kAct a o) (by rw [kAct_size]; unfold maxLen; omega))
  have HK := Lib.hid (fun Z : World => ricaact_any a o Z ha ho)
  generalize (getL R (kAct a o)).isSome = B0 at *
  generalize (getL R (kAct a o)).getD [] = L0 at *
  generalize kAct a o = key at *
  obtain ⟨S, hS⟩ : ∃ S : ByteArray, S = ⟨L0.toArray⟩ := ⟨_, rfl⟩
  have HCS : Hid (∀ (Z : World) (v : Value) (B : Nat), Own Z B v L0 → (convert 37 9 v).run Tryd.prog Z = .ok (.string S) Z) := Lib.hid fun Z v B h => by rw [hS]; exact run_str Tryd.underlying37 Tryd.underlying5 Tryd.isString h.rd
  rw [← hS]
  obtain ⟨B, hB⟩ : ∃ B : Addr, B = ⟨b, 0, none⟩ := ⟨_, rfl⟩
  rw [← hB] at HG ⊢
  clear hS hB h ha ho
  go_enter Tryd.func10, Tryd.ntmps10
  go_wp2_with fail
  refine (HK.out _).mono ?_
  rintro e w1 ⟨rfl, rfl⟩
  go_wp2_with fail
  refine HG.out.mono ?_
  rintro e w1 ⟨v, rfl, hov, hb1⟩
  have hc := fun (Z : World) (hz : Below w1.heap.size w1 Z) => HCS.out Z v _ (hov.below hz)
  have hc0 := hc w1 (Below.refl _ _)
  obtain ⟨A, c, rfl⟩ := hov.form
  generalize L0.length = n0 at *
  clear hov hc HG HK
  go_wp2_with fail
  go_ret2
  exact ⟨rfl, hb1⟩
/-- is there a channel of that owner's already, that isn't closed? -/
def busyB (R : List Pr) (via owner : ByteArray) : Bool := match getL R (kAct via owner) with
  | none => false
  | some l => match getCh R ⟨l.toArray⟩ with
    | none => false
    | some c => !decide (c.st = 4)
def regE (R : List Pr) (owner via : ByteArray) : Int := if identB owner = true then (if identB via = true then (if busyB R via owner = true then 111 else beginE R via sControl sHost true owner) else 160) else 160
def regI (R : List Pr) (owner via : ByteArray) : ByteArray := if regE R owner via = 0 then newID R sChan else ⟨#[]⟩
def regR (R : List Pr) (owner via : ByteArray) : List Pr := if regE R owner via = 0 then setL (kAct via owner) (strBytes (newID R sChan)) (beginR R via sControl sHost true owner) else R
set_option maxHeartbeats 8000000 in
theorem icareg_any {W w : World} {y : Lyr} {l : List Lyr} {R : List Pr} {k : Nat} (h : At W y l R k w) (hn : y.n + k + 6 ≤ maxLen) (hs : numN R sChan < 10) (owner via : ByteArray) (h_owner : owner.size ≤ 100000000) (h_via : via.size ≤ 100000000)
    (hlen : ∀ v, getL R (kAct via owner) = some v → v.length ≤ 65535) :
    Calls Tryd.prog 15 #[.pointer (some ⟨y.b, 0, none⟩), .string owner, .string via] w fun e w' => e = .returned (.tuple #[.string (regI R owner via), .int .i64 (regE R owner via)]) ∧ At W y l (regR R owner via) (k + 6) w' ∧ Kept w w' := by
  have HI1 : Hid (∀ Z : World, Calls Tryd.prog 26 #[.string owner] Z fun e w' => e = .returned (.bool (identB owner)) ∧ Z = w') := Lib.hid fun Z => ident_any owner Z (by unfold maxLen; omega)
  have HI2 : Hid (∀ Z : World, Calls Tryd.prog 26 #[.string via] Z fun e w' => e = .returned (.bool (identB via)) ∧ Z = w') := Lib.hid fun Z => ident_any via Z (by unfold maxLen; omega)
  have HA := Lib.hid (icaactive_any h via owner h_via h_owner)
  have HG : Hid (∀ Z, Below w.heap.size w Z → Calls Tryd.prog 27 #[.pointer (some ⟨y.b, 0, none⟩), .string ⟨((getL R (kAct via owner)).getD []).toArray⟩] Z fun e w' => e = .returned (chV (getCh R ⟨((getL R (kAct via owner)).getD []).toArray⟩)) ∧ Below Z.heap.size Z w') := Lib.hid fun Z hz => chget_any (h.up hz) _ (by
    show ((getL R (kAct via owner)).getD []).length ≤ 100000000
    cases e : getL R (kAct via owner) with
    | none => simp
    | some v => have := hlen v e; simp; omega)
  have HB : Hid (∀ Z, Below w.heap.size w Z → Calls Tryd.prog 28 #[.pointer (some ⟨y.b, 0, none⟩), .string via, .string ⟨#[99, 111, 110, 116, 114, 111, 108]⟩, .string ⟨#[104, 111, 115, 116]⟩, .bool true, .string owner] Z fun e w' => e = .returned (.tuple #[.string (if beginE R via sControl sHost true owner = 0 then newID R sChan else ⟨#[]⟩), .int .i64 (beginE R via sControl sHost true owner)]) ∧ At W y l (beginR R via sControl sHost true owner) (k + 5) w' ∧ Kept Z w') :=
    Lib.hid fun Z hz => chbegin_any (h.up hz) (by omega) hs via sControl sHost true owner h_via (by decide +kernel) (by decide +kernel) h_owner
  have HUP := Lib.hid (fun (Z : World) (hz : Below w.heap.size w Z) => (h.up hz).more (show k ≤ k + 6 by omega))
  have zid := numN_small R sChan hs
  have z4 : sChan.size = 4 := rfl
  have zid2 : (newID R sChan).size ≤ maxLen := by unfold maxLen; omega
  have HK := Lib.hid (fun Z : World => icaact_any via owner Z h_via h_owner)
  have HS : Hid (∀ (Z : World) (hz : At W y l (beginR R via sControl sHost true owner) (k + 5) Z) (v : Value) (hr : Rd Z Z.heap.size v (strBytes (newID R sChan))), Calls Tryd.prog 12 #[.pointer (some ⟨y.b, 0, none⟩), .string (kAct via owner), v] Z fun e w' => (∃ c, e = .returned (.int .i64 c)) ∧ At W y l (setL (kAct via owner) (strBytes (newID R sChan)) (beginR R via sControl sHost true owner)) (k + 5 + 1) w' ∧ Kept Z w') :=
    Lib.hid fun Z hz v hr => (hz.set (by omega) (kAct via owner) (by rw [kAct_size]; unfold maxLen; omega) v _ hr).mono fun e w' ⟨h1, h2, h3⟩ => ⟨⟨_, h1⟩, h2, h3⟩
  have hRE : beginE R via sControl sHost true owner ≠ 0 → beginR R via sControl sHost true owner = R := beginR_no
  unfold regI regR regE
  obtain ⟨bz, hbz⟩ : ∃ bz, bz = busyB R via owner := ⟨_, rfl⟩
  rw [← hbz]
  unfold busyB at hbz
  generalize setL (kAct via owner) (strBytes (newID R sChan)) (beginR R via sControl sHost true owner) = R3 at *
  generalize beginR R via sControl sHost true owner = R2 at *
  generalize beginE R via sControl sHost true owner = E at *
  generalize newID R sChan = ID at *
  generalize kAct via owner = key at *
  generalize identB owner = b1 at *
  generalize identB via = b2 at *
  clear h hn hs h_owner h_via hlen zid z4
  cases b1 with
  | false =>
    simp only [Bool.false_eq_true, if_false, if_neg (show ¬ (160 : Int) = 0 by decide)]
    go_enter Tryd.func15, Tryd.ntmps15
    go_wp2_with fail
    refine (HI1.out _).mono ?_
    rintro e w1 ⟨rfl, rfl⟩
    go_wp2_with fail
    go_ret2
    exact ⟨rfl, HUP.out _ (Below.refl _ _), Kept.refl _⟩
  | true =>
    cases b2 with
    | false =>
      simp only [Bool.false_eq_true, if_false, if_true, if_neg (show ¬ (160 : Int) = 0 by decide)]
      go_enter Tryd.func15, Tryd.ntmps15
      go_wp2_with fail
      refine (HI1.out _).mono ?_
      rintro e w1 ⟨rfl, rfl⟩
      go_wp2_with fail
      refine (HI2.out _).mono ?_
      rintro e w1 ⟨rfl, rfl⟩
      go_wp2_with fail
      go_ret2
      exact ⟨rfl, HUP.out _ (Below.refl _ _), Kept.refl _⟩
    | true =>
      cases hg : getL R key with
      | none =>
        rw [hg] at HA
        dsimp only [Option.getD_none, Option.isSome_none] at HA
        rw [hg] at hbz
        dsimp only at hbz
        subst hbz
        simp only [if_true, Bool.false_eq_true, if_false]
        clear hg HG HUP
        by_cases hE : E = 0
        · subst hE
          (try simp only [if_true])
          simp only [if_true] at HB
          go_enter Tryd.func15, Tryd.ntmps15
          go_wp2_with fail
          refine (HI1.out _).mono ?_
          rintro e w1 ⟨rfl, rfl⟩
          go_wp2_with fail
          refine (HI2.out _).mono ?_
          rintro e w1 ⟨rfl, rfl⟩
          go_wp2_with fail
          refine HA.out.mono ?_
          rintro e w2 ⟨rfl, hb2⟩
          clear HA
          go_wp2_with fail
          refine (HB.out _ hb2).mono ?_
          rintro e w5 ⟨rfl, A5, hk5⟩
          have hkk := (Kept.of_belowX hb2).transX hk5
          clear HB HI1 HI2
          go_wp2_with fail
          refine (HK.out _).mono ?_
          rintro e w6 ⟨rfl, rfl⟩
          obtain ⟨c6, w6, hrun, hr6, hb6⟩ := conv_str w5 ID (by omega)
          have HS6 := Lib.hid (HS.out w6 (A5.up hb6) _ hr6)
          have hkk6 := hkk.transX (Kept.of_belowX hb6)
          clear HS A5 hk5 hkk hr6
          go_wp2_with fail
          refine HS6.out.mono ?_
          rintro e w7 ⟨⟨c7, rfl⟩, A7, hk7⟩
          have hkf := hkk6.transX hk7
          go_wp2_with fail
          go_ret2
          exact ⟨rfl, A7, hkf⟩
        · have he : (E != 0) = true := by simpa using hE
          have hR := hRE hE
          subst hR
          simp only [if_neg hE] at HB ⊢
          clear hE hRE
          go_enter Tryd.func15, Tryd.ntmps15
          go_wp2_with fail
          refine (HI1.out _).mono ?_
          rintro e w1 ⟨rfl, rfl⟩
          go_wp2_with fail
          refine (HI2.out _).mono ?_
          rintro e w1 ⟨rfl, rfl⟩
          go_wp2_with fail
          refine HA.out.mono ?_
          rintro e w2 ⟨rfl, hb2⟩
          clear HA
          go_wp2_with fail
          refine (HB.out _ hb2).mono ?_
          rintro e w5 ⟨rfl, A5, hk5⟩
          have hkk := (Kept.of_belowX hb2).transX hk5
          have A6 := A5.more (show k + 5 ≤ k + 6 by omega)
          clear HB HI1 HI2 HS HK A5
          go_wp2_with fail
          go_ret2
          exact ⟨rfl, A6, hkk⟩
      | some v =>
        rw [hg] at HA HG
        dsimp only [Option.getD_some, Option.isSome_some] at HA HG
        rw [hg] at hbz
        dsimp only at hbz
        cases hc : getCh R ⟨v.toArray⟩ with
        | none =>
          rw [hc] at HG
          unfold chV ChV.val ChV.none at HG
          dsimp only at HG
          rw [hc] at hbz
          dsimp only at hbz
          subst hbz
          simp only [if_true, Bool.false_eq_true, if_false]
          clear hg HUP hc
          obtain ⟨last, hl⟩ : ∃ last : ByteArray, last = ⟨v.toArray⟩ := ⟨_, rfl⟩
          rw [← hl] at HA HG
          clear hl
          by_cases hE : E = 0
          · subst hE
            (try simp only [if_true])
            simp only [if_true] at HB
            go_enter Tryd.func15, Tryd.ntmps15
            go_wp2_with fail
            refine (HI1.out _).mono ?_
            rintro e w1 ⟨rfl, rfl⟩
            go_wp2_with fail
            refine (HI2.out _).mono ?_
            rintro e w1 ⟨rfl, rfl⟩
            go_wp2_with fail
            refine HA.out.mono ?_
            rintro e w2 ⟨rfl, hb2⟩
            have HG2 := Lib.hid (HG.out _ hb2)
            clear HA HG
            go_wp2_with fail
            refine HG2.out.mono ?_
            rintro e w3 ⟨rfl, hb3⟩
            have b3 := below_chain hb2 hb2.size hb3
            have m3 := heap_alloc_new w3 (.cells #[.int .u64 0, .bool false, .string ⟨#[]⟩, .string ⟨#[]⟩, .string ⟨#[]⟩, .string ⟨#[]⟩, .string ⟨#[]⟩] 67)
            have b4 := b3.alloc b3.size (.cells #[.int .u64 0, .bool false, .string ⟨#[]⟩, .string ⟨#[]⟩, .string ⟨#[]⟩, .string ⟨#[]⟩, .string ⟨#[]⟩] 67)
            have c0 := blk_cell m3 0
            clear HG2 hb3 b3
            go_wp2_with fail
            refine (HB.out _ b4).mono ?_
            rintro e w5 ⟨rfl, A5, hk5⟩
            have hkk := (Kept.of_belowX b4).transX hk5
            clear HB HI1 HI2
            go_wp2_with fail
            refine (HK.out _).mono ?_
            rintro e w6 ⟨rfl, rfl⟩
            obtain ⟨c6, w6, hrun, hr6, hb6⟩ := conv_str w5 ID (by omega)
            have HS6 := Lib.hid (HS.out w6 (A5.up hb6) _ hr6)
            have hkk6 := hkk.transX (Kept.of_belowX hb6)
            clear HS A5 hk5 hkk hr6
            go_wp2_with fail
            refine HS6.out.mono ?_
            rintro e w7 ⟨⟨c7, rfl⟩, A7, hk7⟩
            have hkf := hkk6.transX hk7
            go_wp2_with fail
            go_ret2
            exact ⟨rfl, A7, hkf⟩
          · have he : (E != 0) = true := by simpa using hE
            have hR := hRE hE
            subst hR
            simp only [if_neg hE] at HB ⊢
            clear hE hRE
            go_enter Tryd.func15, Tryd.ntmps15
            go_wp2_with fail
            refine (HI1.out _).mono ?_
            rintro e w1 ⟨rfl, rfl⟩
            go_wp2_with fail
            refine (HI2.out _).mono ?_
            rintro e w1 ⟨rfl, rfl⟩
            go_wp2_with fail
            refine HA.out.mono ?_
            rintro e w2 ⟨rfl, hb2⟩
            have HG2 := Lib.hid (HG.out _ hb2)
            clear HA HG
            go_wp2_with fail
            refine HG2.out.mono ?_
            rintro e w3 ⟨rfl, hb3⟩
            have b3 := below_chain hb2 hb2.size hb3
            have m3 := heap_alloc_new w3 (.cells #[.int .u64 0, .bool false, .string ⟨#[]⟩, .string ⟨#[]⟩, .string ⟨#[]⟩, .string ⟨#[]⟩, .string ⟨#[]⟩] 67)
            have b4 := b3.alloc b3.size (.cells #[.int .u64 0, .bool false, .string ⟨#[]⟩, .string ⟨#[]⟩, .string ⟨#[]⟩, .string ⟨#[]⟩, .string ⟨#[]⟩] 67)
            have c0 := blk_cell m3 0
            clear HG2 hb3 b3
            go_wp2_with fail
            refine (HB.out _ b4).mono ?_
            rintro e w5 ⟨rfl, A5, hk5⟩
            have hkk := (Kept.of_belowX b4).transX hk5
            have A6 := A5.more (show k + 5 ≤ k + 6 by omega)
            clear HB HI1 HI2 HS HK A5
            go_wp2_with fail
            go_ret2
            exact ⟨rfl, A6, hkk⟩
        | some c =>
          obtain ⟨st, od, po, cp, cn, cc, ve⟩ := c
          rw [hc] at HG
          unfold chV ChV.val at HG
          dsimp only at HG
          rw [hc] at hbz
          dsimp only at hbz
          clear hc
          obtain ⟨last, hl⟩ : ∃ last : ByteArray, last = ⟨v.toArray⟩ := ⟨_, rfl⟩
          rw [← hl] at HA HG
          clear hl
          by_cases h4 : st = 4
          · have f4 : ((st : Int) == 4) = true := by simp; omega
            rw [decide_eq_true h4] at hbz
            subst hbz
            simp only [if_true, Bool.not_true, Bool.false_eq_true, if_false]
            clear hg HUP h4
            by_cases hE : E = 0
            · subst hE
              (try simp only [if_true])
              simp only [if_true] at HB
              go_enter Tryd.func15, Tryd.ntmps15
              go_wp2_with fail
              refine (HI1.out _).mono ?_
              rintro e w1 ⟨rfl, rfl⟩
              go_wp2_with fail
              refine (HI2.out _).mono ?_
              rintro e w1 ⟨rfl, rfl⟩
              go_wp2_with fail
              refine HA.out.mono ?_
              rintro e w2 ⟨rfl, hb2⟩
              have HG2 := Lib.hid (HG.out _ hb2)
              clear HA HG
              go_wp2_with fail
              refine HG2.out.mono ?_
              rintro e w3 ⟨rfl, hb3⟩
              have b3 := below_chain hb2 hb2.size hb3
              have m3 := heap_alloc_new w3 (.cells #[.int .u64 (st : Int), .bool od, .string po, .string cp, .string cn, .string cc, .string ve] 67)
              have b4 := b3.alloc b3.size (.cells #[.int .u64 (st : Int), .bool od, .string po, .string cp, .string cn, .string cc, .string ve] 67)
              have c0 := blk_cell m3 0
              clear HG2 hb3 b3
              go_wp2_with fail
              refine (HB.out _ b4).mono ?_
              rintro e w5 ⟨rfl, A5, hk5⟩
              have hkk := (Kept.of_belowX b4).transX hk5
              clear HB HI1 HI2
              go_wp2_with fail
              refine (HK.out _).mono ?_
              rintro e w6 ⟨rfl, rfl⟩
              obtain ⟨c6, w6, hrun, hr6, hb6⟩ := conv_str w5 ID (by omega)
              have HS6 := Lib.hid (HS.out w6 (A5.up hb6) _ hr6)
              have hkk6 := hkk.transX (Kept.of_belowX hb6)
              clear HS A5 hk5 hkk hr6
              go_wp2_with fail
              refine HS6.out.mono ?_
              rintro e w7 ⟨⟨c7, rfl⟩, A7, hk7⟩
              have hkf := hkk6.transX hk7
              go_wp2_with fail
              go_ret2
              exact ⟨rfl, A7, hkf⟩
            · have he : (E != 0) = true := by simpa using hE
              have hR := hRE hE
              subst hR
              simp only [if_neg hE] at HB ⊢
              clear hE hRE
              go_enter Tryd.func15, Tryd.ntmps15
              go_wp2_with fail
              refine (HI1.out _).mono ?_
              rintro e w1 ⟨rfl, rfl⟩
              go_wp2_with fail
              refine (HI2.out _).mono ?_
              rintro e w1 ⟨rfl, rfl⟩
              go_wp2_with fail
              refine HA.out.mono ?_
              rintro e w2 ⟨rfl, hb2⟩
              have HG2 := Lib.hid (HG.out _ hb2)
              clear HA HG
              go_wp2_with fail
              refine HG2.out.mono ?_
              rintro e w3 ⟨rfl, hb3⟩
              have b3 := below_chain hb2 hb2.size hb3
              have m3 := heap_alloc_new w3 (.cells #[.int .u64 (st : Int), .bool od, .string po, .string cp, .string cn, .string cc, .string ve] 67)
              have b4 := b3.alloc b3.size (.cells #[.int .u64 (st : Int), .bool od, .string po, .string cp, .string cn, .string cc, .string ve] 67)
              have c0 := blk_cell m3 0
              clear HG2 hb3 b3
              go_wp2_with fail
              refine (HB.out _ b4).mono ?_
              rintro e w5 ⟨rfl, A5, hk5⟩
              have hkk := (Kept.of_belowX b4).transX hk5
              have A6 := A5.more (show k + 5 ≤ k + 6 by omega)
              clear HB HI1 HI2 HS HK A5
              go_wp2_with fail
              go_ret2
              exact ⟨rfl, A6, hkk⟩
          · have f4 : ((st : Int) == 4) = false := by simp; omega
            rw [decide_eq_false h4] at hbz
            subst hbz
            simp only [if_true, Bool.not_false, if_neg (show ¬ (111 : Int) = 0 by decide)]
            clear hg h4 HB HS HK
            go_enter Tryd.func15, Tryd.ntmps15
            go_wp2_with fail
            refine (HI1.out _).mono ?_
            rintro e w1 ⟨rfl, rfl⟩
            go_wp2_with fail
            refine (HI2.out _).mono ?_
            rintro e w1 ⟨rfl, rfl⟩
            go_wp2_with fail
            refine HA.out.mono ?_
            rintro e w2 ⟨rfl, hb2⟩
            have HG2 := Lib.hid (HG.out _ hb2)
            clear HA HG
            go_wp2_with fail
            refine HG2.out.mono ?_
            rintro e w3 ⟨rfl, hb3⟩
            have b3 := below_chain hb2 hb2.size hb3
            have m3 := heap_alloc_new w3 (.cells #[.int .u64 (st : Int), .bool od, .string po, .string cp, .string cn, .string cc, .string ve] 67)
            have b4 := b3.alloc b3.size (.cells #[.int .u64 (st : Int), .bool od, .string po, .string cp, .string cn, .string cc, .string ve] 67)
            have c0 := blk_cell m3 0
            clear HG2 hb3 b3
            have A4 := HUP.out _ b4
            have hk4 := Kept.of_belowX b4
            clear HUP HI1 HI2
            go_wp2_with fail
            go_ret2
            exact ⟨rfl, A4, hk4⟩
set_option maxHeartbeats 4000000 in
theorem icaexec_owner {W w : World} {y : Lyr} {l : List Lyr} {R : List Pr} {k : Nat} (h : At W y l R k w) (owner id : ByteArray) (hid : id.size ≤ 100000000) (c : ChV) (hc : getCh R id = some c) (hp : c.po = sControl) (hv : ¬ c.ve = owner) :
    Calls Tryd.prog 16 #[.pointer (some ⟨y.b, 0, none⟩), .string owner, .string id, .slice none 0 0, .int .u64 0, .int .u64 0] w fun e w' => e = .returned (.tuple #[.agg #[.string ⟨#[]⟩, .string ⟨#[]⟩, .int .u64 0, .slice none 0 0, .int .u64 0, .int .u64 0], .int .i64 160]) ∧ Below w.heap.size w w' := by
  have hk0 := heap_alloc_new w (.cells #[.string ⟨#[]⟩, .string ⟨#[]⟩, .int .u64 0, .slice none 0 0, .int .u64 0, .int .u64 0] 52)
  have ha0 : Below w.heap.size w (w.alloc (.cells #[.string ⟨#[]⟩, .string ⟨#[]⟩, .int .u64 0, .slice none 0 0, .int .u64 0, .int .u64 0] 52)) := (Below.refl _ _).alloc (Nat.le_refl _) _
  have HG := Lib.hid (chget_any (h.up ha0) id hid)
  rw [hc] at HG
  generalize hW0 : w.alloc (.cells #[.string ⟨#[]⟩, .string ⟨#[]⟩, .int .u64 0, .slice none 0 0, .int .u64 0, .int .u64 0] 52) = w0 at *
  obtain ⟨st, od, po, cp, cn, cc, ve⟩ := c
  dsimp only at hp hv
  subst hp
  have hne : (ve.toList == owner.toList) = false := beq_toList_ne hv
  unfold chV ChV.val sControl at HG
  dsimp only at HG
  clear h hc hv
  go_enter Tryd.func16, Tryd.ntmps16
  go_wp2_with fail
  try rw [hW0]
  clear hW0
  refine HG.out.mono ?_
  rintro e w1 ⟨rfl, hb1⟩
  have q1 := below_chain ha0 ha0.size hb1
  have k1 := (hb1.block _ (blk_lt hk0)).trans hk0
  have q2 := q1.alloc q1.size (.cells #[.int .u64 (st : Int), .bool od, .string ⟨#[99, 111, 110, 116, 114, 111, 108]⟩, .string cp, .string cn, .string cc, .string ve] 67)
  replace k1 := (Below.heap_alloc w1 (.cells #[.int .u64 (st : Int), .bool od, .string ⟨#[99, 111, 110, 116, 114, 111, 108]⟩, .string cp, .string cn, .string cc, .string ve] 67) _ (blk_lt k1)).trans k1
  have m1 := heap_alloc_new w1 (.cells #[.int .u64 (st : Int), .bool od, .string ⟨#[99, 111, 110, 116, 114, 111, 108]⟩, .string cp, .string cn, .string cc, .string ve] 67)
  have s2 := blk_cell m1 2
  have s6 := blk_cell m1 6
  have r0 := blk_cell k1 0
  have q0_ := blk_free k1 0
  have r1 := blk_cell k1 1
  have q1_ := blk_free k1 1
  have r2 := blk_cell k1 2
  have q2_ := blk_free k1 2
  have r3 := blk_cell k1 3
  have q3_ := blk_free k1 3
  have r4 := blk_cell k1 4
  have q4_ := blk_free k1 4
  have r5 := blk_cell k1 5
  have q5_ := blk_free k1 5
  have m4 := set6P k1 (.string ⟨#[]⟩) (.string ⟨#[]⟩) (.int .u64 0) (.slice none 0 0) (.int .u64 0) (.int .u64 0)
  have b4 := below_set6P q2 (Nat.le_refl _) (.string ⟨#[]⟩) (.string ⟨#[]⟩) (.int .u64 0) (.slice none 0 0) (.int .u64 0) (.int .u64 0)
  have HD := Lib.hid (And.intro (blk_cell m4 0) (And.intro (blk_cell m4 1) (And.intro (blk_cell m4 2) (And.intro (blk_cell m4 3) (And.intro (blk_cell m4 4) (blk_cell m4 5))))))
  clear m4 HG hk0 ha0 hb1 q1
  go_wp2_with fail
  obtain ⟨d0, d1, d2, d3, d4, d5⟩ := HD.out
  refine bodyPost_ret (v := .tuple #[.agg #[.string ⟨#[]⟩, .string ⟨#[]⟩, .int .u64 0, .slice none 0 0, .int .u64 0, .int .u64 0], .int .i64 160]) ?_ rfl ⟨rfl, b4⟩
  simp at d0 d1 d2 d3 d4 d5
  simp [results, Tryd.results16, go_sem, d0, d1, d2, d3, d4, d5]
end Go.Proofs.YtlkkjnacolmmpabDoor
