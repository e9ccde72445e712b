/- Texts joined: CliM, Sto1, IcaG0, BankD, BankDs, BankE. -/
import Derived.Test.YtpcoonnfaoakhaaGreatDoorM12
import Derived.Test.YtpcoonnfaoakhaaGreatDoorM13
import Derived.Test.YtpcoonnfaoakhaaGreatDoorM10
import Derived.Deep.RegionHeldLaw
import Derived.Lib.Strings
import Derived.Lib.Slices
import Derived.Lib.ItoaNum
import Derived.Test.YtpcoonnfaoakhaaGreatDoorM02
namespace Go.Proofs.YtpcoonnfaoakhaaGreatDoor
set_option maxRecDepth 100000
open Go Go.RowKit
set_option linter.unusedVariables false

/-! ### a store of any pile behind calls -/
theorem SeenL.putX {y : Lyr} {l : List Lyr} {R : List Pr} (h : SeenL ⟨#[]⟩ (y :: l) R) {key : ByteArray} (hk : key.size ≤ maxLen) (v : List UInt8) : SeenL ⟨#[]⟩ (y.put key (some v) :: l) (putL (key, some v) R) where
  rise := h.rise.put _
  small := fun p hp => by
    rcases List.mem_append.1 ((putL_perm key _ R).mem_iff.1 hp) with hp | hp
    · rw [List.mem_singleton.1 hp]; exact hk
    · exact h.small p (List.mem_filter.1 hp).1
  get := fun s hs => by
    have h0 := h.get s hs
    rw [begB_empty, if_pos rfl] at h0 ⊢
    rw [getL_putL]
    unfold visV at h0 ⊢
    rw [visD_cons] at h0 ⊢
    have hv : (y.put key (some v)).f s = if s = key then some (some v) else y.f s := rfl
    rw [hv]
    by_cases e : s = key
    · rw [if_pos e, if_pos e]; rfl
    · rw [if_neg e, if_neg e]; exact h0
theorem PileS.okDX {w : World} {l : List Lyr} (h : PileS w l) {s : ByteArray} {x : List UInt8} (e : visD l s = some (some x)) : keyB s = true ∧ x.length ≤ 65535 := by
  induction l with
  | nil => cases e
  | cons y l ih =>
    rw [visD_cons] at e
    cases hy : y.f s with
    | none => rw [hy] at e; exact ih h.2.2 e
    | some z =>
      rw [hy] at e
      exact h.1.ok s x (by rw [hy]; exact e)
/-- what is kept where the key and the value fit -/
def setL (key : ByteArray) (val : List UInt8) (R : List Pr) : List Pr := if pairB (key, val) = true then putL (key, some val) R else R
/-- a store over a pile, made at W: R is seen of it at W' -/
structure At (W : World) (y : Lyr) (l : List Lyr) (R : List Pr) (k : Nat) (W' : World) : Prop where
  b : BankS W y l R k W'
  p : PileS W (y :: l)
section
variable {W W' W2 : World} {y : Lyr} {l : List Lyr} {R R2 : List Pr} {k : Nat} {B : Nat}
theorem At.kept (h : At W y l R k W') : Kept W W' := by
  obtain ⟨n, f, -, -, -, h4⟩ := h.b
  exact ⟨_, h4, h.p.1.maps⟩
theorem At.below (h : At W y l R k W') (hB : B ≤ y.m) (hW : B ≤ W.heap.size) : Below B W W' := by
  obtain ⟨n, f, -, -, -, h4⟩ := h.b
  exact h4.below (fun k e => by rw [e]; exact hB) hW
theorem At.up (h : At W y l R k W') (hb : Below W'.heap.size W' W2) : At W y l R k W2 := ⟨h.b.up hb (Nat.le_refl k), h.p⟩
theorem At.more {k' : Nat} (h : At W y l R k W') (hk : k ≤ k') : At W y l R k' W' := ⟨h.b.up (Below.refl _ _) hk, h.p⟩
theorem At.made {ps : List Pr} (h : PileS W [y]) (hl : LyrIs ps y) (hr : Rise ps) (hs : ∀ p ∈ ps, p.1.size ≤ maxLen) : At W y [] ps 0 W := ⟨BankS.refl h ⟨hr, hs, fun s _ => by
  rw [begB_empty, if_pos rfl]
  unfold visV
  rw [visD_cons, hl s]
  cases getL ps s <;> rfl⟩, h⟩
theorem At.get (h : At W y l R k W') (key : ByteArray) (hk : key.size ≤ maxLen) :
    Calls Tryz.prog 18 #[.pointer (some ⟨y.b, 0, none⟩), .string key] W' fun e w' => ∃ v, e = .returned (.tuple #[v, .bool (getL R key).isSome]) ∧ Own w' W'.heap.size v ((getL R key).getD []) ∧ Below W'.heap.size W' w' := by
  obtain ⟨n, f, h1, h2, h3, h4⟩ := h.b
  have e := h2.get key hk
  rw [begB_empty, if_pos rfl] at e
  rw [e]
  exact get_any h1 key hk
theorem At.fits (h : At W y l R k W') {key : ByteArray} {v : List UInt8} (e : getL R key = some v) : keyB key = true ∧ v.length ≤ 65535 := by
  obtain ⟨n, f, h1, h2, h3, h4⟩ := h.b
  have hs := h2.small _ (getL_mem e)
  have e2 := h2.get key hs
  rw [begB_empty, if_pos rfl, e] at e2
  unfold visV at e2
  cases hd : visD (⟨y.b, y.m, n, f⟩ :: l) key with
  | none => rw [hd] at e2; cases e2
  | some z => rw [hd] at e2; exact h1.okDX (hd.trans (congrArg some e2.symm))
theorem At.set (h : At W y l R k W') (hn : y.n + k < maxLen) (key : ByteArray) (hk : key.size ≤ maxLen) (v : Value) (val : List UInt8) (hr : Rd W' W'.heap.size v val) :
    Calls Tryz.prog 43 #[.pointer (some ⟨y.b, 0, none⟩), .string key, v] W' fun e w' => e = .returned (.int .i64 (if pairB (key, val) = true then 0 else 60)) ∧ At W y l (setL key val R) (k + 1) w' ∧ Kept W' w' := by
  obtain ⟨n, f, h1, h2, h3, h4⟩ := h.b
  refine (set_any h1 (show n < maxLen by omega) key hk v val hr).mono ?_
  rintro e w' ⟨he, ⟨hp, rfl⟩ | ⟨hp, hq, hc⟩⟩
  · refine ⟨he, ?_, Kept.refl _⟩
    unfold setL
    rw [if_neg (by simp [hp])]
    exact h.more (by omega)
  · refine ⟨he, ?_, ⟨_, hc, h1.1.maps⟩⟩
    unfold setL
    rw [if_pos hp]
    exact ⟨⟨n + 1, _, hq, h2.putX hk val, by omega, h4.trans' hc⟩, h.p⟩
end

theorem Kept.of_belowX {w w' : World} (h : Below w.heap.size w w') : Kept w w' := ⟨fun _ => False, Chg.of_below h _, fun _ k => k.elim⟩
theorem Kept.transX {w w1 w2 : World} (h : Kept w w1) (k : Kept w1 w2) : Kept w w2 := by
  obtain ⟨F, h1, h2⟩ := h
  obtain ⟨G, k1, k2⟩ := k
  have hm : ∀ q, G q → q < w.heap.size → ¬ F q → ∃ es c, w.heap[q]? = some (.map es c) := fun q hq hl hn => by
    obtain ⟨es, c, e⟩ := k2 q hq
    exact ⟨es, c, (h1.block q hl hn).symm.trans e⟩
  refine ⟨fun q => q < w.heap.size ∧ (F q ∨ G q), ⟨k1.os.trans h1.os, k1.tape.trans h1.tape, k1.output.trans h1.output, Nat.le_trans h1.size k1.size, fun q hq hn => ?_⟩, fun q hq => ?_⟩
  · have hF : ¬ F q := fun e => hn ⟨hq, Or.inl e⟩
    have hG : ¬ G q := fun e => hn ⟨hq, Or.inr e⟩
    exact (k1.block q (Nat.lt_of_lt_of_le hq h1.size) hG).trans (h1.block q hq hF)
  · obtain ⟨hl, hq⟩ := hq
    by_cases hF : F q
    · exact h2 q hF
    · exact hm q (hq.resolve_left hF) hl hF

/-! ### what is kept -/
def cliP : ByteArray := ⟨#[105, 98, 99, 47, 99, 108, 105, 101, 110, 116, 47]⟩
def consP : ByteArray := ⟨#[105, 98, 99, 47, 99, 111, 110, 115, 47]⟩
def numP : ByteArray := ⟨#[105, 98, 99, 47, 110, 47]⟩
def connP : ByteArray := ⟨#[105, 98, 99, 47, 99, 111, 110, 110, 47]⟩
def nextP : ByteArray := ⟨#[105, 98, 99, 47, 110, 101, 120, 116, 47]⟩
def recvP : ByteArray := ⟨#[105, 98, 99, 47, 114, 101, 99, 118, 47]⟩
def ackedP : ByteArray := ⟨#[105, 98, 99, 47, 97, 99, 107, 101, 100, 47]⟩
def kCli (a : ByteArray) : ByteArray := cliP ++ a
def kCons (a : ByteArray) (n : Nat) : ByteArray := ((consP ++ a) ++ slB) ++ hexN n
def kNum (a : ByteArray) : ByteArray := numP ++ a
def kConn (a : ByteArray) : ByteArray := connP ++ a
def kChn (a : ByteArray) : ByteArray := chanP ++ a
theorem kCli_size (a : ByteArray) : (kCli a).size = a.size + 11 := by
  have : cliP.size = 11 := by decide +kernel
  unfold kCli; rw [ByteArray.size_append]; omega
theorem kNum_size (a : ByteArray) : (kNum a).size = a.size + 6 := by
  have : numP.size = 6 := by decide +kernel
  unfold kNum; rw [ByteArray.size_append]; omega
theorem kCons_size (a : ByteArray) (n : Nat) : (kCons a n).size = a.size + 26 := by
  have h1 : consP.size = 9 := by decide +kernel
  have h2 : slB.size = 1 := by decide +kernel
  have h3 := hexN_size n
  unfold kCons; simp only [ByteArray.size_append]; omega

/-- a client -/
structure ClV where
  ch : ByteArray
  la : Nat
  pe : Nat
  fr : Bool
def ClV.none : ClV := ⟨⟨#[]⟩, 0, 0, false⟩
def ClV.val (v : ClV) : Value := .agg #[.string v.ch, .int .u64 (v.la : Int), .int .u64 (v.pe : Int), .bool v.fr]
def ClV.ok (v : ClV) : Prop := v.ch.size ≤ 65535 ∧ v.la < 18446744073709551616 ∧ v.pe < 18446744073709551616
def clB (v : ClV) : List UInt8 := ((encS v.ch ++ be v.la 8) ++ be v.pe 8) ++ [fb v.fr]
def readCl (l : List UInt8) : Option ClV :=
  match rB l 0 with
  | (a, l1, f1) => match rN l1 f1 with
    | (b, l2, f2) => match rN l2 f2 with
      | (c, l3, f3) => match rF l3 f3 with
        | (d, l4, f4) => if rEnd l4 f4 = 0 then some ⟨⟨a.toArray⟩, b, c, d⟩ else Option.none
def clV : Option ClV → Value
  | some v => .tuple #[v.val, .bool true]
  | Option.none => .tuple #[ClV.none.val, .bool false]
def getCl (R : List Pr) (id : ByteArray) : Option ClV := if identB id = true then (getL R (kCli id)).bind readCl else Option.none

/-- a connection -/
structure CnV where
  st : Nat
  cl : ByteArray
  cc : ByteArray
  ct : ByteArray
def CnV.none : CnV := ⟨0, ⟨#[]⟩, ⟨#[]⟩, ⟨#[]⟩⟩
def CnV.val (v : CnV) : Value := .agg #[.int .u64 (v.st : Int), .string v.cl, .string v.cc, .string v.ct]
def cnB (v : CnV) : List UInt8 := ((be v.st 8 ++ encS v.cl) ++ encS v.cc) ++ encS v.ct
def readCn (l : List UInt8) : Option CnV :=
  match rN l 0 with
  | (a, l1, f1) => match rB l1 f1 with
    | (b, l2, f2) => match rB l2 f2 with
      | (c, l3, f3) => match rB l3 f3 with
        | (d, l4, f4) => if rEnd l4 f4 = 0 then some ⟨a, ⟨b.toArray⟩, ⟨c.toArray⟩, ⟨d.toArray⟩⟩ else Option.none
def cnV : Option CnV → Value
  | some v => .tuple #[v.val, .bool true]
  | Option.none => .tuple #[CnV.none.val, .bool false]
def getCn (R : List Pr) (id : ByteArray) : Option CnV := if identB id = true then (getL R (kConn id)).bind readCn else Option.none

/-- a channel -/
structure ChV where
  st : Nat
  od : Bool
  po : ByteArray
  cp : ByteArray
  cn : ByteArray
  cc : ByteArray
  ve : ByteArray
def ChV.none : ChV := ⟨0, false, ⟨#[]⟩, ⟨#[]⟩, ⟨#[]⟩, ⟨#[]⟩, ⟨#[]⟩⟩
def ChV.val (v : ChV) : Value := .agg #[.int .u64 (v.st : Int), .bool v.od, .string v.po, .string v.cp, .string v.cn, .string v.cc, .string v.ve]
def chB (v : ChV) : List UInt8 := (((((be v.st 8 ++ [fb v.od]) ++ encS v.po) ++ encS v.cp) ++ encS v.cn) ++ encS v.cc) ++ encS v.ve
def readCh (l : List UInt8) : Option ChV :=
  match rN l 0 with
  | (a, l1, f1) => match rF l1 f1 with
    | (b, l2, f2) => match rB l2 f2 with
      | (c, l3, f3) => match rB l3 f3 with
        | (d, l4, f4) => match rB l4 f4 with
          | (e, l5, f5) => match rB l5 f5 with
            | (f, l6, f6) => match rB l6 f6 with
              | (g, l7, f7) => if rEnd l7 f7 = 0 then some ⟨a, b, ⟨c.toArray⟩, ⟨d.toArray⟩, ⟨e.toArray⟩, ⟨f.toArray⟩, ⟨g.toArray⟩⟩ else Option.none
def chV : Option ChV → Value
  | some v => .tuple #[v.val, .bool true]
  | Option.none => .tuple #[ChV.none.val, .bool false]
def getCh (R : List Pr) (id : ByteArray) : Option ChV := if identB id = true then (getL R (kChn id)).bind readCh else Option.none

/-- what is trusted of a height -/
structure CsV where
  tm : Nat
  rt : List UInt8
  nx : List UInt8
def csB (v : CsV) : List UInt8 := (be v.tm 8 ++ encB v.rt) ++ encB v.nx
def readCs (l : List UInt8) : Option CsV :=
  match rN l 0 with
  | (a, l1, f1) => match rB l1 f1 with
    | (b, l2, f2) => match rB l2 f2 with
      | (c, l3, f3) => if rEnd l3 f3 = 0 then some ⟨a, b, c⟩ else Option.none
def getCs (R : List Pr) (id : ByteArray) (n : Nat) : Option CsV := if identB id = true then (getL R (kCons id n)).bind readCs else Option.none
end Go.Proofs.YtpcoonnfaoakhaaGreatDoor
namespace Go.Proofs.YtpcoonnfaoakhaaGreatDoor
set_option maxRecDepth 100000
open Go Go.RowKit
set_option linter.unusedVariables false

theorem bytes_inj {l m : List UInt8} (h : (⟨l.toArray⟩ : ByteArray) = ⟨m.toArray⟩) : l = m := by
  injection h with h
  simpa using h
theorem beq_toList_ne {s t : ByteArray} (h : ¬ s = t) : (s.toList == t.toList) = false := by
  rw [Lib.toList_data, Lib.toList_data]
  refine beq_eq_false_iff_ne.2 fun e => h ?_
  cases s with | mk a => cases t with | mk b =>
  have : a = b := by simpa using e
  rw [this]
set_option maxHeartbeats 8000000 in
theorem samePs_any (w : World) (a b : Value) (L M : List Pr) (ha : RdP w w.heap.size a L) (hb : RdP w w.heap.size b M) :
    Calls Tryz.prog 14 #[a, b] w fun e w' => e = .returned (.bool (decide (L = M))) ∧ Below w.heap.size w w' := by
  obtain ⟨A, c, rfl, hc, hcm, hp⟩ := ha
  obtain ⟨A', c', rfl, hc', hcm', hp'⟩ := hb
  unfold maxLen at hcm hcm'
  obtain ⟨n, hn⟩ : ∃ n, n = L.length := ⟨_, rfl⟩
  obtain ⟨q, hq⟩ : ∃ q, q = M.length := ⟨_, rfl⟩
  rw [← hn] at hc ⊢
  rw [← hq] at hc' ⊢
  have HN := Lib.hid hn
  have HQ := Lib.hid hq
  have HP := Lib.hid hp
  have HP' := Lib.hid hp'
  clear hn hq hp hp'
  by_cases hl : n = q
  · subst hl
    have hne : ((n : Int) != (n : Int)) = false := by simp
    obtain ⟨R, hR⟩ : ∃ R : Bool, R = decide (L = M) := ⟨_, rfl⟩
    have HR := Lib.hid hR
    rw [← hR]
    clear hR
    go_enter Tryz.func14, Tryz.ntmps14
    go_wp2_with fail
    go_loopw [13] (fun i W => ∃ k : Nat, k ≤ n ∧ i = .int .i64 (k : Int) ∧ Below w.heap.size w W ∧ Hid (L.take k = M.take k))
      (fun i _ => n - (intOf i).toNat)
    case atStart => exact ⟨0, Nat.zero_le _, rfl, Below.refl _ _, Lib.hid (by simp)⟩
    case round =>
      rename World => W
      obtain ⟨k, hkn, rfl, hbW, HT⟩ := hrel
      by_cases hlt : k < n
      · have hkL : k < L.length := by have := HN.out; omega
        have hkM : k < M.length := by have := HQ.out; omega
        obtain ⟨b, o, rfl, hbl, hcell⟩ := HP.out (by omega)
        obtain ⟨b', o', rfl, hbl', hcell'⟩ := HP'.out (by omega)
        obtain ⟨q1, x, q2, q3⟩ := hcell k hkL
        obtain ⟨r1, y, r2, r3⟩ := hcell' k hkM
        have a1 := (hbW.cell (p := ⟨b, o + k * 2, none⟩) hbl).trans q1
        have a2 := (hbW.cell (p := ⟨b, o + k * 2 + 1, none⟩) hbl).trans q2
        have a3 := (hbW.cell (p := ⟨b', o' + k * 2, none⟩) hbl').trans r1
        have a4 := (hbW.cell (p := ⟨b', o' + k * 2 + 1, none⟩) hbl').trans r2
        have cx := fun nq => run_str (P := Tryz.prog) (w := W.drewN nq) (B := W.heap.size) (src := 27) (dst := 9) Tryz.underlying27 Tryz.underlying5 Tryz.isString ((q3.below hbW).more hbW.size)
        have cy := fun nq => run_str (P := Tryz.prog) (w := W.drewN nq) (B := W.heap.size) (src := 27) (dst := 9) Tryz.underlying27 Tryz.underlying5 Tryz.isString ((r3.below hbW).more hbW.size)
        obtain ⟨Ax, kx, rfl⟩ := q3.form
        obtain ⟨Ay, ky, rfl⟩ := r3.form
        have HLk : Hid (L[k] = (L[k].1, L[k].2)) := Lib.hid rfl
        have HMk : Hid (M[k] = (M[k].1, M[k].2)) := Lib.hid rfl
        have hstep : L[k] = M[k] → L.take (k + 1) = M.take (k + 1) := fun e => by
          rw [← List.take_append_getElem hkL, ← List.take_append_getElem hkM, HT.out, e]
        have HST := Lib.hid hstep
        have hno : ¬ L[k] = M[k] → R = false := fun e => by
          rw [HR.out]
          refine decide_eq_false fun h => e ?_
          subst h; rfl
        have HNO := Lib.hid hno
        have i1 : (0 : Int) ≤ (k : Int) := by omega
        have i2 : (k : Int) < (n : Int) := by omega
        clear hcell hcell' q1 q2 q3 r1 r2 r3 hstep hno
        generalize L[k] = u at *
        generalize M[k] = v at *
        obtain ⟨s, l⟩ := u
        obtain ⟨t, m⟩ := v
        dsimp only at a1 a2 a3 a4 cx cy
        obtain ⟨SX, hSX⟩ : ∃ SX : ByteArray, SX = ⟨l.toArray⟩ := ⟨_, rfl⟩
        obtain ⟨SY, hSY⟩ : ∃ SY : ByteArray, SY = ⟨m.toArray⟩ := ⟨_, rfl⟩
        simp only [← hSX] at cx
        simp only [← hSY] at cy
        generalize l.length = ll at *
        generalize m.length = ml at *
        have HSX := Lib.hid hSX
        have HSY := Lib.hid hSY
        clear hSX hSY
        by_cases hk : s = t
        · subst hk
          by_cases hv : SX = SY
          · subst hv
            have he : l = m := bytes_inj (HSX.out.symm.trans HSY.out)
            subst he
            have HT2 := Lib.hid (HST.out rfl)
            clear HST HNO HLk HMk
            go_wp2_with fail
            go_quiet (fail)
            go_wp2_with fail
            exact ⟨⟨k + 1, by omega, by go_num, below_drewN' hbW _, HT2⟩, by simp [intOf]; omega⟩
          · have HRf : Hid (R = false) := Lib.hid (HNO.out fun e => hv (by
              injection e with _ e
              rw [HSX.out, HSY.out, e]))
            have hv1 : (SX.toList == SY.toList) = false := beq_toList_ne hv
            have hv2 : (SX.toList != SY.toList) = true := by unfold bne; rw [hv1]; rfl
            clear HST HNO HLk HMk
            go_wp2_with fail
            go_quiet (fail)
            go_wp2_with fail
            go_ret
            exact ⟨by rw [HRf.out]; rfl, below_drewN' hbW _⟩
        · have HRf : Hid (R = false) := Lib.hid (HNO.out fun e => hk (by injection e))
          have hk1 : (s.toList == t.toList) = false := beq_toList_ne hk
          have hk2 : (s.toList != t.toList) = true := by unfold bne; rw [hk1]; rfl
          clear HST HNO HLk HMk
          go_wp2_with fail
          go_quiet (fail)
          go_wp2_with fail
          go_ret
          exact ⟨by rw [HRf.out]; rfl, below_drewN' hbW _⟩
      · have i2 : ¬ (k : Int) < (n : Int) := by omega
        obtain rfl : k = n := by omega
        have HRt : Hid (R = true) := Lib.hid (by
          have h1 := HT.out
          rw [List.take_of_length_le (by have := HN.out; omega), List.take_of_length_le (by have := HQ.out; omega)] at h1
          rw [HR.out, h1]; simp)
        go_wp2_with fail
        go_ret
        exact ⟨by rw [HRt.out]; rfl, hbW⟩
  · have hne : ((n : Int) != (q : Int)) = true := by simp; omega
    have HRf : Hid (decide (L = M) = false) := Lib.hid (decide_eq_false fun h => hl (by rw [HN.out, HQ.out, h]))
    rw [HRf.out]
    go_enter Tryz.func14, Tryz.ntmps14
    go_wp2_with fail
    go_ret
    exact ⟨rfl, Below.refl _ _⟩
end Go.Proofs.YtpcoonnfaoakhaaGreatDoor
namespace Go.Proofs.YtpcoonnfaoakhaaGreatDoor
set_option maxRecDepth 100000
open Go Go.RowKit
set_option linter.unusedVariables false

end Go.Proofs.YtpcoonnfaoakhaaGreatDoor
namespace Go.Proofs.YtpcoonnfaoakhaaGreatDoor
set_option maxRecDepth 100000
open Go Go.RowKit
set_option linter.unusedVariables false

end Go.Proofs.YtpcoonnfaoakhaaGreatDoor
namespace Go.Proofs.YtpcoonnfaoakhaaGreatDoor
set_option maxRecDepth 100000
open Go Go.RowKit
set_option linter.unusedVariables false

def sTransfer : ByteArray := ⟨#[116, 114, 97, 110, 115, 102, 101, 114]⟩
def sControl : ByteArray := ⟨#[99, 111, 110, 116, 114, 111, 108]⟩
def sHost : ByteArray := ⟨#[104, 111, 115, 116]⟩
def sIcs20 : ByteArray := ⟨#[105, 99, 115, 50, 48]⟩
def sChan : ByteArray := ⟨#[99, 104, 97, 110]⟩
def sConn : ByteArray := ⟨#[99, 111, 110, 110]⟩
def sClient : ByteArray := ⟨#[99, 108, 105, 101, 110, 116]⟩
def dashB : ByteArray := ⟨#[45]⟩
def decB (n : Nat) : ByteArray := ⟨(Lib.decDigits n).toArray⟩
/-- the number of the next identifier of a kind -/
def numN (R : List Pr) (kind : ByteArray) : Nat := (rN ((getL R (kNum kind)).getD []) 0).1
def newID (R : List Pr) (kind : ByteArray) : ByteArray := (kind ++ dashB) ++ decB (numN R kind)
def newR (R : List Pr) (kind : ByteArray) : List Pr := setL (kNum kind) (be ((numN R kind + 1) % 18446744073709551616) 8) R
/-- the error of a channel's ports, order and version -/
def formM (a b : ByteArray) (od : Bool) (ve : ByteArray) : Int :=
  if a = sTransfer ∧ b = sTransfer then (if od = true then 122 else if ve = sIcs20 then 0 else 123)
  else if a = sControl ∧ b = sHost then (if od = true then (if identB ve = true then 0 else 123) else 122) else 121
/-- the error of a connection that is wanted open -/
def openE (R : List Pr) (via : ByteArray) : Int := match getCn R via with
  | none => 110
  | some c => if c.st = 3 then 0 else 111
def madeCh (R : List Pr) (c : ChV) : List Pr :=
  setL (ackedP ++ newID R sChan) (be 1 8) (setL (recvP ++ newID R sChan) (be 1 8) (setL (nextP ++ newID R sChan) (be 1 8) (setL (kChn (newID R sChan)) (chB c) (newR R sChan))))
def beginE (R : List Pr) (via po cp : ByteArray) (od : Bool) (ve : ByteArray) : Int := if openE R via = 0 then formM po cp od ve else openE R via
def beginR (R : List Pr) (via po cp : ByteArray) (od : Bool) (ve : ByteArray) : List Pr := if beginE R via po cp od ve = 0 then madeCh R ⟨1, od, po, cp, via, ⟨#[]⟩, ve⟩ else R
def beginI (R : List Pr) (via po cp : ByteArray) (od : Bool) (ve : ByteArray) : ByteArray := if beginE R via po cp od ve = 0 then newID R sChan else ⟨#[]⟩
end Go.Proofs.YtpcoonnfaoakhaaGreatDoor
namespace Go.Proofs.YtpcoonnfaoakhaaGreatDoor
set_option maxRecDepth 100000
open Go Go.RowKit
set_option linter.unusedVariables false

def digB : ByteArray := ⟨#[48, 49, 50, 51, 52, 53, 54, 55, 56, 57, 97, 98, 99, 100, 101, 102, 103, 104, 105, 106, 107, 108, 109, 110, 111, 112, 113, 114, 115, 116, 117, 118, 119, 120, 121, 122]⟩
theorem digB_cut : ∀ n : Fin 10, (digB.extract n.val (n.val + 1)) = decB n.val := by decide +kernel
theorem small_dig (n : Nat) (hn : n < 10) (w : World) : Calls Tryz.prog 186 #[.int .i64 (n : Int)] w fun e w' => e = .returned (.string (decB n)) ∧ w = w' := by
  have hsl : ∀ W, (Instr.slice 9 (.string digB) (some (.int .i64 (n : Int))) (some (.int .i64 ((n : Int) + 1))) none).run Tryz.prog W = .ok (.string (decB n)) W := fun W => by
    rw [run_slice_string W 9 digB .i64 .i64 _ _ Tryz.underlying9 (by omega) (by omega) (by rw [show digB.size = 36 from rfl]; omega), show ((n : Int)).toNat = n by omega, show ((n : Int) + 1).toNat = n + 1 by omega]
    rw [digB_cut ⟨n, hn⟩]
  generalize decB n = S at *
  unfold digB at hsl
  go_enter Tryz.func186, Tryz.ntmps186
  go_wp2
  go_ret
  exact ⟨rfl, rfl⟩
theorem fmt_dig (n : Nat) (hn : n < 10) (w : World) : Calls Tryz.prog 75 #[.int .u64 (n : Int), .int .i64 10] w fun e w' => e = .returned (.string (decB n)) ∧ w = w' := by
  have HS := Lib.hid (fun W => small_dig n hn W)
  have hi : ∀ W, Calls Tryz.prog 142 #[.int .u64 (n : Int), .int .i64 10] W fun e w' => e = .returned (.string (decB n)) ∧ W = w' := fun W => by
    generalize decB n = S at *
    go_enter Tryz.func142, Tryz.ntmps142
    go_wp2_with fail
    refine (HS.out _).mono ?_
    rintro e w' ⟨rfl, rfl⟩
    go_wp2_with fail
    go_ret
    exact ⟨rfl, rfl⟩
  have HI := Lib.hid hi
  clear hi HS
  generalize decB n = S at *
  go_enter Tryz.func75, Tryz.ntmps75
  go_wp2_with fail
  refine (HI.out _).mono ?_
  rintro e w' ⟨rfl, rfl⟩
  go_wp2_with fail
  go_ret
  exact ⟨rfl, rfl⟩
end Go.Proofs.YtpcoonnfaoakhaaGreatDoor
namespace Go.Proofs.YtpcoonnfaoakhaaGreatDoor
set_option maxRecDepth 100000
open Go Go.RowKit
set_option linter.unusedVariables false

theorem dash_size : dashB.size = 1 := rfl
set_option maxHeartbeats 4000000 in
theorem newid_gen {W w : World} {y : Lyr} {l : List Lyr} {R : List Pr} {k : Nat} (h : At W y l R k w) (hn : y.n + k < maxLen) (kind : ByteArray) (hk : kind.size ≤ 100000000) (hd : (decB (numN R kind)).size ≤ 1000)
    (hf : ∀ Z, Kept w Z → Calls Tryz.prog 75 #[.int .u64 (numN R kind : Int), .int .i64 10] Z fun e w' => e = .returned (.string (decB (numN R kind))) ∧ Below Z.heap.size Z w') :
    Calls Tryz.prog 23 #[.pointer (some ⟨y.b, 0, none⟩), .string kind] w fun e w' => e = .returned (.string (newID R kind)) ∧ At W y l (newR R kind) (k + 1) w' ∧ Kept w w' := by
  have s1 : numP.size = 6 := rfl
  have z1 := kNum_size kind
  have hc1 := fun Z => txt_add numP kind (by rw [s1]; omega) Z
  have HG := Lib.hid (h.get (kNum kind) (by rw [z1]; unfold maxLen; omega))
  have HL : ((getL R (kNum kind)).getD []).length ≤ 65535 := by
    cases e : getL R (kNum kind) with
    | none => simp
    | some v => exact (h.fits e).2
  have hnn : numN R kind < 18446744073709551616 := rN_ltP _ _
  have hc2 := fun Z => txt_add kind dashB (by rw [dash_size]; omega) Z
  have hc3 := fun Z => txt_add (kind ++ dashB) (decB (numN R kind)) (by rw [ByteArray.size_append, dash_size]; omega) Z
  have HS : Hid (∀ (Z : World) (hz : Below w.heap.size w Z) (v : Value) (hr : Rd Z Z.heap.size v (be ((numN R kind + 1) % 18446744073709551616) 8)), Calls Tryz.prog 43 #[.pointer (some ⟨y.b, 0, none⟩), .string (kNum kind), v] Z fun e w' => (∃ c, e = .returned (.int .i64 c)) ∧ At W y l (setL (kNum kind) (be ((numN R kind + 1) % 18446744073709551616) 8) R) (k + 1) w' ∧ Kept Z w') :=
    Lib.hid fun Z hz v hr => ((h.up hz).set hn (kNum kind) (by rw [z1]; unfold maxLen; omega) v _ hr).mono fun e w' ⟨h1, h2, h3⟩ => ⟨⟨_, h1⟩, h2, h3⟩
  have HF := Lib.hid hf
  have hwrap : IntKind.u64.wrap ((numN R kind : Int) + 1) = (((numN R kind + 1) % 18446744073709551616 : Nat) : Int) := by
    unfold IntKind.wrap
    simp [IntKind.bits, IntKind.signed]
  have HN : Hid (∀ Z, Calls Tryz.prog 72 #[.slice none 0 0, .int .u64 (((numN R kind + 1) % 18446744073709551616 : Nat) : Int)] Z fun e w' => ∃ v', e = .returned v' ∧ Own w' Z.heap.size v' (be ((numN R kind + 1) % 18446744073709551616) 8) ∧ Below Z.heap.size Z w') := Lib.hid fun Z => by
    have := N_any (.slice none 0 0) [] ((numN R kind + 1) % 18446744073709551616) Z (Rd.nil _ _) (Nat.mod_lt _ (by decide)) (by simp)
    rwa [List.nil_append] at this
  have hfin : newR R kind = setL (kNum kind) (be ((numN R kind + 1) % 18446744073709551616) 8) R := rfl
  have hidf : newID R kind = (kind ++ dashB) ++ decB (numN R kind) := rfl
  rw [hfin, hidf]
  have hnum : numN R kind = (rN ((getL R (kNum kind)).getD []) 0).1 := rfl
  generalize setL (kNum kind) (be ((numN R kind + 1) % 18446744073709551616) 8) R = R2 at *
  generalize (kind ++ dashB) ++ decB (numN R kind) = IDv at *
  generalize decB (numN R kind) = DV at *
  generalize kind ++ dashB = kd at *
  generalize (numN R kind + 1) % 18446744073709551616 = m at *
  have hpos : kNum kind = numP ++ kind := rfl
  rw [← hpos] at hc1
  generalize kNum kind = key at *
  unfold numP at hc1
  unfold dashB at hc2
  generalize (getL R key).getD [] = L0 at *
  generalize (getL R key).isSome = B0 at *
  generalize numN R kind = n at *
  have HNUM := Lib.hid hnum
  clear hnum hfin hidf hpos hd hnn h hf z1
  go_enter Tryz.func23, Tryz.ntmps23
  go_wp2_with fail
  refine HG.out.mono ?_
  rintro e w1 ⟨v, rfl, hov, hb1⟩
  have HO := Lib.hid (open_rd v L0 w1 hov.rd (by omega))
  obtain ⟨A, c, rfl⟩ := hov.form
  generalize L0.length = n0 at *
  clear hov HG
  go_wp2_with fail
  refine HO.out.mono ?_
  rintro e w2 ⟨g, rfl, hr2, hb2⟩
  have hq2 := below_chain hb1 hb1.size hb2
  have hg := hr2.from_
  have HR := Lib.hid (rN_any hr2)
  rw [← HNUM.out] at HR
  clear HO hr2 hb2
  go_wp2_with fail
  refine HR.out.mono ?_
  rintro e w3 ⟨rfl, -, hg3⟩
  have hq3 := hq2.grown hg3 hq2.size (fun k hk => by injection hk with hk; have := hb1.size; omega)
  clear HR hg3 hg hb1 hq2
  go_wp2_with fail
  refine (HN.out _).mono ?_
  rintro e w4 ⟨v4, rfl, ho4, hb4⟩
  have hq4 := below_chain hq3 hq3.size hb4
  have HS4 := Lib.hid (HS.out _ hq4 v4 ho4.rd)
  obtain ⟨A4, c4, rfl⟩ := ho4.form
  generalize (be m 8).length = n4 at *
  clear ho4 HS HN hb4 hq3
  go_wp2_with fail
  refine HS4.out.mono ?_
  rintro e w5 ⟨⟨c5, rfl⟩, hA5, hk5⟩
  have hkk := (Kept.of_belowX hq4).transX hk5
  have HF5 := Lib.hid (HF.out _ hkk)
  clear HS4 HF
  go_wp2_with fail
  refine HF5.out.mono ?_
  rintro e w6 ⟨rfl, hb6⟩
  go_wp2_with fail
  go_ret
  exact ⟨rfl, hA5.up hb6, hkk.transX (Kept.of_belowX hb6)⟩
theorem decB_size (n : Nat) (hn : n < 10) : (decB n).size = 1 := by
  have : ∀ n : Fin 10, (decB n.val).size = 1 := by decide +kernel
  exact this ⟨n, hn⟩
theorem newid_any {W w : World} {y : Lyr} {l : List Lyr} {R : List Pr} {k : Nat} (h : At W y l R k w) (hn : y.n + k < maxLen) (kind : ByteArray) (hk : kind.size ≤ 100000000) (hs : numN R kind < 10) :
    Calls Tryz.prog 23 #[.pointer (some ⟨y.b, 0, none⟩), .string kind] w fun e w' => e = .returned (.string (newID R kind)) ∧ At W y l (newR R kind) (k + 1) w' ∧ Kept w w' :=
  newid_gen h hn kind hk (by rw [decB_size _ hs]; decide) fun Z _ => (fmt_dig _ hs Z).mono fun e w' ⟨h1, h2⟩ => ⟨h1, by rw [← h2]; exact Below.refl _ _⟩

end Go.Proofs.YtpcoonnfaoakhaaGreatDoor
namespace Go.Proofs.YtpcoonnfaoakhaaGreatDoor
set_option maxRecDepth 100000
open Go Go.RowKit
set_option linter.unusedVariables false

def CnV.cells (v : CnV) : Array Value := #[.int .u64 (v.st : Int), .string v.cl, .string v.cc, .string v.ct]
/-- a connection that is wanted open -/
def openV (R : List Pr) (via : ByteArray) : CnV := if openE R via = 0 then (getCn R via).getD CnV.none else CnV.none
end Go.Proofs.YtpcoonnfaoakhaaGreatDoor
namespace Go.Proofs.YtpcoonnfaoakhaaGreatDoor
set_option maxRecDepth 100000
open Go Go.RowKit
set_option linter.unusedVariables false

/-- the numbers that a channel begins with -/
def oneR (ks : List ByteArray) (R : List Pr) : List Pr := ks.foldl (fun R s => setL s (be 1 8) R) R
theorem numN_small (R : List Pr) (kind : ByteArray) (h : numN R kind < 10) : (newID R kind).size = kind.size + 2 := by
  unfold newID
  rw [ByteArray.size_append, ByteArray.size_append, dash_size, decB_size _ h]
end Go.Proofs.YtpcoonnfaoakhaaGreatDoor
namespace Go.Proofs.YtpcoonnfaoakhaaGreatDoor
set_option maxRecDepth 100000
open Go Go.RowKit
set_option linter.unusedVariables false

def inStE (R : List Pr) (id : ByteArray) (st : Nat) : Int := match getCh R id with
  | none => 120
  | some c => if c.st = st then 0 else 111
def inStV (R : List Pr) (id : ByteArray) (st : Nat) : ChV := if inStE R id st = 0 then (getCh R id).getD ChV.none else ChV.none
end Go.Proofs.YtpcoonnfaoakhaaGreatDoor
namespace Go.Proofs.YtpcoonnfaoakhaaGreatDoor
set_option maxRecDepth 100000
open Go Go.RowKit
set_option linter.unusedVariables false

def sClient0 : ByteArray := ⟨#[99, 108, 105, 101, 110, 116, 45, 48]⟩
def sClient1 : ByteArray := ⟨#[99, 108, 105, 101, 110, 116, 45, 49]⟩
def sConn5 : ByteArray := ⟨#[99, 111, 110, 110, 45, 53]⟩
def sConn0 : ByteArray := ⟨#[99, 111, 110, 110, 45, 48]⟩
def sChan0 : ByteArray := ⟨#[99, 104, 97, 110, 45, 48]⟩
def fixCn : CnV := ⟨3, sClient0, sClient1, sConn5⟩
def fixCnR : List Pr := [(kConn sConn0, cnB fixCn)]
def fixChR : List Pr := beginR fixCnR sConn0 sTransfer sTransfer false sIcs20
end Go.Proofs.YtpcoonnfaoakhaaGreatDoor
namespace Go.Proofs.YtpcoonnfaoakhaaGreatDoor
set_option maxRecDepth 100000
open Go Go.RowKit
set_option linter.unusedVariables false

def icaP : ByteArray := ⟨#[105, 99, 97, 46]⟩
def dotB : ByteArray := ⟨#[46]⟩
def actP : ByteArray := ⟨#[105, 99, 97, 47, 97, 99, 116, 105, 118, 101, 47]⟩
/-- an owner's account; where the channel is kept that an owner asked for last -/
def kIca (a b : ByteArray) : ByteArray := ((icaP ++ a) ++ dotB) ++ b
def kAct (a b : ByteArray) : ByteArray := ((actP ++ a) ++ slB) ++ b
/-- is there a channel of that owner's already, that isn't closed? -/
def busyB (R : List Pr) (via owner : ByteArray) : Bool := match getL R (kAct via owner) with
  | none => false
  | some l => match getCh R ⟨l.toArray⟩ with
    | none => false
    | some c => !decide (c.st = 4)
def regE (R : List Pr) (owner via : ByteArray) : Int := if identB owner = true then (if identB via = true then (if busyB R via owner = true then 111 else beginE R via sControl sHost true owner) else 160) else 160
def regI (R : List Pr) (owner via : ByteArray) : ByteArray := if regE R owner via = 0 then newID R sChan else ⟨#[]⟩
def regR (R : List Pr) (owner via : ByteArray) : List Pr := if regE R owner via = 0 then setL (kAct via owner) (strBytes (newID R sChan)) (beginR R via sControl sHost true owner) else R
end Go.Proofs.YtpcoonnfaoakhaaGreatDoor
namespace Go.Proofs.YtpcoonnfaoakhaaGreatDoor
set_option maxRecDepth 100000
open Go Go.RowKit
set_option linter.unusedVariables false

def sAnn : ByteArray := ⟨#[97, 110, 110]⟩
def sBob : ByteArray := ⟨#[98, 111, 98]⟩
def fixIcaR : List Pr := regR fixCnR sAnn sConn0
end Go.Proofs.YtpcoonnfaoakhaaGreatDoor
namespace Go.Proofs.YtpcoonnfaoakhaaGreatDoor
set_option maxRecDepth 100000
open Go Go.RowKit
set_option linter.unusedVariables false

theorem addU_ok' (x y : U4) : (addU x y).1.ok := by
  unfold addU
  split
  · exact ofN_ok _
  · exact zero_ok
end Go.Proofs.YtpcoonnfaoakhaaGreatDoor
namespace Go.Proofs.YtpcoonnfaoakhaaGreatDoor
set_option maxRecDepth 100000
open Go Go.RowKit
set_option linter.unusedVariables false

theorem subU_ok' (x y : U4) : (subU x y).1.ok := by
  unfold subU
  split
  · exact ofN_ok _
  · exact zero_ok
end Go.Proofs.YtpcoonnfaoakhaaGreatDoor
namespace Go.Proofs.YtpcoonnfaoakhaaGreatDoor
set_option maxRecDepth 100000
open Go Go.RowKit
set_option linter.unusedVariables false

set_option maxHeartbeats 8000000 in
theorem send_any {w : World} {y : Lyr} {l : List Lyr} {R : List Pr} (h : PileS w (y :: l)) (hs : SeenL ⟨#[]⟩ (y :: l) R) (hn : y.n + 2 ≤ maxLen) (a b d : ByteArray) (x : U4) (hx : x.ok) (ha : a.size ≤ 100000000) (hb : b.size ≤ 100000000) (hd : d.size ≤ 100000000) :
    Calls Tryz.prog 52 #[.pointer (some ⟨y.b, 0, none⟩), .string a, .string b, .string d, x.val] w fun e w' => e = .returned (.int .i64 (sendM R a b d x).1) ∧ BankS w y l (sendM R a b d x).2 2 w' := by
  have HR := Lib.hid (fun W => right_any a d x W (by unfold maxLen; omega) (by unfold maxLen; omega))
  have HG : Hid (∀ W, Below w.heap.size w W → BankS w y l R 0 W) := Lib.hid fun W hb => (BankS.refl h hs).up hb (Nat.le_refl 0)
  have HW := Lib.hid (boxU w x)
  have HN := Lib.hid (show y.n + 0 < maxLen ∧ y.n + (0 + 1) < maxLen by omega)
  have HI : Hid (∀ W, Calls Tryz.prog 59 #[.string b] W fun e w' => e = .returned (.bool (identB b)) ∧ W = w') := Lib.hid (fun W => ident_any b W (by unfold maxLen; omega))
  by_cases e0 : rightM a d x = 0
  · obtain ⟨hia, hdd, -⟩ := rightM_zero e0
    have HQ : Hid ((identB b = false → sendM R a b d x = (40, R)) ∧ (identB b = true → (subU (balM R a d) x).2 = false → sendM R a b d x = (71, R)) ∧ (identB b = true → (subU (balM R a d) x).2 = true → a = b → sendM R a b d x = (0, R)) ∧
        (identB b = true → (subU (balM R a d) x).2 = true → a ≠ b → (addU (balM R b d) x).2 = false → sendM R a b d x = (10, R)) ∧
        (identB b = true → (subU (balM R a d) x).2 = true → a ≠ b → (addU (balM R b d) x).2 = true → sendM R a b d x = (0, keepL (kBal b d) (addU (balM R b d) x).1 (keepL (kBal a d) (subU (balM R a d) x).1 R)))) := Lib.hid (by
      unfold sendM
      rw [if_pos e0]
      refine ⟨fun h1 => by simp [h1], fun h1 h2 => by simp [h1, h2], fun h1 h2 h3 => by subst h3; simp [h1, h2], fun h1 h2 h3 h4 => by simp [h1, h2, h3, h4], fun h1 h2 h3 h4 => by simp [h1, h2, h3, h4]⟩)
    rw [e0] at HR
    have HLa : Hid (∀ W, Below w.heap.size w W → Calls Tryz.prog 13 #[.pointer (some ⟨y.b, 0, none⟩), .string a, .string d] W fun e w' => e = .returned (balM R a d).val ∧ Below W.heap.size W w') := Lib.hid fun W hb => by
      rw [← balV_seen hs a d]; exact bal_any (h.up hb) a d ha hd
    have HLb : Hid (∀ W, Below w.heap.size w W → Calls Tryz.prog 13 #[.pointer (some ⟨y.b, 0, none⟩), .string b, .string d] W fun e w' => e = .returned (balM R b d).val ∧ Below W.heap.size W w') := Lib.hid fun W hw => by
      rw [← balV_seen hs b d]; exact bal_any (h.up hw) b d hb hd
    have HK1 := Lib.hid (fun W => (balKey_any a d W ha hd).mono fun e w' ⟨h1, h2⟩ => (⟨h1, h2.symm⟩ : _ ∧ w' = W))
    have HK2 := Lib.hid (fun W => (balKey_any b d W hb hd).mono fun e w' ⟨h1, h2⟩ => (⟨h1, h2.symm⟩ : _ ∧ w' = W))
    have HA := Lib.hid (fun W => sub_any (balM R a d) x W (balM_ok R a d) hx)
    have HB := Lib.hid (fun W => add_any (balM R b d) x W (balM_ok R b d) hx)
    have HPo := Lib.hid (subU_ok' (balM R a d) x)
    have HQo := Lib.hid (addU_ok' (balM R b d) x)
    have HF1 := Lib.hid (kBal_fits hia hdd)
    have HF2 : Hid (identB b = true → keyB (kBal b d) = true) := Lib.hid fun hib => kBal_fits hib hdd
    clear h hs hn hx e0 hia hdd ha hb hd
    generalize balM R a d = S at *
    generalize balM R b d = B at *
    generalize subU S x = P at *
    generalize addU B x = Q at *
    obtain ⟨P, p2⟩ := P
    obtain ⟨Q, q2⟩ := Q
    generalize sendM R a b d x = q at *
    generalize identB b = ib at *
    dsimp only at HA HB HPo HQo HQ
    unfold U4.val U4.cells at *
    go_enter Tryz.func52, Tryz.ntmps52
    go_wp2_with fail
    generalize w.alloc (.cells #[.int .u64 (x.a : Int), .int .u64 (x.b : Int), .int .u64 (x.c : Int), .int .u64 (x.d : Int)] 25) = W0 at *
    generalize w.heap.size = g0 at *
    refine (HR.out _).mono ?_
    rintro e w1 ⟨rfl, hq1⟩
    go_wp2_with fail
    refine (HI.out _).mono ?_
    rintro e w2 ⟨rfl, rfl⟩
    cases ib
    · have gg := HG.out _ (HW.out _ hq1).1
      go_wp2_with fail
      go_ret
      rw [HQ.out.1 (by trivial)]
      exact ⟨rfl, gg.up (Below.refl _ _) (by omega)⟩
    · have HF3 := Lib.hid (HF2.out rfl)
      clear HF2
      go_wp2_with fail
      have hd1 := hq1.drew
      have he1 := (hq1.alloc hq1.size (.cells #[.int .u64 0, .int .u64 0, .int .u64 0, .int .u64 0] 25)).drew
      have HZ1 : Hid (LBlk (w1.alloc (.cells #[.int .u64 0, .int .u64 0, .int .u64 0, .int .u64 0] 25)).drew w1.heap.size U4.zero.cells) := Lib.hid (LBlk.new w1 U4.zero.cells).drew
      go_region_held_law (fun W => W.cell? ⟨g0, 0, none⟩ = some (.int .u64 (x.a : Int)) ∧ W.cell? ⟨g0, 1, none⟩ = some (.int .u64 (x.b : Int)) ∧ W.cell? ⟨g0, 2, none⟩ = some (.int .u64 (x.c : Int)) ∧ W.cell? ⟨g0, 3, none⟩ = some (.int .u64 (x.d : Int)))
        (with_reducible first | exact (HW.out _ (Below.set4U (hb1.alloc hb1.size _) hb1.size _ _ _ _)).2 | exact (HW.out _ (Below.set4U hb1 (by first | exact ha1.size | exact hq1.size) _ _ _ _)).2 | exact (HW.out _ (hb1.alloc hb1.size _)).2 | exact (HW.out _ hb1).2 | exact (HW.out _ (ha1.alloc ha1.size _)).2 | exact (HW.out _ ha1).2 | exact (HW.out _ he1).2 | exact (HW.out _ hd1).2)
        (first
          | (go_at_call 13; first
              | (refine (HLa.out _ (HW.out _ hd1).1).mono ?_; rintro e wa1 ⟨rfl, hba1⟩
                 have ha1 := below_chain hd1 hd1.size hba1)
              | (refine (HLa.out _ (HW.out _ he1).1).mono ?_; rintro e wa1 ⟨rfl, hba1⟩
                 have ha1 := below_chain he1 he1.size hba1
                 have hfr1 := LBlk.below (cs := U4.zero.cells) HZ1.out hba1 (blk_lt HZ1.out)
                 obtain ⟨z0, z1, z2, z3⟩ := LBlk.all (s := U4.zero) hfr1
                 have f0 := hfr1.free 0
                 have f1 := hfr1.free 1
                 have f2 := hfr1.free 2
                 have f3 := hfr1.free 3))
          | (go_at_call 120; have hq' := ha1; refine (HA.out _).mono ?_; rintro e wb1 ⟨rfl, hbb1⟩; first
              | (have hx := hfr1; have hb1 := below_chain ha1 ha1.size hbb1
                 have hfs1 := LBlk.below (cs := U4.zero.cells) hx hbb1 (blk_lt hx)
                 obtain ⟨z0, z1, z2, z3⟩ := LBlk.all (s := U4.zero) hfs1
                 have f0 := hfs1.free 0
                 have f1 := hfs1.free 1
                 have f2 := hfs1.free 2
                 have f3 := hfs1.free 3)
              | (have hb1 := below_chain ha1 ha1.size hbb1)
              | (have hya := ha1.alloc ha1.size (.cells #[.int .u64 0, .int .u64 0, .int .u64 0, .int .u64 0] 25)
                 have hb1 := below_chain hya hya.size hbb1
                 have hfs1 := LBlk.below (cs := U4.zero.cells) (LBlk.new _ _) hbb1 (by simp)
                 obtain ⟨z0, z1, z2, z3⟩ := LBlk.all (s := U4.zero) hfs1
                 have f0 := hfs1.free 0
                 have f1 := hfs1.free 1
                 have f2 := hfs1.free 2
                 have f3 := hfs1.free 3)))
      all_goals
        first
          | (have hx := hfr1
             have hW1 := Below.set4U (g := w1.heap.size) hb1 (Nat.le_trans (Nat.le_refl _) hq1.size) (.int .u64 (P.a : Int)) (.int .u64 (P.b : Int)) (.int .u64 (P.c : Int)) (.int .u64 (P.d : Int))
             have hU1 := LBlk.set4 (s := U4.zero) hfs1 P
             generalize ((((wb1.setCell ⟨w1.heap.size, 0, none⟩ (.int .u64 (P.a : Int))).setCell ⟨w1.heap.size, 1, none⟩ (.int .u64 (P.b : Int))).setCell ⟨w1.heap.size, 2, none⟩ (.int .u64 (P.c : Int))).setCell ⟨w1.heap.size, 3, none⟩ (.int .u64 (P.d : Int))) = W1 at *
             generalize w1.heap.size = g1 at *)
          | (have hx := hfs1
             have hW1 := Below.set4U (g := wa1.heap.size) hb1 ha1.size (.int .u64 (P.a : Int)) (.int .u64 (P.b : Int)) (.int .u64 (P.c : Int)) (.int .u64 (P.d : Int))
             have hU1 := LBlk.set4 (s := U4.zero) hfs1 P
             generalize ((((wb1.setCell ⟨wa1.heap.size, 0, none⟩ (.int .u64 (P.a : Int))).setCell ⟨wa1.heap.size, 1, none⟩ (.int .u64 (P.b : Int))).setCell ⟨wa1.heap.size, 2, none⟩ (.int .u64 (P.c : Int))).setCell ⟨wa1.heap.size, 3, none⟩ (.int .u64 (P.d : Int))) = W1 at *
             generalize wa1.heap.size = g1 at *)
          | (have hW1 := hb1.alloc hb1.size (.cells #[.int .u64 (P.a : Int), .int .u64 (P.b : Int), .int .u64 (P.c : Int), .int .u64 (P.d : Int)] 25)
             have hU1 : LBlk (wb1.alloc (.cells #[.int .u64 (P.a : Int), .int .u64 (P.b : Int), .int .u64 (P.c : Int), .int .u64 (P.d : Int)] 25)) wb1.heap.size P.cells := LBlk.new wb1 P.cells
             generalize wb1.alloc (.cells #[.int .u64 (P.a : Int), .int .u64 (P.b : Int), .int .u64 (P.c : Int), .int .u64 (P.d : Int)] 25) = W1 at *
             generalize wb1.heap.size = g1 at *)
        have HX1 : Hid (∀ W, Below W1.heap.size W1 W → Below g0 w W ∧ W.cell? ⟨g0, 0, none⟩ = some (.int .u64 (x.a : Int)) ∧ W.cell? ⟨g0, 1, none⟩ = some (.int .u64 (x.b : Int)) ∧ W.cell? ⟨g0, 2, none⟩ = some (.int .u64 (x.c : Int)) ∧ W.cell? ⟨g0, 3, none⟩ = some (.int .u64 (x.d : Int)) ∧ W.cell? ⟨g1, 0, none⟩ = some (.int .u64 (P.a : Int)) ∧ W.cell? ⟨g1, 1, none⟩ = some (.int .u64 (P.b : Int)) ∧ W.cell? ⟨g1, 2, none⟩ = some (.int .u64 (P.c : Int)) ∧ W.cell? ⟨g1, 3, none⟩ = some (.int .u64 (P.d : Int))) := Lib.hid fun W hb => by
          obtain ⟨q1, q2, q3, q4, q5⟩ := HW.out _ (below_chain hW1 hW1.size hb)
          obtain ⟨r1, r2, r3, r4⟩ := LBlk.all (s := P) (LBlk.below hU1 hb (blk_lt hU1))
          exact ⟨q1, q2, q3, q4, q5, r1, r2, r3, r4⟩
        have hq2 := Below.refl W1.heap.size W1
        clear hU1 hW1
        cases p2
        · have gg := HG.out _ (HX1.out _ hq2).1
          go_wp2_with fail
          go_ret
          rw [HQ.out.2.1 (by trivial) (by trivial)]
          exact ⟨rfl, gg.up (Below.refl _ _) (by omega)⟩
        · by_cases eab : a = b
          · have HE := Lib.hid eab
            have gg := HG.out _ (HX1.out _ hq2).1
            subst eab
            go_wp2_with fail
            go_ret
            rw [HQ.out.2.2.1 (by trivial) (by trivial) HE.out]
            exact ⟨rfl, gg.up (Below.refl _ _) (by omega)⟩
          · have HE := Lib.hid eab
            have hbe : (a.toList == b.toList) = false := beq_toList_ne eab
            go_wp2_with fail
            have hd2 := hq2.drew
            have he2 := (hq2.alloc hq2.size (.cells #[.int .u64 0, .int .u64 0, .int .u64 0, .int .u64 0] 25)).drew
            have HZ2 : Hid (LBlk (W1.alloc (.cells #[.int .u64 0, .int .u64 0, .int .u64 0, .int .u64 0] 25)).drew W1.heap.size U4.zero.cells) := Lib.hid (LBlk.new W1 U4.zero.cells).drew
            go_region_held_law (fun W => W.cell? ⟨g0, 0, none⟩ = some (.int .u64 (x.a : Int)) ∧ W.cell? ⟨g0, 1, none⟩ = some (.int .u64 (x.b : Int)) ∧ W.cell? ⟨g0, 2, none⟩ = some (.int .u64 (x.c : Int)) ∧ W.cell? ⟨g0, 3, none⟩ = some (.int .u64 (x.d : Int)) ∧ W.cell? ⟨g1, 0, none⟩ = some (.int .u64 (P.a : Int)) ∧ W.cell? ⟨g1, 1, none⟩ = some (.int .u64 (P.b : Int)) ∧ W.cell? ⟨g1, 2, none⟩ = some (.int .u64 (P.c : Int)) ∧ W.cell? ⟨g1, 3, none⟩ = some (.int .u64 (P.d : Int)))
              (with_reducible first | exact (HX1.out _ (Below.set4U (hb2.alloc hb2.size _) hb2.size _ _ _ _)).2 | exact (HX1.out _ (Below.set4U hb2 (by first | exact ha2.size | exact hq2.size) _ _ _ _)).2 | exact (HX1.out _ (hb2.alloc hb2.size _)).2 | exact (HX1.out _ hb2).2 | exact (HX1.out _ (ha2.alloc ha2.size _)).2 | exact (HX1.out _ ha2).2 | exact (HX1.out _ he2).2 | exact (HX1.out _ hd2).2)
              (first
                | (go_at_call 13; first
                    | (refine (HLb.out _ (HX1.out _ hd2).1).mono ?_; rintro e wa2 ⟨rfl, hba2⟩
                       have ha2 := below_chain hd2 hd2.size hba2)
                    | (refine (HLb.out _ (HX1.out _ he2).1).mono ?_; rintro e wa2 ⟨rfl, hba2⟩
                       have ha2 := below_chain he2 he2.size hba2
                       have hfr2 := LBlk.below (cs := U4.zero.cells) HZ2.out hba2 (blk_lt HZ2.out)
                       obtain ⟨z0, z1, z2, z3⟩ := LBlk.all (s := U4.zero) hfr2
                       have f0 := hfr2.free 0
                       have f1 := hfr2.free 1
                       have f2 := hfr2.free 2
                       have f3 := hfr2.free 3))
                | (go_at_call 121; have hq' := ha2; refine (HB.out _).mono ?_; rintro e wb2 ⟨rfl, hbb2⟩; first
                    | (have hx := hfr2; have hb2 := below_chain ha2 ha2.size hbb2
                       have hfs2 := LBlk.below (cs := U4.zero.cells) hx hbb2 (blk_lt hx)
                       obtain ⟨z0, z1, z2, z3⟩ := LBlk.all (s := U4.zero) hfs2
                       have f0 := hfs2.free 0
                       have f1 := hfs2.free 1
                       have f2 := hfs2.free 2
                       have f3 := hfs2.free 3)
                    | (have hb2 := below_chain ha2 ha2.size hbb2)
                    | (have hya := ha2.alloc ha2.size (.cells #[.int .u64 0, .int .u64 0, .int .u64 0, .int .u64 0] 25)
                       have hb2 := below_chain hya hya.size hbb2
                       have hfs2 := LBlk.below (cs := U4.zero.cells) (LBlk.new _ _) hbb2 (by simp)
                       obtain ⟨z0, z1, z2, z3⟩ := LBlk.all (s := U4.zero) hfs2
                       have f0 := hfs2.free 0
                       have f1 := hfs2.free 1
                       have f2 := hfs2.free 2
                       have f3 := hfs2.free 3)))
            all_goals
              first
                | (have hx := hfr2
                   have hW2 := Below.set4U (g := W1.heap.size) hb2 (Nat.le_trans (Nat.le_refl _) hq2.size) (.int .u64 (Q.a : Int)) (.int .u64 (Q.b : Int)) (.int .u64 (Q.c : Int)) (.int .u64 (Q.d : Int))
                   have hU2 := LBlk.set4 (s := U4.zero) hfs2 Q
                   generalize ((((wb2.setCell ⟨W1.heap.size, 0, none⟩ (.int .u64 (Q.a : Int))).setCell ⟨W1.heap.size, 1, none⟩ (.int .u64 (Q.b : Int))).setCell ⟨W1.heap.size, 2, none⟩ (.int .u64 (Q.c : Int))).setCell ⟨W1.heap.size, 3, none⟩ (.int .u64 (Q.d : Int))) = W2 at *
                   generalize W1.heap.size = g2 at *)
                | (have hx := hfs2
                   have hW2 := Below.set4U (g := wa2.heap.size) hb2 ha2.size (.int .u64 (Q.a : Int)) (.int .u64 (Q.b : Int)) (.int .u64 (Q.c : Int)) (.int .u64 (Q.d : Int))
                   have hU2 := LBlk.set4 (s := U4.zero) hfs2 Q
                   generalize ((((wb2.setCell ⟨wa2.heap.size, 0, none⟩ (.int .u64 (Q.a : Int))).setCell ⟨wa2.heap.size, 1, none⟩ (.int .u64 (Q.b : Int))).setCell ⟨wa2.heap.size, 2, none⟩ (.int .u64 (Q.c : Int))).setCell ⟨wa2.heap.size, 3, none⟩ (.int .u64 (Q.d : Int))) = W2 at *
                   generalize wa2.heap.size = g2 at *)
                | (have hW2 := hb2.alloc hb2.size (.cells #[.int .u64 (Q.a : Int), .int .u64 (Q.b : Int), .int .u64 (Q.c : Int), .int .u64 (Q.d : Int)] 25)
                   have hU2 : LBlk (wb2.alloc (.cells #[.int .u64 (Q.a : Int), .int .u64 (Q.b : Int), .int .u64 (Q.c : Int), .int .u64 (Q.d : Int)] 25)) wb2.heap.size Q.cells := LBlk.new wb2 Q.cells
                   generalize wb2.alloc (.cells #[.int .u64 (Q.a : Int), .int .u64 (Q.b : Int), .int .u64 (Q.c : Int), .int .u64 (Q.d : Int)] 25) = W2 at *
                   generalize wb2.heap.size = g2 at *)
              obtain ⟨q1, -, -, -, -, r0, r1, r2, r3⟩ := HX1.out _ hW2
              obtain ⟨s0, s1, s2, s3⟩ := LBlk.all (s := Q) hU2
              have gg := HG.out _ q1
              clear q1 hW2 hU2 HX1
              cases q2
              · go_wp2_with fail
                go_ret
                rw [HQ.out.2.2.2.1 (by trivial) (by trivial) HE.out (by trivial)]
                exact ⟨rfl, gg.up (Below.refl _ _) (by omega)⟩
              · go_wp2_with fail
                refine wp_region_still_tail 5 (by kernel_rfl) (by kernel_rfl) ?_
                simp only [List.take_succ_cons, List.take_zero, List.drop_succ_cons, List.drop_zero]
                still_step
                still_step
                still_step
                still_call (HK1.out _)
                still_step
                refine wpStill_nil ?_
                change wpList _ _ _ _ _ W2.drew
                go_wp2_with fail
                have ggd := gg.up (Below.drew (Below.refl _ _)) (Nat.le_refl 0)
                refine (ggd.keep_any HN.out.1 HF1.out HPo.out).mono ?_
                rintro e w7 ⟨rfl, g1, hkp⟩
                replace s0 := hkp.cell s0
                replace s1 := hkp.cell s1
                replace s2 := hkp.cell s2
                replace s3 := hkp.cell s3
                clear r0 r1 r2 r3 hkp
                go_wp2_with fail
                refine wp_region_still_tail 5 (by kernel_rfl) (by kernel_rfl) ?_
                simp only [List.take_succ_cons, List.take_zero, List.drop_succ_cons, List.drop_zero]
                still_step
                still_step
                still_step
                still_call (HK2.out _)
                still_step
                refine wpStill_nil ?_
                change wpList _ _ _ _ _ w7.drew
                go_wp2_with fail
                have g1d := g1.up (Below.drew (Below.refl _ _)) (Nat.le_refl _)
                refine (g1d.keep_any HN.out.2 HF3.out HQo.out).mono ?_
                rintro e w9 ⟨rfl, g2, -⟩
                go_wp2_with fail
                go_ret
                rw [HQ.out.2.2.2.2 (by trivial) (by trivial) HE.out (by trivial)]
                exact ⟨rfl, g2⟩
  · have HQ : Hid (sendM R a b d x = (rightM a d x, R)) := Lib.hid (by unfold sendM; rw [if_neg e0])
    have HE := Lib.hid e0
    clear h hs hn hx e0
    generalize sendM R a b d x = q at *
    generalize rightM a d x = r at *
    unfold U4.val U4.cells at *
    go_enter Tryz.func52, Tryz.ntmps52
    go_wp2_with fail
    refine (HR.out _).mono ?_
    rintro e w1 ⟨rfl, hq1⟩
    have g0 := HG.out _ (HW.out _ hq1).1
    have hne2 := HE.out
    go_wp2_with fail
    go_ret
    rw [HQ.out]
    exact ⟨rfl, g0.up (Below.refl _ _) (by omega)⟩
end Go.Proofs.YtpcoonnfaoakhaaGreatDoor
