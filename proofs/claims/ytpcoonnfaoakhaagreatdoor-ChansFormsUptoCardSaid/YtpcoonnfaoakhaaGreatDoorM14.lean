/- Texts joined: CliM, Sto1. -/
import Derived.Test.YtpcoonnfaoakhaaGreatDoorM12
import Derived.Test.YtpcoonnfaoakhaaGreatDoorM13
import Derived.Test.YtpcoonnfaoakhaaGreatDoorM10
import Derived.Deep.RegionHeldLaw
import Derived.Lib.Strings
import Derived.Lib.Slices
namespace Go.Proofs.YtpcoonnfaoakhaaGreatDoor
set_option maxRecDepth 100000
open Go Go.RowKit
set_option linter.unusedVariables false

/-! ### a store of any pile behind calls -/
theorem SeenL.putX {y : Lyr} {l : List Lyr} {R : List Pr} (h : SeenL ⟨#[]⟩ (y :: l) R) {key : ByteArray} (hk : key.size ≤ maxLen) (v : List UInt8) : SeenL ⟨#[]⟩ (y.put key (some v) :: l) (putL (key, some v) R) where
  rise := h.rise.put _
  small := fun p hp => by
    rcases List.mem_append.1 ((putL_perm key _ R).mem_iff.1 hp) with hp | hp
    · rw [List.mem_singleton.1 hp]; exact hk
    · exact h.small p (List.mem_filter.1 hp).1
  get := fun s hs => by
    have h0 := h.get s hs
    rw [begB_empty, if_pos rfl] at h0 ⊢
    rw [getL_putL]
    unfold visV at h0 ⊢
    rw [visD_cons] at h0 ⊢
    have hv : (y.put key (some v)).f s = if s = key then some (some v) else y.f s := rfl
    rw [hv]
    by_cases e : s = key
    · rw [if_pos e, if_pos e]; rfl
    · rw [if_neg e, if_neg e]; exact h0
theorem PileS.okDX {w : World} {l : List Lyr} (h : PileS w l) {s : ByteArray} {x : List UInt8} (e : visD l s = some (some x)) : keyB s = true ∧ x.length ≤ 65535 := by
  induction l with
  | nil => cases e
  | cons y l ih =>
    rw [visD_cons] at e
    cases hy : y.f s with
    | none => rw [hy] at e; exact ih h.2.2 e
    | some z =>
      rw [hy] at e
      exact h.1.ok s x (by rw [hy]; exact e)
/-- what is kept where the key and the value fit -/
def setL (key : ByteArray) (val : List UInt8) (R : List Pr) : List Pr := if pairB (key, val) = true then putL (key, some val) R else R
/-- a store over a pile, made at W: R is seen of it at W' -/
structure At (W : World) (y : Lyr) (l : List Lyr) (R : List Pr) (k : Nat) (W' : World) : Prop where
  b : BankS W y l R k W'
  p : PileS W (y :: l)
section
variable {W W' W2 : World} {y : Lyr} {l : List Lyr} {R R2 : List Pr} {k : Nat} {B : Nat}
theorem At.kept (h : At W y l R k W') : Kept W W' := by
  obtain ⟨n, f, -, -, -, h4⟩ := h.b
  exact ⟨_, h4, h.p.1.maps⟩
theorem At.below (h : At W y l R k W') (hB : B ≤ y.m) (hW : B ≤ W.heap.size) : Below B W W' := by
  obtain ⟨n, f, -, -, -, h4⟩ := h.b
  exact h4.below (fun k e => by rw [e]; exact hB) hW
theorem At.up (h : At W y l R k W') (hb : Below W'.heap.size W' W2) : At W y l R k W2 := ⟨h.b.up hb (Nat.le_refl k), h.p⟩
theorem At.more {k' : Nat} (h : At W y l R k W') (hk : k ≤ k') : At W y l R k' W' := ⟨h.b.up (Below.refl _ _) hk, h.p⟩
theorem At.made {ps : List Pr} (h : PileS W [y]) (hl : LyrIs ps y) (hr : Rise ps) (hs : ∀ p ∈ ps, p.1.size ≤ maxLen) : At W y [] ps 0 W := ⟨BankS.refl h ⟨hr, hs, fun s _ => by
  rw [begB_empty, if_pos rfl]
  unfold visV
  rw [visD_cons, hl s]
  cases getL ps s <;> rfl⟩, h⟩
theorem At.get (h : At W y l R k W') (key : ByteArray) (hk : key.size ≤ maxLen) :
    Calls Tryz.prog 18 #[.pointer (some ⟨y.b, 0, none⟩), .string key] W' fun e w' => ∃ v, e = .returned (.tuple #[v, .bool (getL R key).isSome]) ∧ Own w' W'.heap.size v ((getL R key).getD []) ∧ Below W'.heap.size W' w' := by
  obtain ⟨n, f, h1, h2, h3, h4⟩ := h.b
  have e := h2.get key hk
  rw [begB_empty, if_pos rfl] at e
  rw [e]
  exact get_any h1 key hk
theorem At.fits (h : At W y l R k W') {key : ByteArray} {v : List UInt8} (e : getL R key = some v) : keyB key = true ∧ v.length ≤ 65535 := by
  obtain ⟨n, f, h1, h2, h3, h4⟩ := h.b
  have hs := h2.small _ (getL_mem e)
  have e2 := h2.get key hs
  rw [begB_empty, if_pos rfl, e] at e2
  unfold visV at e2
  cases hd : visD (⟨y.b, y.m, n, f⟩ :: l) key with
  | none => rw [hd] at e2; cases e2
  | some z => rw [hd] at e2; exact h1.okDX (hd.trans (congrArg some e2.symm))
theorem At.set (h : At W y l R k W') (hn : y.n + k < maxLen) (key : ByteArray) (hk : key.size ≤ maxLen) (v : Value) (val : List UInt8) (hr : Rd W' W'.heap.size v val) :
    Calls Tryz.prog 43 #[.pointer (some ⟨y.b, 0, none⟩), .string key, v] W' fun e w' => e = .returned (.int .i64 (if pairB (key, val) = true then 0 else 60)) ∧ At W y l (setL key val R) (k + 1) w' ∧ Kept W' w' := by
  obtain ⟨n, f, h1, h2, h3, h4⟩ := h.b
  refine (set_any h1 (show n < maxLen by omega) key hk v val hr).mono ?_
  rintro e w' ⟨he, ⟨hp, rfl⟩ | ⟨hp, hq, hc⟩⟩
  · refine ⟨he, ?_, Kept.refl _⟩
    unfold setL
    rw [if_neg (by simp [hp])]
    exact h.more (by omega)
  · refine ⟨he, ?_, ⟨_, hc, h1.1.maps⟩⟩
    unfold setL
    rw [if_pos hp]
    exact ⟨⟨n + 1, _, hq, h2.putX hk val, by omega, h4.trans' hc⟩, h.p⟩
end

theorem Kept.of_belowX {w w' : World} (h : Below w.heap.size w w') : Kept w w' := ⟨fun _ => False, Chg.of_below h _, fun _ k => k.elim⟩
theorem Kept.transX {w w1 w2 : World} (h : Kept w w1) (k : Kept w1 w2) : Kept w w2 := by
  obtain ⟨F, h1, h2⟩ := h
  obtain ⟨G, k1, k2⟩ := k
  have hm : ∀ q, G q → q < w.heap.size → ¬ F q → ∃ es c, w.heap[q]? = some (.map es c) := fun q hq hl hn => by
    obtain ⟨es, c, e⟩ := k2 q hq
    exact ⟨es, c, (h1.block q hl hn).symm.trans e⟩
  refine ⟨fun q => q < w.heap.size ∧ (F q ∨ G q), ⟨k1.os.trans h1.os, k1.tape.trans h1.tape, k1.output.trans h1.output, Nat.le_trans h1.size k1.size, fun q hq hn => ?_⟩, fun q hq => ?_⟩
  · have hF : ¬ F q := fun e => hn ⟨hq, Or.inl e⟩
    have hG : ¬ G q := fun e => hn ⟨hq, Or.inr e⟩
    exact (k1.block q (Nat.lt_of_lt_of_le hq h1.size) hG).trans (h1.block q hq hF)
  · obtain ⟨hl, hq⟩ := hq
    by_cases hF : F q
    · exact h2 q hF
    · exact hm q (hq.resolve_left hF) hl hF

/-! ### what is kept -/
def cliP : ByteArray := ⟨#[105, 98, 99, 47, 99, 108, 105, 101, 110, 116, 47]⟩
def consP : ByteArray := ⟨#[105, 98, 99, 47, 99, 111, 110, 115, 47]⟩
def numP : ByteArray := ⟨#[105, 98, 99, 47, 110, 47]⟩
def connP : ByteArray := ⟨#[105, 98, 99, 47, 99, 111, 110, 110, 47]⟩
def nextP : ByteArray := ⟨#[105, 98, 99, 47, 110, 101, 120, 116, 47]⟩
def recvP : ByteArray := ⟨#[105, 98, 99, 47, 114, 101, 99, 118, 47]⟩
def ackedP : ByteArray := ⟨#[105, 98, 99, 47, 97, 99, 107, 101, 100, 47]⟩
def kCli (a : ByteArray) : ByteArray := cliP ++ a
def kCons (a : ByteArray) (n : Nat) : ByteArray := ((consP ++ a) ++ slB) ++ hexN n
def kNum (a : ByteArray) : ByteArray := numP ++ a
def kConn (a : ByteArray) : ByteArray := connP ++ a
def kChn (a : ByteArray) : ByteArray := chanP ++ a
theorem kCli_size (a : ByteArray) : (kCli a).size = a.size + 11 := by
  have : cliP.size = 11 := by decide +kernel
  unfold kCli; rw [ByteArray.size_append]; omega
theorem kNum_size (a : ByteArray) : (kNum a).size = a.size + 6 := by
  have : numP.size = 6 := by decide +kernel
  unfold kNum; rw [ByteArray.size_append]; omega
theorem kConn_size (a : ByteArray) : (kConn a).size = a.size + 9 := by
  have : connP.size = 9 := by decide +kernel
  unfold kConn; rw [ByteArray.size_append]; omega
theorem kChn_size (a : ByteArray) : (kChn a).size = a.size + 9 := by
  have : chanP.size = 9 := by decide +kernel
  unfold kChn; rw [ByteArray.size_append]; omega
theorem kCons_size (a : ByteArray) (n : Nat) : (kCons a n).size = a.size + 26 := by
  have h1 : consP.size = 9 := by decide +kernel
  have h2 : slB.size = 1 := by decide +kernel
  have h3 := hexN_size n
  unfold kCons; simp only [ByteArray.size_append]; omega

/-- a client -/
structure ClV where
  ch : ByteArray
  la : Nat
  pe : Nat
  fr : Bool
def ClV.none : ClV := ⟨⟨#[]⟩, 0, 0, false⟩
def ClV.val (v : ClV) : Value := .agg #[.string v.ch, .int .u64 (v.la : Int), .int .u64 (v.pe : Int), .bool v.fr]
def ClV.ok (v : ClV) : Prop := v.ch.size ≤ 65535 ∧ v.la < 18446744073709551616 ∧ v.pe < 18446744073709551616
def clB (v : ClV) : List UInt8 := ((encS v.ch ++ be v.la 8) ++ be v.pe 8) ++ [fb v.fr]
def readCl (l : List UInt8) : Option ClV :=
  match rB l 0 with
  | (a, l1, f1) => match rN l1 f1 with
    | (b, l2, f2) => match rN l2 f2 with
      | (c, l3, f3) => match rF l3 f3 with
        | (d, l4, f4) => if rEnd l4 f4 = 0 then some ⟨⟨a.toArray⟩, b, c, d⟩ else Option.none
def clV : Option ClV → Value
  | some v => .tuple #[v.val, .bool true]
  | Option.none => .tuple #[ClV.none.val, .bool false]
def getCl (R : List Pr) (id : ByteArray) : Option ClV := if identB id = true then (getL R (kCli id)).bind readCl else Option.none

/-- a connection -/
structure CnV where
  st : Nat
  cl : ByteArray
  cc : ByteArray
  ct : ByteArray
def CnV.none : CnV := ⟨0, ⟨#[]⟩, ⟨#[]⟩, ⟨#[]⟩⟩
def CnV.val (v : CnV) : Value := .agg #[.int .u64 (v.st : Int), .string v.cl, .string v.cc, .string v.ct]
def cnB (v : CnV) : List UInt8 := ((be v.st 8 ++ encS v.cl) ++ encS v.cc) ++ encS v.ct
def readCn (l : List UInt8) : Option CnV :=
  match rN l 0 with
  | (a, l1, f1) => match rB l1 f1 with
    | (b, l2, f2) => match rB l2 f2 with
      | (c, l3, f3) => match rB l3 f3 with
        | (d, l4, f4) => if rEnd l4 f4 = 0 then some ⟨a, ⟨b.toArray⟩, ⟨c.toArray⟩, ⟨d.toArray⟩⟩ else Option.none
def cnV : Option CnV → Value
  | some v => .tuple #[v.val, .bool true]
  | Option.none => .tuple #[CnV.none.val, .bool false]
def getCn (R : List Pr) (id : ByteArray) : Option CnV := if identB id = true then (getL R (kConn id)).bind readCn else Option.none

/-- a channel -/
structure ChV where
  st : Nat
  od : Bool
  po : ByteArray
  cp : ByteArray
  cn : ByteArray
  cc : ByteArray
  ve : ByteArray
def ChV.none : ChV := ⟨0, false, ⟨#[]⟩, ⟨#[]⟩, ⟨#[]⟩, ⟨#[]⟩, ⟨#[]⟩⟩
def ChV.val (v : ChV) : Value := .agg #[.int .u64 (v.st : Int), .bool v.od, .string v.po, .string v.cp, .string v.cn, .string v.cc, .string v.ve]
def chB (v : ChV) : List UInt8 := (((((be v.st 8 ++ [fb v.od]) ++ encS v.po) ++ encS v.cp) ++ encS v.cn) ++ encS v.cc) ++ encS v.ve
def readCh (l : List UInt8) : Option ChV :=
  match rN l 0 with
  | (a, l1, f1) => match rF l1 f1 with
    | (b, l2, f2) => match rB l2 f2 with
      | (c, l3, f3) => match rB l3 f3 with
        | (d, l4, f4) => match rB l4 f4 with
          | (e, l5, f5) => match rB l5 f5 with
            | (f, l6, f6) => match rB l6 f6 with
              | (g, l7, f7) => if rEnd l7 f7 = 0 then some ⟨a, b, ⟨c.toArray⟩, ⟨d.toArray⟩, ⟨e.toArray⟩, ⟨f.toArray⟩, ⟨g.toArray⟩⟩ else Option.none
def chV : Option ChV → Value
  | some v => .tuple #[v.val, .bool true]
  | Option.none => .tuple #[ChV.none.val, .bool false]
def getCh (R : List Pr) (id : ByteArray) : Option ChV := if identB id = true then (getL R (kChn id)).bind readCh else Option.none

/-- what is trusted of a height -/
structure CsV where
  tm : Nat
  rt : List UInt8
  nx : List UInt8
def csB (v : CsV) : List UInt8 := (be v.tm 8 ++ encB v.rt) ++ encB v.nx
def readCs (l : List UInt8) : Option CsV :=
  match rN l 0 with
  | (a, l1, f1) => match rB l1 f1 with
    | (b, l2, f2) => match rB l2 f2 with
      | (c, l3, f3) => if rEnd l3 f3 = 0 then some ⟨a, b, c⟩ else Option.none
def getCs (R : List Pr) (id : ByteArray) (n : Nat) : Option CsV := if identB id = true then (getL R (kCons id n)).bind readCs else Option.none
end Go.Proofs.YtpcoonnfaoakhaaGreatDoor
namespace Go.Proofs.YtpcoonnfaoakhaaGreatDoor
set_option maxRecDepth 100000
open Go Go.RowKit
set_option linter.unusedVariables false

theorem bytes_inj {l m : List UInt8} (h : (⟨l.toArray⟩ : ByteArray) = ⟨m.toArray⟩) : l = m := by
  injection h with h
  simpa using h
theorem beq_toList_ne {s t : ByteArray} (h : ¬ s = t) : (s.toList == t.toList) = false := by
  rw [Lib.toList_data, Lib.toList_data]
  refine beq_eq_false_iff_ne.2 fun e => h ?_
  cases s with | mk a => cases t with | mk b =>
  have : a = b := by simpa using e
  rw [this]
set_option maxHeartbeats 8000000 in
theorem samePs_any (w : World) (a b : Value) (L M : List Pr) (ha : RdP w w.heap.size a L) (hb : RdP w w.heap.size b M) :
    Calls Tryz.prog 14 #[a, b] w fun e w' => e = .returned (.bool (decide (L = M))) ∧ Below w.heap.size w w' := by
  obtain ⟨A, c, rfl, hc, hcm, hp⟩ := ha
  obtain ⟨A', c', rfl, hc', hcm', hp'⟩ := hb
  unfold maxLen at hcm hcm'
  obtain ⟨n, hn⟩ : ∃ n, n = L.length := ⟨_, rfl⟩
  obtain ⟨q, hq⟩ : ∃ q, q = M.length := ⟨_, rfl⟩
  rw [← hn] at hc ⊢
  rw [← hq] at hc' ⊢
  have HN := Lib.hid hn
  have HQ := Lib.hid hq
  have HP := Lib.hid hp
  have HP' := Lib.hid hp'
  clear hn hq hp hp'
  by_cases hl : n = q
  · subst hl
    have hne : ((n : Int) != (n : Int)) = false := by simp
    obtain ⟨R, hR⟩ : ∃ R : Bool, R = decide (L = M) := ⟨_, rfl⟩
    have HR := Lib.hid hR
    rw [← hR]
    clear hR
    go_enter Tryz.func14, Tryz.ntmps14
    go_wp2_with fail
    go_loopw [13] (fun i W => ∃ k : Nat, k ≤ n ∧ i = .int .i64 (k : Int) ∧ Below w.heap.size w W ∧ Hid (L.take k = M.take k))
      (fun i _ => n - (intOf i).toNat)
    case atStart => exact ⟨0, Nat.zero_le _, rfl, Below.refl _ _, Lib.hid (by simp)⟩
    case round =>
      rename World => W
      obtain ⟨k, hkn, rfl, hbW, HT⟩ := hrel
      by_cases hlt : k < n
      · have hkL : k < L.length := by have := HN.out; omega
        have hkM : k < M.length := by have := HQ.out; omega
        obtain ⟨b, o, rfl, hbl, hcell⟩ := HP.out (by omega)
        obtain ⟨b', o', rfl, hbl', hcell'⟩ := HP'.out (by omega)
        obtain ⟨q1, x, q2, q3⟩ := hcell k hkL
        obtain ⟨r1, y, r2, r3⟩ := hcell' k hkM
        have a1 := (hbW.cell (p := ⟨b, o + k * 2, none⟩) hbl).trans q1
        have a2 := (hbW.cell (p := ⟨b, o + k * 2 + 1, none⟩) hbl).trans q2
        have a3 := (hbW.cell (p := ⟨b', o' + k * 2, none⟩) hbl').trans r1
        have a4 := (hbW.cell (p := ⟨b', o' + k * 2 + 1, none⟩) hbl').trans r2
        have cx := fun nq => run_str (P := Tryz.prog) (w := W.drewN nq) (B := W.heap.size) (src := 27) (dst := 9) Tryz.underlying27 Tryz.underlying5 Tryz.isString ((q3.below hbW).more hbW.size)
        have cy := fun nq => run_str (P := Tryz.prog) (w := W.drewN nq) (B := W.heap.size) (src := 27) (dst := 9) Tryz.underlying27 Tryz.underlying5 Tryz.isString ((r3.below hbW).more hbW.size)
        obtain ⟨Ax, kx, rfl⟩ := q3.form
        obtain ⟨Ay, ky, rfl⟩ := r3.form
        have HLk : Hid (L[k] = (L[k].1, L[k].2)) := Lib.hid rfl
        have HMk : Hid (M[k] = (M[k].1, M[k].2)) := Lib.hid rfl
        have hstep : L[k] = M[k] → L.take (k + 1) = M.take (k + 1) := fun e => by
          rw [← List.take_append_getElem hkL, ← List.take_append_getElem hkM, HT.out, e]
        have HST := Lib.hid hstep
        have hno : ¬ L[k] = M[k] → R = false := fun e => by
          rw [HR.out]
          refine decide_eq_false fun h => e ?_
          subst h; rfl
        have HNO := Lib.hid hno
        have i1 : (0 : Int) ≤ (k : Int) := by omega
        have i2 : (k : Int) < (n : Int) := by omega
        clear hcell hcell' q1 q2 q3 r1 r2 r3 hstep hno
        generalize L[k] = u at *
        generalize M[k] = v at *
        obtain ⟨s, l⟩ := u
        obtain ⟨t, m⟩ := v
        dsimp only at a1 a2 a3 a4 cx cy
        obtain ⟨SX, hSX⟩ : ∃ SX : ByteArray, SX = ⟨l.toArray⟩ := ⟨_, rfl⟩
        obtain ⟨SY, hSY⟩ : ∃ SY : ByteArray, SY = ⟨m.toArray⟩ := ⟨_, rfl⟩
        simp only [← hSX] at cx
        simp only [← hSY] at cy
        generalize l.length = ll at *
        generalize m.length = ml at *
        have HSX := Lib.hid hSX
        have HSY := Lib.hid hSY
        clear hSX hSY
        by_cases hk : s = t
        · subst hk
          by_cases hv : SX = SY
          · subst hv
            have he : l = m := bytes_inj (HSX.out.symm.trans HSY.out)
            subst he
            have HT2 := Lib.hid (HST.out rfl)
            clear HST HNO HLk HMk
            go_wp2_with fail
            go_quiet (fail)
            go_wp2_with fail
            exact ⟨⟨k + 1, by omega, by go_num, below_drewN' hbW _, HT2⟩, by simp [intOf]; omega⟩
          · have HRf : Hid (R = false) := Lib.hid (HNO.out fun e => hv (by
              injection e with _ e
              rw [HSX.out, HSY.out, e]))
            have hv1 : (SX.toList == SY.toList) = false := beq_toList_ne hv
            have hv2 : (SX.toList != SY.toList) = true := by unfold bne; rw [hv1]; rfl
            clear HST HNO HLk HMk
            go_wp2_with fail
            go_quiet (fail)
            go_wp2_with fail
            go_ret
            exact ⟨by rw [HRf.out]; rfl, below_drewN' hbW _⟩
        · have HRf : Hid (R = false) := Lib.hid (HNO.out fun e => hk (by injection e))
          have hk1 : (s.toList == t.toList) = false := beq_toList_ne hk
          have hk2 : (s.toList != t.toList) = true := by unfold bne; rw [hk1]; rfl
          clear HST HNO HLk HMk
          go_wp2_with fail
          go_quiet (fail)
          go_wp2_with fail
          go_ret
          exact ⟨by rw [HRf.out]; rfl, below_drewN' hbW _⟩
      · have i2 : ¬ (k : Int) < (n : Int) := by omega
        obtain rfl : k = n := by omega
        have HRt : Hid (R = true) := Lib.hid (by
          have h1 := HT.out
          rw [List.take_of_length_le (by have := HN.out; omega), List.take_of_length_le (by have := HQ.out; omega)] at h1
          rw [HR.out, h1]; simp)
        go_wp2_with fail
        go_ret
        exact ⟨by rw [HRt.out]; rfl, hbW⟩
  · have hne : ((n : Int) != (q : Int)) = true := by simp; omega
    have HRf : Hid (decide (L = M) = false) := Lib.hid (decide_eq_false fun h => hl (by rw [HN.out, HQ.out, h]))
    rw [HRf.out]
    go_enter Tryz.func14, Tryz.ntmps14
    go_wp2_with fail
    go_ret
    exact ⟨rfl, Below.refl _ _⟩
end Go.Proofs.YtpcoonnfaoakhaaGreatDoor
