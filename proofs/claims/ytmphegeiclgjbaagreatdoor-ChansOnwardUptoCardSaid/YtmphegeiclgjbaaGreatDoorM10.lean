/- Texts joined: PktB1, CliM, Sto1. -/
import Derived.Test.YtmphegeiclgjbaaGreatDoorM09
import Derived.Test.YtmphegeiclgjbaaGreatDoorM02
import Derived.Test.YtmphegeiclgjbaaGreatDoorM03
import Derived.Test.YtmphegeiclgjbaaGreatDoorM07
import Derived.Deep.RegionHeldLaw
import Derived.Lib.Strings
import Derived.Lib.Slices
namespace Go.Proofs.YtmphegeiclgjbaaGreatDoor
set_option maxRecDepth 100000
open Go Go.RowKit
set_option linter.unusedVariables false

/-- a number in a key: sixteen digits -/
def hexN (n : Nat) : ByteArray := ⟨(hexOf (be n 8)).toArray⟩
theorem hexOf_len (l : List UInt8) : (hexOf l).length = 2 * l.length := by
  induction l with
  | nil => rfl
  | cons x l ih =>
    unfold hexOf at *
    simp [hex2, ih]
    omega
theorem hexN_size (n : Nat) : (hexN n).size = 16 := by
  show (hexOf (be n 8)).length = 16
  rw [hexOf_len, be_length]
theorem chex_any (n : Nat) (w : World) (hn : n < 18446744073709551616) : Calls Tryz.prog 105 #[.int .u64 (n : Int)] w fun e w' => e = .returned (.string (hexN n)) ∧ Below w.heap.size w w' := by
  have HN := Lib.hid (N_any (.slice none 0 0) [] n w (Rd.nil _ _) hn (by simp))
  have HH : Hid (∀ (v : Value) (W : World) (B : Nat), Own W B v (be n 8) → Calls Tryz.prog 133 #[v] W fun e w' => e = .returned (.string (hexN n)) ∧ Below W.heap.size W w') := Lib.hid fun v W B h => hex_any v _ W h.rd (by simp [be_length])
  rw [List.nil_append] at HN
  generalize be n 8 = L at *
  generalize hexN n = S at *
  go_enter Tryz.func105, Tryz.ntmps105
  go_wp2_with fail
  refine HN.out.mono ?_
  rintro e w1 ⟨v, rfl, ho, hb1⟩
  have H2 := Lib.hid (HH.out _ _ _ ho)
  obtain ⟨A, c, rfl⟩ := ho.form
  go_wp2_with fail
  refine H2.out.mono ?_
  rintro e w2 ⟨rfl, hb2⟩
  go_wp2_with fail
  go_ret
  exact ⟨rfl, below_chain hb1 hb1.size hb2⟩
def ibcS : ByteArray := ⟨#[105, 98, 99, 47]⟩
/-- where something of a packet is kept -/
def kPl (what a : ByteArray) (n : Nat) : ByteArray := ((((ibcS ++ what) ++ slB) ++ a) ++ slB) ++ hexN n
def wCommit : ByteArray := ⟨#[99, 111, 109, 109, 105, 116]⟩
def rCommitP : ByteArray := ⟨#[105, 98, 99, 47, 99, 111, 109, 109, 105, 116, 47]⟩
def wReceipt : ByteArray := ⟨#[114, 101, 99, 101, 105, 112, 116]⟩
def rReceiptP : ByteArray := ⟨#[105, 98, 99, 47, 114, 101, 99, 101, 105, 112, 116, 47]⟩
def wAckKey : ByteArray := ⟨#[97, 99, 107]⟩
def rAckKeyP : ByteArray := ⟨#[105, 98, 99, 47, 97, 99, 107, 47]⟩
def wSent : ByteArray := ⟨#[115, 101, 110, 116]⟩
def rSentP : ByteArray := ⟨#[105, 98, 99, 47, 115, 101, 110, 116, 47]⟩
def wTold : ByteArray := ⟨#[116, 111, 108, 100]⟩
def rToldP : ByteArray := ⟨#[105, 98, 99, 47, 116, 111, 108, 100, 47]⟩
end Go.Proofs.YtmphegeiclgjbaaGreatDoor
namespace Go.Proofs.YtmphegeiclgjbaaGreatDoor
set_option maxRecDepth 100000
open Go Go.RowKit
set_option linter.unusedVariables false

structure PktV where
  src : ByteArray
  dst : ByteArray
  seq : Nat
  data : List UInt8
  ht : Nat
  tm : Nat
def PktV.none : PktV := ⟨⟨#[]⟩, ⟨#[]⟩, 0, [], 0, 0⟩
def PktV.val (p : PktV) (vd : Value) : Value := .agg #[.string p.src, .string p.dst, .int .u64 (p.seq : Int), vd, .int .u64 (p.ht : Int), .int .u64 (p.tm : Int)]
def readP (l : List UInt8) : Option PktV :=
  match rB l 0 with
  | (sa, l1, f1) => match rB l1 f1 with
    | (sb, l2, f2) => match rN l2 f2 with
      | (sq, l3, f3) => match rB l3 f3 with
        | (dt, l4, f4) => match rN l4 f4 with
          | (ht, l5, f5) => match rN l5 f5 with
            | (tm, l6, f6) => if rEnd l6 f6 = 0 then some ⟨⟨sa.toArray⟩, ⟨sb.toArray⟩, sq, dt, ht, tm⟩ else Option.none
theorem rN_ltP (l : List UInt8) (f : Int) : (rN l f).1 < 18446744073709551616 := by
  unfold rN
  split
  · show 0 < _; omega
  · split
    · show 0 < _; omega
    · have := beVal_lt8 (l.take 8) 8 (by simp; omega)
      show beVal (l.take 8) < _
      omega
end Go.Proofs.YtmphegeiclgjbaaGreatDoor
namespace Go.Proofs.YtmphegeiclgjbaaGreatDoor
set_option maxRecDepth 100000
open Go Go.RowKit
set_option linter.unusedVariables false

def encS (s : ByteArray) : List UInt8 := encB (strBytes s)
theorem encB_lenP (m : List UInt8) : (encB m).length ≤ 65539 := by
  unfold encB
  simp [be_length]
  omega
theorem TS0 (v : Value) (s : ByteArray) (l : List UInt8) (Z : World) (hr : Rd Z Z.heap.size v l) (hs : s.size ≤ maxLen) (hl : l.length ≤ 140737488355328 - 65539) :
    Calls Tryz.prog 82 #[v, .string s] Z fun e w' => ∃ v', e = .returned v' ∧ Own w' Z.heap.size v' (l ++ encS s) ∧ Below Z.heap.size Z w' :=
  (T_any v s l Z hr hs hl).mono fun e w' ⟨v', h1, h2, h3⟩ => ⟨v', h1, by rw [List.append_assoc] at h2; exact h2, h3⟩
theorem BS0 (v x : Value) (l m : List UInt8) (Z : World) (hr : Rd Z Z.heap.size v l) (hx : Rd Z Z.heap.size x m) (hl : l.length ≤ 140737488355328 - 65539) :
    Calls Tryz.prog 106 #[v, x] Z fun e w' => ∃ v', e = .returned v' ∧ Own w' Z.heap.size v' (l ++ encB m) ∧ Below Z.heap.size Z w' :=
  (B_any v x l m Z hr hx hl).mono fun e w' ⟨v', h1, h2, h3⟩ => ⟨v', h1, by rw [List.append_assoc] at h2; exact h2, h3⟩
/-- a packet's bytes -/
def pktB (p : PktV) : List UInt8 := ((((encS p.src ++ encS p.dst) ++ be p.seq 8) ++ encB p.data) ++ be p.ht 8) ++ be p.tm 8
def chanP : ByteArray := ⟨#[105, 98, 99, 47, 99, 104, 97, 110, 47]⟩
end Go.Proofs.YtmphegeiclgjbaaGreatDoor
namespace Go.Proofs.YtmphegeiclgjbaaGreatDoor
set_option maxRecDepth 100000
open Go Go.RowKit
set_option linter.unusedVariables false

/-! ### a store of any pile behind calls -/
theorem SeenL.putX {y : Lyr} {l : List Lyr} {R : List Pr} (h : SeenL ⟨#[]⟩ (y :: l) R) {key : ByteArray} (hk : key.size ≤ maxLen) (v : List UInt8) : SeenL ⟨#[]⟩ (y.put key (some v) :: l) (putL (key, some v) R) where
  rise := h.rise.put _
  small := fun p hp => by
    rcases List.mem_append.1 ((putL_perm key _ R).mem_iff.1 hp) with hp | hp
    · rw [List.mem_singleton.1 hp]; exact hk
    · exact h.small p (List.mem_filter.1 hp).1
  get := fun s hs => by
    have h0 := h.get s hs
    rw [begB_empty, if_pos rfl] at h0 ⊢
    rw [getL_putL]
    unfold visV at h0 ⊢
    rw [visD_cons] at h0 ⊢
    have hv : (y.put key (some v)).f s = if s = key then some (some v) else y.f s := rfl
    rw [hv]
    by_cases e : s = key
    · rw [if_pos e, if_pos e]; rfl
    · rw [if_neg e, if_neg e]; exact h0
theorem PileS.okDX {w : World} {l : List Lyr} (h : PileS w l) {s : ByteArray} {x : List UInt8} (e : visD l s = some (some x)) : keyB s = true ∧ x.length ≤ 65535 := by
  induction l with
  | nil => cases e
  | cons y l ih =>
    rw [visD_cons] at e
    cases hy : y.f s with
    | none => rw [hy] at e; exact ih h.2.2 e
    | some z =>
      rw [hy] at e
      exact h.1.ok s x (by rw [hy]; exact e)
/-- what is kept where the key and the value fit -/
def setL (key : ByteArray) (val : List UInt8) (R : List Pr) : List Pr := if pairB (key, val) = true then putL (key, some val) R else R
/-- a store over a pile, made at W: R is seen of it at W' -/
structure At (W : World) (y : Lyr) (l : List Lyr) (R : List Pr) (k : Nat) (W' : World) : Prop where
  b : BankS W y l R k W'
  p : PileS W (y :: l)
section
variable {W W' W2 : World} {y : Lyr} {l : List Lyr} {R R2 : List Pr} {k : Nat} {B : Nat}
theorem At.kept (h : At W y l R k W') : Kept W W' := by
  obtain ⟨n, f, -, -, -, h4⟩ := h.b
  exact ⟨_, h4, h.p.1.maps⟩
theorem At.below (h : At W y l R k W') (hB : B ≤ y.m) (hW : B ≤ W.heap.size) : Below B W W' := by
  obtain ⟨n, f, -, -, -, h4⟩ := h.b
  exact h4.below (fun k e => by rw [e]; exact hB) hW
theorem At.up (h : At W y l R k W') (hb : Below W'.heap.size W' W2) : At W y l R k W2 := ⟨h.b.up hb (Nat.le_refl k), h.p⟩
theorem At.more {k' : Nat} (h : At W y l R k W') (hk : k ≤ k') : At W y l R k' W' := ⟨h.b.up (Below.refl _ _) hk, h.p⟩
theorem At.made {ps : List Pr} (h : PileS W [y]) (hl : LyrIs ps y) (hr : Rise ps) (hs : ∀ p ∈ ps, p.1.size ≤ maxLen) : At W y [] ps 0 W := ⟨BankS.refl h ⟨hr, hs, fun s _ => by
  rw [begB_empty, if_pos rfl]
  unfold visV
  rw [visD_cons, hl s]
  cases getL ps s <;> rfl⟩, h⟩
theorem At.get (h : At W y l R k W') (key : ByteArray) (hk : key.size ≤ maxLen) :
    Calls Tryz.prog 31 #[.pointer (some ⟨y.b, 0, none⟩), .string key] W' fun e w' => ∃ v, e = .returned (.tuple #[v, .bool (getL R key).isSome]) ∧ Own w' W'.heap.size v ((getL R key).getD []) ∧ Below W'.heap.size W' w' := by
  obtain ⟨n, f, h1, h2, h3, h4⟩ := h.b
  have e := h2.get key hk
  rw [begB_empty, if_pos rfl] at e
  rw [e]
  exact get_any h1 key hk
theorem At.fits (h : At W y l R k W') {key : ByteArray} {v : List UInt8} (e : getL R key = some v) : keyB key = true ∧ v.length ≤ 65535 := by
  obtain ⟨n, f, h1, h2, h3, h4⟩ := h.b
  have hs := h2.small _ (getL_mem e)
  have e2 := h2.get key hs
  rw [begB_empty, if_pos rfl, e] at e2
  unfold visV at e2
  cases hd : visD (⟨y.b, y.m, n, f⟩ :: l) key with
  | none => rw [hd] at e2; cases e2
  | some z => rw [hd] at e2; exact h1.okDX (hd.trans (congrArg some e2.symm))
theorem At.set (h : At W y l R k W') (hn : y.n + k < maxLen) (key : ByteArray) (hk : key.size ≤ maxLen) (v : Value) (val : List UInt8) (hr : Rd W' W'.heap.size v val) :
    Calls Tryz.prog 93 #[.pointer (some ⟨y.b, 0, none⟩), .string key, v] W' fun e w' => e = .returned (.int .i64 (if pairB (key, val) = true then 0 else 60)) ∧ At W y l (setL key val R) (k + 1) w' ∧ Kept W' w' := by
  obtain ⟨n, f, h1, h2, h3, h4⟩ := h.b
  refine (set_any h1 (show n < maxLen by omega) key hk v val hr).mono ?_
  rintro e w' ⟨he, ⟨hp, rfl⟩ | ⟨hp, hq, hc⟩⟩
  · refine ⟨he, ?_, Kept.refl _⟩
    unfold setL
    rw [if_neg (by simp [hp])]
    exact h.more (by omega)
  · refine ⟨he, ?_, ⟨_, hc, h1.1.maps⟩⟩
    unfold setL
    rw [if_pos hp]
    exact ⟨⟨n + 1, _, hq, h2.putX hk val, by omega, h4.trans' hc⟩, h.p⟩
end

theorem Kept.of_belowX {w w' : World} (h : Below w.heap.size w w') : Kept w w' := ⟨fun _ => False, Chg.of_below h _, fun _ k => k.elim⟩
theorem Kept.transX {w w1 w2 : World} (h : Kept w w1) (k : Kept w1 w2) : Kept w w2 := by
  obtain ⟨F, h1, h2⟩ := h
  obtain ⟨G, k1, k2⟩ := k
  have hm : ∀ q, G q → q < w.heap.size → ¬ F q → ∃ es c, w.heap[q]? = some (.map es c) := fun q hq hl hn => by
    obtain ⟨es, c, e⟩ := k2 q hq
    exact ⟨es, c, (h1.block q hl hn).symm.trans e⟩
  refine ⟨fun q => q < w.heap.size ∧ (F q ∨ G q), ⟨k1.os.trans h1.os, k1.tape.trans h1.tape, k1.output.trans h1.output, Nat.le_trans h1.size k1.size, fun q hq hn => ?_⟩, fun q hq => ?_⟩
  · have hF : ¬ F q := fun e => hn ⟨hq, Or.inl e⟩
    have hG : ¬ G q := fun e => hn ⟨hq, Or.inr e⟩
    exact (k1.block q (Nat.lt_of_lt_of_le hq h1.size) hG).trans (h1.block q hq hF)
  · obtain ⟨hl, hq⟩ := hq
    by_cases hF : F q
    · exact h2 q hF
    · exact hm q (hq.resolve_left hF) hl hF

/-! ### what is kept -/
def cliP : ByteArray := ⟨#[105, 98, 99, 47, 99, 108, 105, 101, 110, 116, 47]⟩
def consP : ByteArray := ⟨#[105, 98, 99, 47, 99, 111, 110, 115, 47]⟩
def numP : ByteArray := ⟨#[105, 98, 99, 47, 110, 47]⟩
def connP : ByteArray := ⟨#[105, 98, 99, 47, 99, 111, 110, 110, 47]⟩
def nextP : ByteArray := ⟨#[105, 98, 99, 47, 110, 101, 120, 116, 47]⟩
def recvP : ByteArray := ⟨#[105, 98, 99, 47, 114, 101, 99, 118, 47]⟩
def ackedP : ByteArray := ⟨#[105, 98, 99, 47, 97, 99, 107, 101, 100, 47]⟩
def kCli (a : ByteArray) : ByteArray := cliP ++ a
def kCons (a : ByteArray) (n : Nat) : ByteArray := ((consP ++ a) ++ slB) ++ hexN n
def kNum (a : ByteArray) : ByteArray := numP ++ a
def kConn (a : ByteArray) : ByteArray := connP ++ a
def kChn (a : ByteArray) : ByteArray := chanP ++ a
theorem kCli_size (a : ByteArray) : (kCli a).size = a.size + 11 := by
  have : cliP.size = 11 := by decide +kernel
  unfold kCli; rw [ByteArray.size_append]; omega
theorem kNum_size (a : ByteArray) : (kNum a).size = a.size + 6 := by
  have : numP.size = 6 := by decide +kernel
  unfold kNum; rw [ByteArray.size_append]; omega
theorem kConn_size (a : ByteArray) : (kConn a).size = a.size + 9 := by
  have : connP.size = 9 := by decide +kernel
  unfold kConn; rw [ByteArray.size_append]; omega
theorem kChn_size (a : ByteArray) : (kChn a).size = a.size + 9 := by
  have : chanP.size = 9 := by decide +kernel
  unfold kChn; rw [ByteArray.size_append]; omega
theorem kCons_size (a : ByteArray) (n : Nat) : (kCons a n).size = a.size + 26 := by
  have h1 : consP.size = 9 := by decide +kernel
  have h2 : slB.size = 1 := by decide +kernel
  have h3 := hexN_size n
  unfold kCons; simp only [ByteArray.size_append]; omega

/-- a client -/
structure ClV where
  ch : ByteArray
  la : Nat
  pe : Nat
  fr : Bool
def ClV.none : ClV := ⟨⟨#[]⟩, 0, 0, false⟩
def ClV.val (v : ClV) : Value := .agg #[.string v.ch, .int .u64 (v.la : Int), .int .u64 (v.pe : Int), .bool v.fr]
def ClV.ok (v : ClV) : Prop := v.ch.size ≤ 65535 ∧ v.la < 18446744073709551616 ∧ v.pe < 18446744073709551616
def clB (v : ClV) : List UInt8 := ((encS v.ch ++ be v.la 8) ++ be v.pe 8) ++ [fb v.fr]
def readCl (l : List UInt8) : Option ClV :=
  match rB l 0 with
  | (a, l1, f1) => match rN l1 f1 with
    | (b, l2, f2) => match rN l2 f2 with
      | (c, l3, f3) => match rF l3 f3 with
        | (d, l4, f4) => if rEnd l4 f4 = 0 then some ⟨⟨a.toArray⟩, b, c, d⟩ else Option.none
def clV : Option ClV → Value
  | some v => .tuple #[v.val, .bool true]
  | Option.none => .tuple #[ClV.none.val, .bool false]
def getCl (R : List Pr) (id : ByteArray) : Option ClV := if identB id = true then (getL R (kCli id)).bind readCl else Option.none

/-- a connection -/
structure CnV where
  st : Nat
  cl : ByteArray
  cc : ByteArray
  ct : ByteArray
def CnV.none : CnV := ⟨0, ⟨#[]⟩, ⟨#[]⟩, ⟨#[]⟩⟩
def CnV.val (v : CnV) : Value := .agg #[.int .u64 (v.st : Int), .string v.cl, .string v.cc, .string v.ct]
def cnB (v : CnV) : List UInt8 := ((be v.st 8 ++ encS v.cl) ++ encS v.cc) ++ encS v.ct
def readCn (l : List UInt8) : Option CnV :=
  match rN l 0 with
  | (a, l1, f1) => match rB l1 f1 with
    | (b, l2, f2) => match rB l2 f2 with
      | (c, l3, f3) => match rB l3 f3 with
        | (d, l4, f4) => if rEnd l4 f4 = 0 then some ⟨a, ⟨b.toArray⟩, ⟨c.toArray⟩, ⟨d.toArray⟩⟩ else Option.none
def cnV : Option CnV → Value
  | some v => .tuple #[v.val, .bool true]
  | Option.none => .tuple #[CnV.none.val, .bool false]
def getCn (R : List Pr) (id : ByteArray) : Option CnV := if identB id = true then (getL R (kConn id)).bind readCn else Option.none

/-- a channel -/
structure ChV where
  st : Nat
  od : Bool
  po : ByteArray
  cp : ByteArray
  cn : ByteArray
  cc : ByteArray
  ve : ByteArray
def ChV.none : ChV := ⟨0, false, ⟨#[]⟩, ⟨#[]⟩, ⟨#[]⟩, ⟨#[]⟩, ⟨#[]⟩⟩
def ChV.val (v : ChV) : Value := .agg #[.int .u64 (v.st : Int), .bool v.od, .string v.po, .string v.cp, .string v.cn, .string v.cc, .string v.ve]
def chB (v : ChV) : List UInt8 := (((((be v.st 8 ++ [fb v.od]) ++ encS v.po) ++ encS v.cp) ++ encS v.cn) ++ encS v.cc) ++ encS v.ve
def readCh (l : List UInt8) : Option ChV :=
  match rN l 0 with
  | (a, l1, f1) => match rF l1 f1 with
    | (b, l2, f2) => match rB l2 f2 with
      | (c, l3, f3) => match rB l3 f3 with
        | (d, l4, f4) => match rB l4 f4 with
          | (e, l5, f5) => match rB l5 f5 with
            | (f, l6, f6) => match rB l6 f6 with
              | (g, l7, f7) => if rEnd l7 f7 = 0 then some ⟨a, b, ⟨c.toArray⟩, ⟨d.toArray⟩, ⟨e.toArray⟩, ⟨f.toArray⟩, ⟨g.toArray⟩⟩ else Option.none
def chV : Option ChV → Value
  | some v => .tuple #[v.val, .bool true]
  | Option.none => .tuple #[ChV.none.val, .bool false]
def getCh (R : List Pr) (id : ByteArray) : Option ChV := if identB id = true then (getL R (kChn id)).bind readCh else Option.none

/-- what is trusted of a height -/
structure CsV where
  tm : Nat
  rt : List UInt8
  nx : List UInt8
def csB (v : CsV) : List UInt8 := (be v.tm 8 ++ encB v.rt) ++ encB v.nx
def readCs (l : List UInt8) : Option CsV :=
  match rN l 0 with
  | (a, l1, f1) => match rB l1 f1 with
    | (b, l2, f2) => match rB l2 f2 with
      | (c, l3, f3) => if rEnd l3 f3 = 0 then some ⟨a, b, c⟩ else Option.none
def getCs (R : List Pr) (id : ByteArray) (n : Nat) : Option CsV := if identB id = true then (getL R (kCons id n)).bind readCs else Option.none
end Go.Proofs.YtmphegeiclgjbaaGreatDoor
namespace Go.Proofs.YtmphegeiclgjbaaGreatDoor
set_option maxRecDepth 100000
open Go Go.RowKit
set_option linter.unusedVariables false

theorem beq_toList_ne {s t : ByteArray} (h : ¬ s = t) : (s.toList == t.toList) = false := by
  rw [Lib.toList_data, Lib.toList_data]
  refine beq_eq_false_iff_ne.2 fun e => h ?_
  cases s with | mk a => cases t with | mk b =>
  have : a = b := by simpa using e
  rw [this]
end Go.Proofs.YtmphegeiclgjbaaGreatDoor
