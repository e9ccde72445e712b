/- Texts joined: PktB1, CliM, Sto1, IcaG0, HeldBy. -/
import Derived.Test.YtmphegeiclgjbaaGreatDoorM09
import Derived.Test.YtmphegeiclgjbaaGreatDoorM02
import Derived.Test.YtmphegeiclgjbaaGreatDoorM03
import Derived.Test.YtmphegeiclgjbaaGreatDoorM07
import Derived.Deep.RegionHeldLaw
import Derived.Lib.Strings
import Derived.Lib.Slices
import Derived.Lib.ItoaNum
import Derived.Test.YtmphegeiclgjbaaGreatDoorM01
namespace Go.Proofs.YtmphegeiclgjbaaGreatDoor
set_option maxRecDepth 100000
open Go Go.RowKit
set_option linter.unusedVariables false

/-- a number in a key: sixteen digits -/
def hexN (n : Nat) : ByteArray := ⟨(hexOf (be n 8)).toArray⟩
theorem hexOf_len (l : List UInt8) : (hexOf l).length = 2 * l.length := by
  induction l with
  | nil => rfl
  | cons x l ih =>
    unfold hexOf at *
    simp [hex2, ih]
    omega
theorem hexN_size (n : Nat) : (hexN n).size = 16 := by
  show (hexOf (be n 8)).length = 16
  rw [hexOf_len, be_length]
theorem chex_any (n : Nat) (w : World) (hn : n < 18446744073709551616) : Calls Tryz.prog 105 #[.int .u64 (n : Int)] w fun e w' => e = .returned (.string (hexN n)) ∧ Below w.heap.size w w' := by
  have HN := Lib.hid (N_any (.slice none 0 0) [] n w (Rd.nil _ _) hn (by simp))
  have HH : Hid (∀ (v : Value) (W : World) (B : Nat), Own W B v (be n 8) → Calls Tryz.prog 133 #[v] W fun e w' => e = .returned (.string (hexN n)) ∧ Below W.heap.size W w') := Lib.hid fun v W B h => hex_any v _ W h.rd (by simp [be_length])
  rw [List.nil_append] at HN
  generalize be n 8 = L at *
  generalize hexN n = S at *
  go_enter Tryz.func105, Tryz.ntmps105
  go_wp2_with fail
  refine HN.out.mono ?_
  rintro e w1 ⟨v, rfl, ho, hb1⟩
  have H2 := Lib.hid (HH.out _ _ _ ho)
  obtain ⟨A, c, rfl⟩ := ho.form
  go_wp2_with fail
  refine H2.out.mono ?_
  rintro e w2 ⟨rfl, hb2⟩
  go_wp2_with fail
  go_ret
  exact ⟨rfl, below_chain hb1 hb1.size hb2⟩
def ibcS : ByteArray := ⟨#[105, 98, 99, 47]⟩
/-- where something of a packet is kept -/
def kPl (what a : ByteArray) (n : Nat) : ByteArray := ((((ibcS ++ what) ++ slB) ++ a) ++ slB) ++ hexN n
def wCommit : ByteArray := ⟨#[99, 111, 109, 109, 105, 116]⟩
def rCommitP : ByteArray := ⟨#[105, 98, 99, 47, 99, 111, 109, 109, 105, 116, 47]⟩
def wReceipt : ByteArray := ⟨#[114, 101, 99, 101, 105, 112, 116]⟩
def rReceiptP : ByteArray := ⟨#[105, 98, 99, 47, 114, 101, 99, 101, 105, 112, 116, 47]⟩
def wAckKey : ByteArray := ⟨#[97, 99, 107]⟩
def rAckKeyP : ByteArray := ⟨#[105, 98, 99, 47, 97, 99, 107, 47]⟩
def wSent : ByteArray := ⟨#[115, 101, 110, 116]⟩
def rSentP : ByteArray := ⟨#[105, 98, 99, 47, 115, 101, 110, 116, 47]⟩
def wTold : ByteArray := ⟨#[116, 111, 108, 100]⟩
def rToldP : ByteArray := ⟨#[105, 98, 99, 47, 116, 111, 108, 100, 47]⟩
end Go.Proofs.YtmphegeiclgjbaaGreatDoor
namespace Go.Proofs.YtmphegeiclgjbaaGreatDoor
set_option maxRecDepth 100000
open Go Go.RowKit
set_option linter.unusedVariables false

structure PktV where
  src : ByteArray
  dst : ByteArray
  seq : Nat
  data : List UInt8
  ht : Nat
  tm : Nat
def PktV.none : PktV := ⟨⟨#[]⟩, ⟨#[]⟩, 0, [], 0, 0⟩
def PktV.val (p : PktV) (vd : Value) : Value := .agg #[.string p.src, .string p.dst, .int .u64 (p.seq : Int), vd, .int .u64 (p.ht : Int), .int .u64 (p.tm : Int)]
def readP (l : List UInt8) : Option PktV :=
  match rB l 0 with
  | (sa, l1, f1) => match rB l1 f1 with
    | (sb, l2, f2) => match rN l2 f2 with
      | (sq, l3, f3) => match rB l3 f3 with
        | (dt, l4, f4) => match rN l4 f4 with
          | (ht, l5, f5) => match rN l5 f5 with
            | (tm, l6, f6) => if rEnd l6 f6 = 0 then some ⟨⟨sa.toArray⟩, ⟨sb.toArray⟩, sq, dt, ht, tm⟩ else Option.none
theorem rN_ltP (l : List UInt8) (f : Int) : (rN l f).1 < 18446744073709551616 := by
  unfold rN
  split
  · show 0 < _; omega
  · split
    · show 0 < _; omega
    · have := beVal_lt8 (l.take 8) 8 (by simp; omega)
      show beVal (l.take 8) < _
      omega
end Go.Proofs.YtmphegeiclgjbaaGreatDoor
namespace Go.Proofs.YtmphegeiclgjbaaGreatDoor
set_option maxRecDepth 100000
open Go Go.RowKit
set_option linter.unusedVariables false

def encS (s : ByteArray) : List UInt8 := encB (strBytes s)
theorem encB_lenP (m : List UInt8) : (encB m).length ≤ 65539 := by
  unfold encB
  simp [be_length]
  omega
theorem TS0 (v : Value) (s : ByteArray) (l : List UInt8) (Z : World) (hr : Rd Z Z.heap.size v l) (hs : s.size ≤ maxLen) (hl : l.length ≤ 140737488355328 - 65539) :
    Calls Tryz.prog 82 #[v, .string s] Z fun e w' => ∃ v', e = .returned v' ∧ Own w' Z.heap.size v' (l ++ encS s) ∧ Below Z.heap.size Z w' :=
  (T_any v s l Z hr hs hl).mono fun e w' ⟨v', h1, h2, h3⟩ => ⟨v', h1, by rw [List.append_assoc] at h2; exact h2, h3⟩
theorem BS0 (v x : Value) (l m : List UInt8) (Z : World) (hr : Rd Z Z.heap.size v l) (hx : Rd Z Z.heap.size x m) (hl : l.length ≤ 140737488355328 - 65539) :
    Calls Tryz.prog 106 #[v, x] Z fun e w' => ∃ v', e = .returned v' ∧ Own w' Z.heap.size v' (l ++ encB m) ∧ Below Z.heap.size Z w' :=
  (B_any v x l m Z hr hx hl).mono fun e w' ⟨v', h1, h2, h3⟩ => ⟨v', h1, by rw [List.append_assoc] at h2; exact h2, h3⟩
/-- a packet's bytes -/
def pktB (p : PktV) : List UInt8 := ((((encS p.src ++ encS p.dst) ++ be p.seq 8) ++ encB p.data) ++ be p.ht 8) ++ be p.tm 8
def chanP : ByteArray := ⟨#[105, 98, 99, 47, 99, 104, 97, 110, 47]⟩
end Go.Proofs.YtmphegeiclgjbaaGreatDoor
namespace Go.Proofs.YtmphegeiclgjbaaGreatDoor
set_option maxRecDepth 100000
open Go Go.RowKit
set_option linter.unusedVariables false

/-! ### a store of any pile behind calls -/
theorem SeenL.putX {y : Lyr} {l : List Lyr} {R : List Pr} (h : SeenL ⟨#[]⟩ (y :: l) R) {key : ByteArray} (hk : key.size ≤ maxLen) (v : List UInt8) : SeenL ⟨#[]⟩ (y.put key (some v) :: l) (putL (key, some v) R) where
  rise := h.rise.put _
  small := fun p hp => by
    rcases List.mem_append.1 ((putL_perm key _ R).mem_iff.1 hp) with hp | hp
    · rw [List.mem_singleton.1 hp]; exact hk
    · exact h.small p (List.mem_filter.1 hp).1
  get := fun s hs => by
    have h0 := h.get s hs
    rw [begB_empty, if_pos rfl] at h0 ⊢
    rw [getL_putL]
    unfold visV at h0 ⊢
    rw [visD_cons] at h0 ⊢
    have hv : (y.put key (some v)).f s = if s = key then some (some v) else y.f s := rfl
    rw [hv]
    by_cases e : s = key
    · rw [if_pos e, if_pos e]; rfl
    · rw [if_neg e, if_neg e]; exact h0
theorem PileS.okDX {w : World} {l : List Lyr} (h : PileS w l) {s : ByteArray} {x : List UInt8} (e : visD l s = some (some x)) : keyB s = true ∧ x.length ≤ 65535 := by
  induction l with
  | nil => cases e
  | cons y l ih =>
    rw [visD_cons] at e
    cases hy : y.f s with
    | none => rw [hy] at e; exact ih h.2.2 e
    | some z =>
      rw [hy] at e
      exact h.1.ok s x (by rw [hy]; exact e)
/-- what is kept where the key and the value fit -/
def setL (key : ByteArray) (val : List UInt8) (R : List Pr) : List Pr := if pairB (key, val) = true then putL (key, some val) R else R
/-- a store over a pile, made at W: R is seen of it at W' -/
structure At (W : World) (y : Lyr) (l : List Lyr) (R : List Pr) (k : Nat) (W' : World) : Prop where
  b : BankS W y l R k W'
  p : PileS W (y :: l)
section
variable {W W' W2 : World} {y : Lyr} {l : List Lyr} {R R2 : List Pr} {k : Nat} {B : Nat}
theorem At.kept (h : At W y l R k W') : Kept W W' := by
  obtain ⟨n, f, -, -, -, h4⟩ := h.b
  exact ⟨_, h4, h.p.1.maps⟩
theorem At.below (h : At W y l R k W') (hB : B ≤ y.m) (hW : B ≤ W.heap.size) : Below B W W' := by
  obtain ⟨n, f, -, -, -, h4⟩ := h.b
  exact h4.below (fun k e => by rw [e]; exact hB) hW
theorem At.up (h : At W y l R k W') (hb : Below W'.heap.size W' W2) : At W y l R k W2 := ⟨h.b.up hb (Nat.le_refl k), h.p⟩
theorem At.more {k' : Nat} (h : At W y l R k W') (hk : k ≤ k') : At W y l R k' W' := ⟨h.b.up (Below.refl _ _) hk, h.p⟩
theorem At.made {ps : List Pr} (h : PileS W [y]) (hl : LyrIs ps y) (hr : Rise ps) (hs : ∀ p ∈ ps, p.1.size ≤ maxLen) : At W y [] ps 0 W := ⟨BankS.refl h ⟨hr, hs, fun s _ => by
  rw [begB_empty, if_pos rfl]
  unfold visV
  rw [visD_cons, hl s]
  cases getL ps s <;> rfl⟩, h⟩
theorem At.get (h : At W y l R k W') (key : ByteArray) (hk : key.size ≤ maxLen) :
    Calls Tryz.prog 31 #[.pointer (some ⟨y.b, 0, none⟩), .string key] W' fun e w' => ∃ v, e = .returned (.tuple #[v, .bool (getL R key).isSome]) ∧ Own w' W'.heap.size v ((getL R key).getD []) ∧ Below W'.heap.size W' w' := by
  obtain ⟨n, f, h1, h2, h3, h4⟩ := h.b
  have e := h2.get key hk
  rw [begB_empty, if_pos rfl] at e
  rw [e]
  exact get_any h1 key hk
theorem At.fits (h : At W y l R k W') {key : ByteArray} {v : List UInt8} (e : getL R key = some v) : keyB key = true ∧ v.length ≤ 65535 := by
  obtain ⟨n, f, h1, h2, h3, h4⟩ := h.b
  have hs := h2.small _ (getL_mem e)
  have e2 := h2.get key hs
  rw [begB_empty, if_pos rfl, e] at e2
  unfold visV at e2
  cases hd : visD (⟨y.b, y.m, n, f⟩ :: l) key with
  | none => rw [hd] at e2; cases e2
  | some z => rw [hd] at e2; exact h1.okDX (hd.trans (congrArg some e2.symm))
theorem At.set (h : At W y l R k W') (hn : y.n + k < maxLen) (key : ByteArray) (hk : key.size ≤ maxLen) (v : Value) (val : List UInt8) (hr : Rd W' W'.heap.size v val) :
    Calls Tryz.prog 93 #[.pointer (some ⟨y.b, 0, none⟩), .string key, v] W' fun e w' => e = .returned (.int .i64 (if pairB (key, val) = true then 0 else 60)) ∧ At W y l (setL key val R) (k + 1) w' ∧ Kept W' w' := by
  obtain ⟨n, f, h1, h2, h3, h4⟩ := h.b
  refine (set_any h1 (show n < maxLen by omega) key hk v val hr).mono ?_
  rintro e w' ⟨he, ⟨hp, rfl⟩ | ⟨hp, hq, hc⟩⟩
  · refine ⟨he, ?_, Kept.refl _⟩
    unfold setL
    rw [if_neg (by simp [hp])]
    exact h.more (by omega)
  · refine ⟨he, ?_, ⟨_, hc, h1.1.maps⟩⟩
    unfold setL
    rw [if_pos hp]
    exact ⟨⟨n + 1, _, hq, h2.putX hk val, by omega, h4.trans' hc⟩, h.p⟩
end

theorem Kept.of_belowX {w w' : World} (h : Below w.heap.size w w') : Kept w w' := ⟨fun _ => False, Chg.of_below h _, fun _ k => k.elim⟩
theorem Kept.transX {w w1 w2 : World} (h : Kept w w1) (k : Kept w1 w2) : Kept w w2 := by
  obtain ⟨F, h1, h2⟩ := h
  obtain ⟨G, k1, k2⟩ := k
  have hm : ∀ q, G q → q < w.heap.size → ¬ F q → ∃ es c, w.heap[q]? = some (.map es c) := fun q hq hl hn => by
    obtain ⟨es, c, e⟩ := k2 q hq
    exact ⟨es, c, (h1.block q hl hn).symm.trans e⟩
  refine ⟨fun q => q < w.heap.size ∧ (F q ∨ G q), ⟨k1.os.trans h1.os, k1.tape.trans h1.tape, k1.output.trans h1.output, Nat.le_trans h1.size k1.size, fun q hq hn => ?_⟩, fun q hq => ?_⟩
  · have hF : ¬ F q := fun e => hn ⟨hq, Or.inl e⟩
    have hG : ¬ G q := fun e => hn ⟨hq, Or.inr e⟩
    exact (k1.block q (Nat.lt_of_lt_of_le hq h1.size) hG).trans (h1.block q hq hF)
  · obtain ⟨hl, hq⟩ := hq
    by_cases hF : F q
    · exact h2 q hF
    · exact hm q (hq.resolve_left hF) hl hF

/-! ### what is kept -/
def cliP : ByteArray := ⟨#[105, 98, 99, 47, 99, 108, 105, 101, 110, 116, 47]⟩
def consP : ByteArray := ⟨#[105, 98, 99, 47, 99, 111, 110, 115, 47]⟩
def numP : ByteArray := ⟨#[105, 98, 99, 47, 110, 47]⟩
def connP : ByteArray := ⟨#[105, 98, 99, 47, 99, 111, 110, 110, 47]⟩
def nextP : ByteArray := ⟨#[105, 98, 99, 47, 110, 101, 120, 116, 47]⟩
def recvP : ByteArray := ⟨#[105, 98, 99, 47, 114, 101, 99, 118, 47]⟩
def ackedP : ByteArray := ⟨#[105, 98, 99, 47, 97, 99, 107, 101, 100, 47]⟩
def kCli (a : ByteArray) : ByteArray := cliP ++ a
def kCons (a : ByteArray) (n : Nat) : ByteArray := ((consP ++ a) ++ slB) ++ hexN n
def kNum (a : ByteArray) : ByteArray := numP ++ a
def kConn (a : ByteArray) : ByteArray := connP ++ a
def kChn (a : ByteArray) : ByteArray := chanP ++ a
theorem kCli_size (a : ByteArray) : (kCli a).size = a.size + 11 := by
  have : cliP.size = 11 := by decide +kernel
  unfold kCli; rw [ByteArray.size_append]; omega
theorem kNum_size (a : ByteArray) : (kNum a).size = a.size + 6 := by
  have : numP.size = 6 := by decide +kernel
  unfold kNum; rw [ByteArray.size_append]; omega
theorem kConn_size (a : ByteArray) : (kConn a).size = a.size + 9 := by
  have : connP.size = 9 := by decide +kernel
  unfold kConn; rw [ByteArray.size_append]; omega
theorem kCons_size (a : ByteArray) (n : Nat) : (kCons a n).size = a.size + 26 := by
  have h1 : consP.size = 9 := by decide +kernel
  have h2 : slB.size = 1 := by decide +kernel
  have h3 := hexN_size n
  unfold kCons; simp only [ByteArray.size_append]; omega

/-- a client -/
structure ClV where
  ch : ByteArray
  la : Nat
  pe : Nat
  fr : Bool
def ClV.none : ClV := ⟨⟨#[]⟩, 0, 0, false⟩
def ClV.val (v : ClV) : Value := .agg #[.string v.ch, .int .u64 (v.la : Int), .int .u64 (v.pe : Int), .bool v.fr]
def ClV.ok (v : ClV) : Prop := v.ch.size ≤ 65535 ∧ v.la < 18446744073709551616 ∧ v.pe < 18446744073709551616
def clB (v : ClV) : List UInt8 := ((encS v.ch ++ be v.la 8) ++ be v.pe 8) ++ [fb v.fr]
def readCl (l : List UInt8) : Option ClV :=
  match rB l 0 with
  | (a, l1, f1) => match rN l1 f1 with
    | (b, l2, f2) => match rN l2 f2 with
      | (c, l3, f3) => match rF l3 f3 with
        | (d, l4, f4) => if rEnd l4 f4 = 0 then some ⟨⟨a.toArray⟩, b, c, d⟩ else Option.none
def clV : Option ClV → Value
  | some v => .tuple #[v.val, .bool true]
  | Option.none => .tuple #[ClV.none.val, .bool false]
def getCl (R : List Pr) (id : ByteArray) : Option ClV := if identB id = true then (getL R (kCli id)).bind readCl else Option.none

/-- a connection -/
structure CnV where
  st : Nat
  cl : ByteArray
  cc : ByteArray
  ct : ByteArray
def CnV.none : CnV := ⟨0, ⟨#[]⟩, ⟨#[]⟩, ⟨#[]⟩⟩
def CnV.val (v : CnV) : Value := .agg #[.int .u64 (v.st : Int), .string v.cl, .string v.cc, .string v.ct]
def cnB (v : CnV) : List UInt8 := ((be v.st 8 ++ encS v.cl) ++ encS v.cc) ++ encS v.ct
def readCn (l : List UInt8) : Option CnV :=
  match rN l 0 with
  | (a, l1, f1) => match rB l1 f1 with
    | (b, l2, f2) => match rB l2 f2 with
      | (c, l3, f3) => match rB l3 f3 with
        | (d, l4, f4) => if rEnd l4 f4 = 0 then some ⟨a, ⟨b.toArray⟩, ⟨c.toArray⟩, ⟨d.toArray⟩⟩ else Option.none
def cnV : Option CnV → Value
  | some v => .tuple #[v.val, .bool true]
  | Option.none => .tuple #[CnV.none.val, .bool false]
def getCn (R : List Pr) (id : ByteArray) : Option CnV := if identB id = true then (getL R (kConn id)).bind readCn else Option.none

/-- a channel -/
structure ChV where
  st : Nat
  od : Bool
  po : ByteArray
  cp : ByteArray
  cn : ByteArray
  cc : ByteArray
  ve : ByteArray
def ChV.none : ChV := ⟨0, false, ⟨#[]⟩, ⟨#[]⟩, ⟨#[]⟩, ⟨#[]⟩, ⟨#[]⟩⟩
def ChV.val (v : ChV) : Value := .agg #[.int .u64 (v.st : Int), .bool v.od, .string v.po, .string v.cp, .string v.cn, .string v.cc, .string v.ve]
def chB (v : ChV) : List UInt8 := (((((be v.st 8 ++ [fb v.od]) ++ encS v.po) ++ encS v.cp) ++ encS v.cn) ++ encS v.cc) ++ encS v.ve
def readCh (l : List UInt8) : Option ChV :=
  match rN l 0 with
  | (a, l1, f1) => match rF l1 f1 with
    | (b, l2, f2) => match rB l2 f2 with
      | (c, l3, f3) => match rB l3 f3 with
        | (d, l4, f4) => match rB l4 f4 with
          | (e, l5, f5) => match rB l5 f5 with
            | (f, l6, f6) => match rB l6 f6 with
              | (g, l7, f7) => if rEnd l7 f7 = 0 then some ⟨a, b, ⟨c.toArray⟩, ⟨d.toArray⟩, ⟨e.toArray⟩, ⟨f.toArray⟩, ⟨g.toArray⟩⟩ else Option.none
def chV : Option ChV → Value
  | some v => .tuple #[v.val, .bool true]
  | Option.none => .tuple #[ChV.none.val, .bool false]
def getCh (R : List Pr) (id : ByteArray) : Option ChV := if identB id = true then (getL R (kChn id)).bind readCh else Option.none

/-- what is trusted of a height -/
structure CsV where
  tm : Nat
  rt : List UInt8
  nx : List UInt8
def csB (v : CsV) : List UInt8 := (be v.tm 8 ++ encB v.rt) ++ encB v.nx
def readCs (l : List UInt8) : Option CsV :=
  match rN l 0 with
  | (a, l1, f1) => match rB l1 f1 with
    | (b, l2, f2) => match rB l2 f2 with
      | (c, l3, f3) => if rEnd l3 f3 = 0 then some ⟨a, b, c⟩ else Option.none
def getCs (R : List Pr) (id : ByteArray) (n : Nat) : Option CsV := if identB id = true then (getL R (kCons id n)).bind readCs else Option.none
end Go.Proofs.YtmphegeiclgjbaaGreatDoor
namespace Go.Proofs.YtmphegeiclgjbaaGreatDoor
set_option maxRecDepth 100000
open Go Go.RowKit
set_option linter.unusedVariables false

end Go.Proofs.YtmphegeiclgjbaaGreatDoor
namespace Go.Proofs.YtmphegeiclgjbaaGreatDoor
set_option maxRecDepth 100000
open Go Go.RowKit
set_option linter.unusedVariables false

theorem cnkey_any (a : ByteArray) (w : World) (ha : a.size ≤ 100000000) : Calls Tryz.prog 34 #[.string a] w fun e w' => e = .returned (.string (kConn a)) ∧ w = w' := by
  have s1 : connP.size = 9 := rfl
  have h1 := fun W => txt_add connP a (by rw [s1]; omega) W
  unfold kConn
  unfold connP at *
  go_enter Tryz.func34, Tryz.ntmps34
  go_wp2
  go_ret
  exact ⟨rfl, rfl⟩
set_option maxHeartbeats 8000000 in
theorem cnget_any {W w : World} {y : Lyr} {l : List Lyr} {R : List Pr} {k : Nat} (h : At W y l R k w) (a : ByteArray) (ha : a.size ≤ 100000000) :
    Calls Tryz.prog 33 #[.pointer (some ⟨y.b, 0, none⟩), .string a] w fun e w' => e = .returned (cnV (getCn R a)) ∧ Below w.heap.size w w' := by
  have HG := Lib.hid (fun (Z : World) (hz : Below w.heap.size w Z) => (h.up hz).get (kConn a) (by rw [kConn_size]; unfold maxLen; omega))
  have HFT : Hid (∀ v, getL R (kConn a) = some v → v.length ≤ 2000000) := Lib.hid (fun v e => Nat.le_trans (h.fits (key := kConn a) (v := v) e).2 (by decide))
  obtain ⟨B, hB⟩ : ∃ B : Addr, B = ⟨y.b, 0, none⟩ := ⟨_, rfl⟩
  rw [← hB] at HG ⊢
  clear hB h
  have HK := Lib.hid (fun W => (cnkey_any a W ha).mono fun e w' ⟨h1, h2⟩ => (⟨h1, h2.symm⟩ : _ ∧ w' = W))
  have HI : Hid (∀ Z : World, Calls Tryz.prog 49 #[.string a] Z fun e w' => e = .returned (.bool (identB a)) ∧ Z = w') := Lib.hid fun Z => ident_any a Z (by unfold maxLen; omega)
  obtain ⟨V, hV⟩ : ∃ V, V = cnV (getCn R a) := ⟨_, rfl⟩
  rw [← hV]
  unfold getCn at hV
  generalize getL R (kConn a) = o at *
  generalize kConn a = key at *
  generalize identB a = bi at *
  have hk0 := heap_alloc_new w (.cells #[.int .u64 0, .string ⟨#[]⟩, .string ⟨#[]⟩, .string ⟨#[]⟩] 78)
  have ha0 : Below w.heap.size w (w.alloc (.cells #[.int .u64 0, .string ⟨#[]⟩, .string ⟨#[]⟩, .string ⟨#[]⟩] 78)) := (Below.refl _ _).alloc (Nat.le_refl _) _
  go_enter Tryz.func33, Tryz.ntmps33
  go_wp2_with fail
  generalize w.alloc (.cells #[.int .u64 0, .string ⟨#[]⟩, .string ⟨#[]⟩, .string ⟨#[]⟩] 78) = w0 at *
  refine (HK.out _).mono ?_
  rintro e w9 ⟨rfl, rfl⟩
  go_wp2_with fail
  refine (HG.out _ ha0).mono ?_
  rintro e w1 ⟨v, rfl, hov, hb1⟩
  have hq1 := below_chain ha0 ha0.size hb1
  have hk1 := (hb1.block _ (blk_lt hk0)).trans hk0
  have hl0 := blk_lt hk0
  obtain ⟨gr, hgr⟩ : ∃ gr, gr = w.heap.size := ⟨_, rfl⟩
  rw [← hgr] at hk1
  clear HG HK ha0 hk0 hb1
  cases o with
  | none =>
    have hv : V = .tuple #[CnV.none.val, .bool false] := by rw [hV]; cases bi <;> rfl
    obtain ⟨A, c, rfl⟩ := hov.form
    have r0 := blk_cell hk1 0
    have q0 := blk_free hk1 0
    have r1 := blk_cell hk1 1
    have q1 := blk_free hk1 1
    have r2 := blk_cell hk1 2
    have q2 := blk_free hk1 2
    have r3 := blk_cell hk1 3
    have q3 := blk_free hk1 3
    clear hov HFT hV HI
    subst hgr
    have hk7 := set4P hk1 (.int .u64 0) (.string ⟨#[]⟩) (.string ⟨#[]⟩) (.string ⟨#[]⟩)
    have hb7 := below_set4P hq1 (Nat.le_refl _) (.int .u64 0) (.string ⟨#[]⟩) (.string ⟨#[]⟩) (.string ⟨#[]⟩)
    have HD := Lib.hid (And.intro (blk_cell hk7 0) (And.intro (blk_cell hk7 1) (And.intro (blk_cell hk7 2) (blk_cell hk7 3))))
    have HVV := Lib.hid hv
    clear hk7 hv
    go_wp2_with fail
    obtain ⟨d0, d1, d2, d3⟩ := HD.out
    refine bodyPost_ret (v := V) ?_ rfl ⟨rfl, hb7⟩
    rw [HVV.out]
    simp at d0 d1 d2 d3
    simp [results, Tryz.results33, go_sem, d0, d1, d2, d3, CnV.val, CnV.none]
  | some l =>
    have hll := HFT.out l rfl
    have HO := Lib.hid (open_rd v l w1 hov.rd (by omega))
    obtain ⟨A, c, rfl⟩ := hov.form
    clear hov HFT
    go_wp2_with fail
    refine (HI.out _).mono ?_
    rintro e w9 ⟨rfl, rfl⟩
    clear HI
    cases bi with
    | false =>
      have hv : V = .tuple #[CnV.none.val, .bool false] := by rw [hV]; rfl
      have r0 := blk_cell hk1 0
      have q0 := blk_free hk1 0
      have r1 := blk_cell hk1 1
      have q1 := blk_free hk1 1
      have r2 := blk_cell hk1 2
      have q2 := blk_free hk1 2
      have r3 := blk_cell hk1 3
      have q3 := blk_free hk1 3
      clear hV HO
      subst hgr
      have hk7 := set4P hk1 (.int .u64 0) (.string ⟨#[]⟩) (.string ⟨#[]⟩) (.string ⟨#[]⟩)
      have hb7 := below_set4P hq1 (Nat.le_refl _) (.int .u64 0) (.string ⟨#[]⟩) (.string ⟨#[]⟩) (.string ⟨#[]⟩)
      have HD := Lib.hid (And.intro (blk_cell hk7 0) (And.intro (blk_cell hk7 1) (And.intro (blk_cell hk7 2) (blk_cell hk7 3))))
      have HVV := Lib.hid hv
      clear hk7 hv
      go_wp2_with fail
      obtain ⟨d0, d1, d2, d3⟩ := HD.out
      refine bodyPost_ret (v := V) ?_ rfl ⟨rfl, hb7⟩
      rw [HVV.out]
      simp at d0 d1 d2 d3
      simp [results, Tryz.results33, go_sem, d0, d1, d2, d3, CnV.val, CnV.none]
    | true =>
      have HV := Lib.hid (show V = cnV (readCn l) from hV)
      unfold cnV readCn at HV
      clear hV
      go_wp2_with fail
      refine HO.out.mono ?_
      rintro e w2 ⟨g, rfl, hr2, hb2⟩
      have hq2 := below_chain hq1 hq1.size hb2
      have hk2 := (hb2.block _ (blk_lt hk1)).trans hk1
      have hgl := hr2.lt
      have hlo := blk_lt hk1
      generalize w1.heap.size = lo at *
      clear HO hb2 hk1 hq1
      have hgi := hr2.from_
      obtain ⟨gd, hgd⟩ : ∃ gd, gd = w2.heap.size := ⟨_, rfl⟩
      have P1 : PZ 144 w gr gd lo g 78 78 #[.int .u64 0, .string ⟨#[]⟩, .string ⟨#[]⟩, .string ⟨#[]⟩] #[.int .u64 0, .string ⟨#[]⟩, .string ⟨#[]⟩, .string ⟨#[]⟩] l 0 (w2.alloc (.cells #[.int .u64 0, .string ⟨#[]⟩, .string ⟨#[]⟩, .string ⟨#[]⟩] 78)) :=
        ⟨hq2.alloc hq2.size _, by omega, by have := hq2.size; omega, (Below.heap_alloc w2 _ _ (blk_lt hk2)).trans hk2, by rw [hgd]; exact heap_alloc_new w2 _, hr2.below ((Below.refl _ _).alloc (Nat.le_refl _) _), by omega, by omega⟩
      clear hq2 hk2 hr2 hgl hlo hgi
      go_wp2_with fail
      rw [← hgd]
      generalize w2.alloc (.cells #[.int .u64 0, .string ⟨#[]⟩, .string ⟨#[]⟩, .string ⟨#[]⟩] 78) = wz at *
      clear hgd
      refine (rN_any P1.rd).mono ?_
      rintro e wa1 ⟨rfl, hr, hg⟩
      replace P1 := P1.call hg hr
      clear hr hg
      have b_xa := rN_ltP l 0
      generalize rN l 0 = Q at *
      obtain ⟨xa, l_xa, f_xa⟩ := Q
      dsimp only at P1 HV b_xa ⊢
      have z0 := blk_cell P1.loc 0
      have f0 := blk_free P1.loc 0
      have P2 : PZ 144 w gr gd lo g _ 78 _ #[.int .u64 (xa : Int), .string ⟨#[]⟩, .string ⟨#[]⟩, .string ⟨#[]⟩] l_xa f_xa ((wa1).setCell ⟨gd, 0, none⟩ (.int .u64 (xa : Int))) := (P1.set 0 (.int .u64 (xa : Int)))
      clear P1
      go_wp2_with fail
      generalize (wa1).setCell ⟨gd, 0, none⟩ (.int .u64 (xa : Int)) = wb1 at *
      refine (rdT_any P2.rd).mono ?_
      rintro e wa2 ⟨rfl, hr, hg⟩
      replace P2 := P2.call hg hr
      clear hr hg
      have b_xb := rB_le l_xa f_xa
      generalize rB l_xa f_xa = Q at *
      obtain ⟨xb, l_xb, f_xb⟩ := Q
      dsimp only at P2 HV b_xb ⊢
      have z0 := blk_cell P2.loc 1
      have f0 := blk_free P2.loc 1
      have P3 : PZ 144 w gr gd lo g _ 78 _ #[.int .u64 (xa : Int), .string ⟨xb.toArray⟩, .string ⟨#[]⟩, .string ⟨#[]⟩] l_xb f_xb ((wa2).setCell ⟨gd, 1, none⟩ (.string ⟨xb.toArray⟩)) := (P2.set 1 (.string ⟨xb.toArray⟩))
      clear P2
      go_wp2_with fail
      generalize (wa2).setCell ⟨gd, 1, none⟩ (.string ⟨xb.toArray⟩) = wb2 at *
      refine (rdT_any P3.rd).mono ?_
      rintro e wa3 ⟨rfl, hr, hg⟩
      replace P3 := P3.call hg hr
      clear hr hg
      have b_xc := rB_le l_xb f_xb
      generalize rB l_xb f_xb = Q at *
      obtain ⟨xc, l_xc, f_xc⟩ := Q
      dsimp only at P3 HV b_xc ⊢
      have z0 := blk_cell P3.loc 2
      have f0 := blk_free P3.loc 2
      have P4 : PZ 144 w gr gd lo g _ 78 _ #[.int .u64 (xa : Int), .string ⟨xb.toArray⟩, .string ⟨xc.toArray⟩, .string ⟨#[]⟩] l_xc f_xc ((wa3).setCell ⟨gd, 2, none⟩ (.string ⟨xc.toArray⟩)) := (P3.set 2 (.string ⟨xc.toArray⟩))
      clear P3
      go_wp2_with fail
      generalize (wa3).setCell ⟨gd, 2, none⟩ (.string ⟨xc.toArray⟩) = wb3 at *
      refine (rdT_any P4.rd).mono ?_
      rintro e wa4 ⟨rfl, hr, hg⟩
      replace P4 := P4.call hg hr
      clear hr hg
      have b_xd := rB_le l_xc f_xc
      generalize rB l_xc f_xc = Q at *
      obtain ⟨xd, l_xd, f_xd⟩ := Q
      dsimp only at P4 HV b_xd ⊢
      have z0 := blk_cell P4.loc 3
      have f0 := blk_free P4.loc 3
      have P5 : PZ 144 w gr gd lo g _ 78 _ #[.int .u64 (xa : Int), .string ⟨xb.toArray⟩, .string ⟨xc.toArray⟩, .string ⟨xd.toArray⟩] l_xd f_xd ((wa4).setCell ⟨gd, 3, none⟩ (.string ⟨xd.toArray⟩)) := (P4.set 3 (.string ⟨xd.toArray⟩))
      clear P4
      go_wp2_with fail
      generalize (wa4).setCell ⟨gd, 3, none⟩ (.string ⟨xd.toArray⟩) = wb4 at *
      refine (rdEnd_any P5.rd).mono ?_
      rintro e w7 ⟨rfl, rfl⟩
      generalize rEnd l_xd f_xd = E at *
      subst hgr
      by_cases hE : E = 0
      · subst hE
        have hv := HV.out
        rw [if_pos rfl] at hv
        (try dsimp only at hv)
        clear HV
        have r0 := blk_cell P5.res 0
        have q0 := blk_free P5.res 0
        have r1 := blk_cell P5.res 1
        have q1 := blk_free P5.res 1
        have r2 := blk_cell P5.res 2
        have q2 := blk_free P5.res 2
        have r3 := blk_cell P5.res 3
        have q3 := blk_free P5.res 3
        have s0 := blk_cell P5.loc 0
        have s1 := blk_cell P5.loc 1
        have s2 := blk_cell P5.loc 2
        have s3 := blk_cell P5.loc 3
        have hk7 := set4P P5.res (.int .u64 (xa : Int)) (.string ⟨xb.toArray⟩) (.string ⟨xc.toArray⟩) (.string ⟨xd.toArray⟩)
        have hb7 := below_set4P P5.below P5.hr (.int .u64 (xa : Int)) (.string ⟨xb.toArray⟩) (.string ⟨xc.toArray⟩) (.string ⟨xd.toArray⟩)
        have HD := Lib.hid (And.intro (blk_cell hk7 0) (And.intro (blk_cell hk7 1) (And.intro (blk_cell hk7 2) (blk_cell hk7 3))))
        have HVV := Lib.hid hv
        clear hk7 hv
        go_wp2_with fail
        obtain ⟨d0, d1, d2, d3⟩ := HD.out
        refine bodyPost_ret (v := V) ?_ rfl ⟨rfl, hb7⟩
        rw [HVV.out]
        simp at d0 d1 d2 d3
        simp [results, Tryz.results33, go_sem, d0, d1, d2, d3, CnV.val, CnV.none]
      · have hne : (E != 0) = true := by simpa using hE
        have hv := HV.out
        rw [if_neg hE] at hv
        (try dsimp only at hv)
        clear HV
        have r0 := blk_cell P5.res 0
        have q0 := blk_free P5.res 0
        have r1 := blk_cell P5.res 1
        have q1 := blk_free P5.res 1
        have r2 := blk_cell P5.res 2
        have q2 := blk_free P5.res 2
        have r3 := blk_cell P5.res 3
        have q3 := blk_free P5.res 3
        have hk7 := set4P P5.res (.int .u64 0) (.string ⟨#[]⟩) (.string ⟨#[]⟩) (.string ⟨#[]⟩)
        have hb7 := below_set4P P5.below P5.hr (.int .u64 0) (.string ⟨#[]⟩) (.string ⟨#[]⟩) (.string ⟨#[]⟩)
        have HD := Lib.hid (And.intro (blk_cell hk7 0) (And.intro (blk_cell hk7 1) (And.intro (blk_cell hk7 2) (blk_cell hk7 3))))
        have HVV := Lib.hid hv
        clear hk7 hv
        go_wp2_with fail
        obtain ⟨d0, d1, d2, d3⟩ := HD.out
        refine bodyPost_ret (v := V) ?_ rfl ⟨rfl, hb7⟩
        rw [HVV.out]
        simp at d0 d1 d2 d3
        simp [results, Tryz.results33, go_sem, d0, d1, d2, d3, CnV.val, CnV.none]
end Go.Proofs.YtmphegeiclgjbaaGreatDoor
namespace Go.Proofs.YtmphegeiclgjbaaGreatDoor
set_option maxRecDepth 100000
open Go Go.RowKit
set_option linter.unusedVariables false

set_option maxHeartbeats 8000000 in
theorem cnbytes_any (c : CnV) (w : World) (h_st : c.st < 18446744073709551616) (h_cl : c.cl.size ≤ maxLen) (h_cc : c.cc.size ≤ maxLen) (h_ct : c.ct.size ≤ maxLen) :
    Calls Tryz.prog 35 #[c.val] w fun e w' => ∃ v', e = .returned v' ∧ Own w' w.heap.size v' (cnB c) ∧ Below w.heap.size w w' := by
  obtain ⟨st, cl, cc, ct⟩ := c
  dsimp only at h_st h_cl h_cc h_ct
  unfold CnV.val cnB
  dsimp only
  have hbox := heap_alloc_new w (.cells #[.int .u64 (st : Int), .string cl, .string cc, .string ct] 78)
  have ha0 : Below w.heap.size w (w.alloc (.cells #[.int .u64 (st : Int), .string cl, .string cc, .string ct] 78)) := (Below.refl _ _).alloc (Nat.le_refl _) _
  generalize hW0 : w.alloc (.cells #[.int .u64 (st : Int), .string cl, .string cc, .string ct] 78) = W0 at *
  have hgl := blk_lt hbox
  generalize hgg : w.heap.size = g0 at *
  have HC : Hid (∀ Z, Below W0.heap.size W0 Z → Z.cell? ⟨g0, 0, none⟩ = some (.int .u64 (st : Int)) ∧ Z.cell? ⟨g0, 1, none⟩ = some (.string cl) ∧ Z.cell? ⟨g0, 2, none⟩ = some (.string cc) ∧ Z.cell? ⟨g0, 3, none⟩ = some (.string ct)) := Lib.hid fun Z hz => ⟨blk_cell ((hz.block _ hgl).trans hbox) 0, blk_cell ((hz.block _ hgl).trans hbox) 1, blk_cell ((hz.block _ hgl).trans hbox) 2, blk_cell ((hz.block _ hgl).trans hbox) 3⟩
  have hkD : Below W0.heap.size W0 W0.drew := Below.drew (Below.refl _ _)
  have l_cl : (encS cl).length ≤ 65539 := encB_lenP (strBytes cl)
  have l_cc : (encS cc).length ≤ 65539 := encB_lenP (strBytes cc)
  have l_ct : (encS ct).length ≤ 65539 := encB_lenP (strBytes ct)
  have H1 : Hid (∀ (Z : World), Calls Tryz.prog 42 #[.slice none 0 0, .int .u64 (st : Int)] Z fun e w' => ∃ v', e = .returned v' ∧ Own w' Z.heap.size v' (be st 8) ∧ Below Z.heap.size Z w') :=
    Lib.hid fun Z => N_any (.slice none 0 0) _ st Z (Rd.nil _ _) h_st (by simp [be_length]; try omega)
  have H2 : Hid (∀ (v : Value) (Z : World) (B : Nat), Own Z B v (be st 8) → Calls Tryz.prog 82 #[v, .string cl] Z fun e w' => ∃ v', e = .returned v' ∧ Own w' Z.heap.size v' (be st 8 ++ encS cl) ∧ Below Z.heap.size Z w') :=
    Lib.hid fun v Z B ho => TS0 v cl _ Z ho.rd h_cl (by simp [be_length]; try omega)
  have H3 : Hid (∀ (v : Value) (Z : World) (B : Nat), Own Z B v (be st 8 ++ encS cl) → Calls Tryz.prog 82 #[v, .string cc] Z fun e w' => ∃ v', e = .returned v' ∧ Own w' Z.heap.size v' ((be st 8 ++ encS cl) ++ encS cc) ∧ Below Z.heap.size Z w') :=
    Lib.hid fun v Z B ho => TS0 v cc _ Z ho.rd h_cc (by simp [be_length]; try omega)
  have H4 : Hid (∀ (v : Value) (Z : World) (B : Nat), Own Z B v ((be st 8 ++ encS cl) ++ encS cc) → Calls Tryz.prog 82 #[v, .string ct] Z fun e w' => ∃ v', e = .returned v' ∧ Own w' Z.heap.size v' (((be st 8 ++ encS cl) ++ encS cc) ++ encS ct) ∧ Below Z.heap.size Z w') :=
    Lib.hid fun v Z B ho => TS0 v ct _ Z ho.rd h_ct (by simp [be_length]; try omega)
  generalize ((be st 8 ++ encS cl) ++ encS cc) ++ encS ct = L4 at *
  generalize (be st 8 ++ encS cl) ++ encS cc = L3 at *
  generalize be st 8 ++ encS cl = L2 at *
  generalize be st 8 = L1 at *
  clear hbox h_st h_cl h_cc h_ct l_cl l_cc l_ct
  go_enter Tryz.func35, Tryz.ntmps35
  go_wp2_with fail
  try rw [hW0]
  clear hW0
  try rw [hgg]
  go_region_held_law (fun Z => Z.cell? ⟨g0, 0, none⟩ = some (.int .u64 (st : Int)) ∧ Z.cell? ⟨g0, 1, none⟩ = some (.string cl) ∧ Z.cell? ⟨g0, 2, none⟩ = some (.string cc) ∧ Z.cell? ⟨g0, 3, none⟩ = some (.string ct))
    (with_reducible first | exact HC.out _ hk4 | exact HC.out _ hk3 | exact HC.out _ hk2 | exact HC.out _ hk1 | exact HC.out _ hkD)
    ((first
      | (go_at_call 42; first
        | (refine (H1.out _).mono ?_; rintro e w1 ⟨v1, rfl, ho1, hb1⟩; have hk1 := below_chain hkD hkD.size hb1))
      | (go_at_call 82; first
        | (refine (H4.out _ _ _ ho3).mono ?_; rintro e w4 ⟨v4, rfl, ho4, hb4⟩; have hk4 := below_chain hk3 hk3.size hb4)
        | (refine (H3.out _ _ _ ho2).mono ?_; rintro e w3 ⟨v3, rfl, ho3, hb3⟩; have hk3 := below_chain hk2 hk2.size hb3)
        | (refine (H2.out _ _ _ ho1).mono ?_; rintro e w2 ⟨v2, rfl, ho2, hb2⟩; have hk2 := below_chain hk1 hk1.size hb2))))
  all_goals
    obtain ⟨A4, c4, rfl⟩ := ho4.form
    go_wp2_with fail
    subst hgg
    have hsF := Nat.le_trans ha0.size hk3.size
    have hfin := below_chain ha0 ha0.size hk4
    go_ret
    exact ⟨_, rfl, ho4.more hsF, hfin⟩
end Go.Proofs.YtmphegeiclgjbaaGreatDoor
namespace Go.Proofs.YtmphegeiclgjbaaGreatDoor
set_option maxRecDepth 100000
open Go Go.RowKit
set_option linter.unusedVariables false

def sTransfer : ByteArray := ⟨#[116, 114, 97, 110, 115, 102, 101, 114]⟩
def sControl : ByteArray := ⟨#[99, 111, 110, 116, 114, 111, 108]⟩
def sHost : ByteArray := ⟨#[104, 111, 115, 116]⟩
def sIcs20 : ByteArray := ⟨#[105, 99, 115, 50, 48]⟩
def sChan : ByteArray := ⟨#[99, 104, 97, 110]⟩
def sConn : ByteArray := ⟨#[99, 111, 110, 110]⟩
def sClient : ByteArray := ⟨#[99, 108, 105, 101, 110, 116]⟩
def dashB : ByteArray := ⟨#[45]⟩
def decB (n : Nat) : ByteArray := ⟨(Lib.decDigits n).toArray⟩
/-- the number of the next identifier of a kind -/
def numN (R : List Pr) (kind : ByteArray) : Nat := (rN ((getL R (kNum kind)).getD []) 0).1
def newID (R : List Pr) (kind : ByteArray) : ByteArray := (kind ++ dashB) ++ decB (numN R kind)
def newR (R : List Pr) (kind : ByteArray) : List Pr := setL (kNum kind) (be ((numN R kind + 1) % 18446744073709551616) 8) R
/-- the error of a channel's ports, order and version -/
def formM (a b : ByteArray) (od : Bool) (ve : ByteArray) : Int :=
  if a = sTransfer ∧ b = sTransfer then (if od = true then 122 else if ve = sIcs20 then 0 else 123)
  else if a = sControl ∧ b = sHost then (if od = true then (if identB ve = true then 0 else 123) else 122) else 121
/-- the error of a connection that is wanted open -/
def openE (R : List Pr) (via : ByteArray) : Int := match getCn R via with
  | none => 110
  | some c => if c.st = 3 then 0 else 111
def madeCh (R : List Pr) (c : ChV) : List Pr :=
  setL (ackedP ++ newID R sChan) (be 1 8) (setL (recvP ++ newID R sChan) (be 1 8) (setL (nextP ++ newID R sChan) (be 1 8) (setL (kChn (newID R sChan)) (chB c) (newR R sChan))))
def beginE (R : List Pr) (via po cp : ByteArray) (od : Bool) (ve : ByteArray) : Int := if openE R via = 0 then formM po cp od ve else openE R via
def beginR (R : List Pr) (via po cp : ByteArray) (od : Bool) (ve : ByteArray) : List Pr := if beginE R via po cp od ve = 0 then madeCh R ⟨1, od, po, cp, via, ⟨#[]⟩, ve⟩ else R
def beginI (R : List Pr) (via po cp : ByteArray) (od : Bool) (ve : ByteArray) : ByteArray := if beginE R via po cp od ve = 0 then newID R sChan else ⟨#[]⟩
end Go.Proofs.YtmphegeiclgjbaaGreatDoor
namespace Go.Proofs.YtmphegeiclgjbaaGreatDoor
set_option maxRecDepth 100000
open Go Go.RowKit
set_option linter.unusedVariables false

def digB : ByteArray := ⟨#[48, 49, 50, 51, 52, 53, 54, 55, 56, 57, 97, 98, 99, 100, 101, 102, 103, 104, 105, 106, 107, 108, 109, 110, 111, 112, 113, 114, 115, 116, 117, 118, 119, 120, 121, 122]⟩
theorem digB_cut : ∀ n : Fin 10, (digB.extract n.val (n.val + 1)) = decB n.val := by decide +kernel
theorem small_dig (n : Nat) (hn : n < 10) (w : World) : Calls Tryz.prog 156 #[.int .i64 (n : Int)] w fun e w' => e = .returned (.string (decB n)) ∧ w = w' := by
  have hsl : ∀ W, (Instr.slice 9 (.string digB) (some (.int .i64 (n : Int))) (some (.int .i64 ((n : Int) + 1))) none).run Tryz.prog W = .ok (.string (decB n)) W := fun W => by
    rw [run_slice_string W 9 digB .i64 .i64 _ _ Tryz.underlying9 (by omega) (by omega) (by rw [show digB.size = 36 from rfl]; omega), show ((n : Int)).toNat = n by omega, show ((n : Int) + 1).toNat = n + 1 by omega]
    rw [digB_cut ⟨n, hn⟩]
  generalize decB n = S at *
  unfold digB at hsl
  go_enter Tryz.func156, Tryz.ntmps156
  go_wp2
  go_ret
  exact ⟨rfl, rfl⟩
theorem fmt_dig (n : Nat) (hn : n < 10) (w : World) : Calls Tryz.prog 131 #[.int .u64 (n : Int), .int .i64 10] w fun e w' => e = .returned (.string (decB n)) ∧ w = w' := by
  have HS := Lib.hid (fun W => small_dig n hn W)
  have hi : ∀ W, Calls Tryz.prog 142 #[.int .u64 (n : Int), .int .i64 10] W fun e w' => e = .returned (.string (decB n)) ∧ W = w' := fun W => by
    generalize decB n = S at *
    go_enter Tryz.func142, Tryz.ntmps142
    go_wp2_with fail
    refine (HS.out _).mono ?_
    rintro e w' ⟨rfl, rfl⟩
    go_wp2_with fail
    go_ret
    exact ⟨rfl, rfl⟩
  have HI := Lib.hid hi
  clear hi HS
  generalize decB n = S at *
  go_enter Tryz.func131, Tryz.ntmps131
  go_wp2_with fail
  refine (HI.out _).mono ?_
  rintro e w' ⟨rfl, rfl⟩
  go_wp2_with fail
  go_ret
  exact ⟨rfl, rfl⟩
end Go.Proofs.YtmphegeiclgjbaaGreatDoor
namespace Go.Proofs.YtmphegeiclgjbaaGreatDoor
set_option maxRecDepth 100000
open Go Go.RowKit
set_option linter.unusedVariables false

theorem dash_size : dashB.size = 1 := rfl
set_option maxHeartbeats 4000000 in
theorem newid_gen {W w : World} {y : Lyr} {l : List Lyr} {R : List Pr} {k : Nat} (h : At W y l R k w) (hn : y.n + k < maxLen) (kind : ByteArray) (hk : kind.size ≤ 1000) (hd : (decB (numN R kind)).size ≤ 1000)
    (hf : ∀ Z, Kept w Z → Calls Tryz.prog 131 #[.int .u64 (numN R kind : Int), .int .i64 10] Z fun e w' => e = .returned (.string (decB (numN R kind))) ∧ Below Z.heap.size Z w') :
    Calls Tryz.prog 96 #[.pointer (some ⟨y.b, 0, none⟩), .string kind] w fun e w' => e = .returned (.string (newID R kind)) ∧ At W y l (newR R kind) (k + 1) w' ∧ Kept w w' := by
  have s1 : numP.size = 6 := rfl
  have z1 := kNum_size kind
  have hc1 := fun Z => txt_add numP kind (by rw [s1]; omega) Z
  have HG := Lib.hid (h.get (kNum kind) (by rw [z1]; unfold maxLen; omega))
  have HL : ((getL R (kNum kind)).getD []).length ≤ 65535 := by
    cases e : getL R (kNum kind) with
    | none => simp
    | some v => exact (h.fits e).2
  have hnn : numN R kind < 18446744073709551616 := rN_ltP _ _
  have hc2 := fun Z => txt_add kind dashB (by rw [dash_size]; omega) Z
  have hc3 := fun Z => txt_add (kind ++ dashB) (decB (numN R kind)) (by rw [ByteArray.size_append, dash_size]; omega) Z
  have HS : Hid (∀ (Z : World) (hz : Below w.heap.size w Z) (v : Value) (hr : Rd Z Z.heap.size v (be ((numN R kind + 1) % 18446744073709551616) 8)), Calls Tryz.prog 93 #[.pointer (some ⟨y.b, 0, none⟩), .string (kNum kind), v] Z fun e w' => (∃ c, e = .returned (.int .i64 c)) ∧ At W y l (setL (kNum kind) (be ((numN R kind + 1) % 18446744073709551616) 8) R) (k + 1) w' ∧ Kept Z w') :=
    Lib.hid fun Z hz v hr => ((h.up hz).set hn (kNum kind) (by rw [z1]; unfold maxLen; omega) v _ hr).mono fun e w' ⟨h1, h2, h3⟩ => ⟨⟨_, h1⟩, h2, h3⟩
  have HF := Lib.hid hf
  have hwrap : IntKind.u64.wrap ((numN R kind : Int) + 1) = (((numN R kind + 1) % 18446744073709551616 : Nat) : Int) := by
    unfold IntKind.wrap
    simp [IntKind.bits, IntKind.signed]
  have HN : Hid (∀ Z, Calls Tryz.prog 42 #[.slice none 0 0, .int .u64 (((numN R kind + 1) % 18446744073709551616 : Nat) : Int)] Z fun e w' => ∃ v', e = .returned v' ∧ Own w' Z.heap.size v' (be ((numN R kind + 1) % 18446744073709551616) 8) ∧ Below Z.heap.size Z w') := Lib.hid fun Z => by
    have := N_any (.slice none 0 0) [] ((numN R kind + 1) % 18446744073709551616) Z (Rd.nil _ _) (Nat.mod_lt _ (by decide)) (by simp)
    rwa [List.nil_append] at this
  have hfin : newR R kind = setL (kNum kind) (be ((numN R kind + 1) % 18446744073709551616) 8) R := rfl
  have hidf : newID R kind = (kind ++ dashB) ++ decB (numN R kind) := rfl
  rw [hfin, hidf]
  have hnum : numN R kind = (rN ((getL R (kNum kind)).getD []) 0).1 := rfl
  generalize setL (kNum kind) (be ((numN R kind + 1) % 18446744073709551616) 8) R = R2 at *
  generalize (kind ++ dashB) ++ decB (numN R kind) = IDv at *
  generalize decB (numN R kind) = DV at *
  generalize kind ++ dashB = kd at *
  generalize (numN R kind + 1) % 18446744073709551616 = m at *
  have hpos : kNum kind = numP ++ kind := rfl
  rw [← hpos] at hc1
  generalize kNum kind = key at *
  unfold numP at hc1
  unfold dashB at hc2
  generalize (getL R key).getD [] = L0 at *
  generalize (getL R key).isSome = B0 at *
  generalize numN R kind = n at *
  have HNUM := Lib.hid hnum
  clear hnum hfin hidf hpos hd hnn h hf z1
  go_enter Tryz.func96, Tryz.ntmps96
  go_wp2_with fail
  refine HG.out.mono ?_
  rintro e w1 ⟨v, rfl, hov, hb1⟩
  have HO := Lib.hid (open_rd v L0 w1 hov.rd (by omega))
  obtain ⟨A, c, rfl⟩ := hov.form
  generalize L0.length = n0 at *
  clear hov HG
  go_wp2_with fail
  refine HO.out.mono ?_
  rintro e w2 ⟨g, rfl, hr2, hb2⟩
  have hq2 := below_chain hb1 hb1.size hb2
  have hg := hr2.from_
  have HR := Lib.hid (rN_any hr2)
  rw [← HNUM.out] at HR
  clear HO hr2 hb2
  go_wp2_with fail
  refine HR.out.mono ?_
  rintro e w3 ⟨rfl, -, hg3⟩
  have hq3 := hq2.grown hg3 hq2.size (fun k hk => by injection hk with hk; have := hb1.size; omega)
  clear HR hg3 hg hb1 hq2
  go_wp2_with fail
  refine (HN.out _).mono ?_
  rintro e w4 ⟨v4, rfl, ho4, hb4⟩
  have hq4 := below_chain hq3 hq3.size hb4
  have HS4 := Lib.hid (HS.out _ hq4 v4 ho4.rd)
  obtain ⟨A4, c4, rfl⟩ := ho4.form
  generalize (be m 8).length = n4 at *
  clear ho4 HS HN hb4 hq3
  go_wp2_with fail
  refine HS4.out.mono ?_
  rintro e w5 ⟨⟨c5, rfl⟩, hA5, hk5⟩
  have hkk := (Kept.of_belowX hq4).transX hk5
  have HF5 := Lib.hid (HF.out _ hkk)
  clear HS4 HF
  go_wp2_with fail
  refine HF5.out.mono ?_
  rintro e w6 ⟨rfl, hb6⟩
  go_wp2_with fail
  go_ret
  exact ⟨rfl, hA5.up hb6, hkk.transX (Kept.of_belowX hb6)⟩
theorem decB_size (n : Nat) (hn : n < 10) : (decB n).size = 1 := by
  have : ∀ n : Fin 10, (decB n.val).size = 1 := by decide +kernel
  exact this ⟨n, hn⟩
theorem newid_any {W w : World} {y : Lyr} {l : List Lyr} {R : List Pr} {k : Nat} (h : At W y l R k w) (hn : y.n + k < maxLen) (kind : ByteArray) (hk : kind.size ≤ 1000) (hs : numN R kind < 10) :
    Calls Tryz.prog 96 #[.pointer (some ⟨y.b, 0, none⟩), .string kind] w fun e w' => e = .returned (.string (newID R kind)) ∧ At W y l (newR R kind) (k + 1) w' ∧ Kept w w' :=
  newid_gen h hn kind hk (by rw [decB_size _ hs]; decide) fun Z _ => (fmt_dig _ hs Z).mono fun e w' ⟨h1, h2⟩ => ⟨h1, by rw [← h2]; exact Below.refl _ _⟩

end Go.Proofs.YtmphegeiclgjbaaGreatDoor
namespace Go.Proofs.YtmphegeiclgjbaaGreatDoor
set_option maxRecDepth 100000
open Go Go.RowKit
set_option linter.unusedVariables false

def CnV.cells (v : CnV) : Array Value := #[.int .u64 (v.st : Int), .string v.cl, .string v.cc, .string v.ct]
/-- a connection that is wanted open -/
def openV (R : List Pr) (via : ByteArray) : CnV := if openE R via = 0 then (getCn R via).getD CnV.none else CnV.none
end Go.Proofs.YtmphegeiclgjbaaGreatDoor
namespace Go.Proofs.YtmphegeiclgjbaaGreatDoor
set_option maxRecDepth 100000
open Go Go.RowKit
set_option linter.unusedVariables false

/-- the numbers that a channel begins with -/
def oneR (ks : List ByteArray) (R : List Pr) : List Pr := ks.foldl (fun R s => setL s (be 1 8) R) R
theorem numN_small (R : List Pr) (kind : ByteArray) (h : numN R kind < 10) : (newID R kind).size = kind.size + 2 := by
  unfold newID
  rw [ByteArray.size_append, ByteArray.size_append, dash_size, decB_size _ h]
end Go.Proofs.YtmphegeiclgjbaaGreatDoor
namespace Go.Proofs.YtmphegeiclgjbaaGreatDoor
set_option maxRecDepth 100000
open Go Go.RowKit
set_option linter.unusedVariables false

def inStE (R : List Pr) (id : ByteArray) (st : Nat) : Int := match getCh R id with
  | none => 120
  | some c => if c.st = st then 0 else 111
def inStV (R : List Pr) (id : ByteArray) (st : Nat) : ChV := if inStE R id st = 0 then (getCh R id).getD ChV.none else ChV.none
end Go.Proofs.YtmphegeiclgjbaaGreatDoor
namespace Go.Proofs.YtmphegeiclgjbaaGreatDoor
set_option maxRecDepth 100000
open Go Go.RowKit
set_option linter.unusedVariables false

def sClient0 : ByteArray := ⟨#[99, 108, 105, 101, 110, 116, 45, 48]⟩
def sClient1 : ByteArray := ⟨#[99, 108, 105, 101, 110, 116, 45, 49]⟩
def sConn5 : ByteArray := ⟨#[99, 111, 110, 110, 45, 53]⟩
def sConn0 : ByteArray := ⟨#[99, 111, 110, 110, 45, 48]⟩
def sChan0 : ByteArray := ⟨#[99, 104, 97, 110, 45, 48]⟩
def fixCn : CnV := ⟨3, sClient0, sClient1, sConn5⟩
def fixCnR : List Pr := [(kConn sConn0, cnB fixCn)]
def fixChR : List Pr := beginR fixCnR sConn0 sTransfer sTransfer false sIcs20
/-- one pair, its value in a row of its own -/
theorem rdp_one (w : World) (s : ByteArray) (v : Value) (l : List UInt8) (hr : Rd w w.heap.size v l) : RdP (w.alloc (.cells #[.string s, v] 74)) (w.alloc (.cells #[.string s, v] 74)).heap.size (.slice (some ⟨w.heap.size, 0, none⟩) 1 1) [(s, l)] := by
  have hb : Below w.heap.size w (w.alloc (.cells #[.string s, v] 74)) := (Below.refl _ _).alloc (Nat.le_refl _) _
  have hg := heap_alloc_new w (.cells #[.string s, v] 74)
  refine ⟨_, _, rfl, Nat.le_refl _, by simp [maxLen], fun _ => ⟨w.heap.size, 0, rfl, blk_lt hg, fun j hj => ?_⟩⟩
  rcases j with _ | j
  · exact ⟨blk_cell hg 0, _, blk_cell hg 1, (hr.below hb).more hb.size⟩
  · simp at hj
end Go.Proofs.YtmphegeiclgjbaaGreatDoor
namespace Go.Proofs.YtmphegeiclgjbaaGreatDoor
set_option maxRecDepth 100000
open Go Go.RowKit
set_option linter.unusedVariables false

def icaP : ByteArray := ⟨#[105, 99, 97, 46]⟩
def dotB : ByteArray := ⟨#[46]⟩
def actP : ByteArray := ⟨#[105, 99, 97, 47, 97, 99, 116, 105, 118, 101, 47]⟩
/-- an owner's account; where the channel is kept that an owner asked for last -/
def kIca (a b : ByteArray) : ByteArray := ((icaP ++ a) ++ dotB) ++ b
def kAct (a b : ByteArray) : ByteArray := ((actP ++ a) ++ slB) ++ b
/-- is there a channel of that owner's already, that isn't closed? -/
def busyB (R : List Pr) (via owner : ByteArray) : Bool := match getL R (kAct via owner) with
  | none => false
  | some l => match getCh R ⟨l.toArray⟩ with
    | none => false
    | some c => !decide (c.st = 4)
def regE (R : List Pr) (owner via : ByteArray) : Int := if identB owner = true then (if identB via = true then (if busyB R via owner = true then 111 else beginE R via sControl sHost true owner) else 160) else 160
def regI (R : List Pr) (owner via : ByteArray) : ByteArray := if regE R owner via = 0 then newID R sChan else ⟨#[]⟩
def regR (R : List Pr) (owner via : ByteArray) : List Pr := if regE R owner via = 0 then setL (kAct via owner) (strBytes (newID R sChan)) (beginR R via sControl sHost true owner) else R
end Go.Proofs.YtmphegeiclgjbaaGreatDoor
namespace Go.Proofs.YtmphegeiclgjbaaGreatDoor
set_option maxRecDepth 100000
open Go Go.RowKit
set_option linter.unusedVariables false

def sAnn : ByteArray := ⟨#[97, 110, 110]⟩
def sBob : ByteArray := ⟨#[98, 111, 98]⟩
def fixIcaR : List Pr := regR fixCnR sAnn sConn0
end Go.Proofs.YtmphegeiclgjbaaGreatDoor
namespace Go.Proofs.YtmphegeiclgjbaaGreatDoor
set_option maxRecDepth 100000
open Go Go.RowKit
section
variable {P : Program} {ops : Array Oper} {Q : Exit → Act → World → Prop} {md : Region.Mode} {S S' : World → Prop}
theorem wpAnyH_stronger (h : ∀ w, S' w → S w) : ∀ (fuel : Nat) (listed : Array Bool) (a : Act) (w : World), wpAnyH P md ops Q S' fuel listed a w → wpAnyH P md ops Q S fuel listed a w
  | 0, _, _, _, H => H
  | fuel + 1, _, _, _, H => ⟨H.1, fun i hi => wpOp_mono (fun a' w' h' => ⟨h _ h'.1, wpAnyH_stronger h fuel _ a' w' h'.2⟩) (H.2 i hi)⟩
end
/-- what stands in the world w reads so from here on -/
def BelS (w : World) : World → Prop := fun W => Below w.heap.size w W
theorem BelS.refl (w : World) : BelS w w := Below.refl _ _
end Go.Proofs.YtmphegeiclgjbaaGreatDoor
