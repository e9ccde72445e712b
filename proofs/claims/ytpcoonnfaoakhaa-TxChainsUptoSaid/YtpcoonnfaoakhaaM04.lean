/- Texts joined: ShaS0, ShaM0, MerkA1, RowR0, MerkE1, MerkH0, StoM0, Ord0. -/
import Derived.Test.YtpcoonnfaoakhaaM01
import Derived.Deep.QuietTactic
import Derived.BigQuiet
import Derived.Deep.RegionHeldLaw
import Derived.Lib.ConvBytes
import Derived.LoopTactic
import Derived.Deep.Onto
import Derived.Test.YtpcoonnfaoakhaaM02
namespace Go.Proofs.Ytpcoonnfaoakhaa
set_option maxRecDepth 100000
open Go.RowKit

end Go.Proofs.Ytpcoonnfaoakhaa
namespace Go.Proofs.Ytpcoonnfaoakhaa
set_option maxRecDepth 100000
open Go.RowKit

def word4 (a b c d : UInt8) : UInt32 := ((a.toUInt32 <<< 24 ||| b.toUInt32 <<< 16) ||| c.toUInt32 <<< 8) ||| d.toUInt32
def sig0 (x : UInt32) : UInt32 := rotr x 7 ^^^ rotr x 18 ^^^ x >>> 3
def sig1 (x : UInt32) : UInt32 := rotr x 17 ^^^ rotr x 19 ^^^ x >>> 10
/-- the word that follows 16 or more -/
def nextW (p : List UInt32) : UInt32 := sig1 (p.getD (p.length - 2) 0) + p.getD (p.length - 7) 0 + sig0 (p.getD (p.length - 15) 0) + p.getD (p.length - 16) 0
/-- the first t words that 64 bytes are spread to -/
def sw (l : List UInt8) : Nat → List UInt32
  | 0 => []
  | t + 1 => sw l t ++ [if t < 16 then word4 (l.getD (4 * t) 0) (l.getD (4 * t + 1) 0) (l.getD (4 * t + 2) 0) (l.getD (4 * t + 3) 0) else nextW (sw l t)]
/-- a row of 64 words, the first of them p -/
def w32 (x : UInt32) : Value := .int .u32 (x.toNat : Int)
def arr64 (p : List UInt32) : List Value := p.map w32 ++ List.replicate (64 - p.length) (w32 0)
end Go.Proofs.Ytpcoonnfaoakhaa
namespace Go.Proofs.Ytpcoonnfaoakhaa
set_option maxRecDepth 100000
open Go.RowKit

theorem _root_.Go.Below.setCells {n b : Nat} {w : World} (hb : n ≤ b) : ∀ (cs : List Value) (o : Nat) {w' : World}, Below n w w' → Below n w (w'.setCells b o cs)
  | [], _, _, h => h
  | v :: r, o, _, h => Below.setCells hb r (o + 1) (h.setCell hb v)

end Go.Proofs.Ytpcoonnfaoakhaa
namespace Go.Proofs.Ytpcoonnfaoakhaa
set_option maxRecDepth 100000
open Go.RowKit

structure S8 where
  (a b c d e f g h : UInt32)
def S8.list (s : S8) : List Value := [w32 s.a, w32 s.b, w32 s.c, w32 s.d, w32 s.e, w32 s.f, w32 s.g, w32 s.h]
def S8.val (s : S8) : Value := .agg #[.int .u32 (s.a.toNat : Int), .int .u32 (s.b.toNat : Int), .int .u32 (s.c.toNat : Int), .int .u32 (s.d.toNat : Int), .int .u32 (s.e.toNat : Int), .int .u32 (s.f.toNat : Int), .int .u32 (s.g.toNat : Int), .int .u32 (s.h.toNat : Int)]
def t1of (k w : UInt32) (s : S8) : UInt32 := s.h + (rotr s.e 6 ^^^ rotr s.e 11 ^^^ rotr s.e 25) + (s.e &&& s.f ^^^ (~~~ s.e) &&& s.g) + k + w
def t2of (s : S8) : UInt32 := (rotr s.a 2 ^^^ rotr s.a 13 ^^^ rotr s.a 22) + (s.a &&& s.b ^^^ s.a &&& s.c ^^^ s.b &&& s.c)
def S8.step (k w : UInt32) (s : S8) : S8 := ⟨t1of k w s + t2of s, s.a, s.b, s.c, s.d + t1of k w s, s.e, s.f, s.g⟩
def kTab : List UInt32 := [
  0x428a2f98, 0x71374491, 0xb5c0fbcf, 0xe9b5dba5, 0x3956c25b, 0x59f111f1, 0x923f82a4, 0xab1c5ed5,
  0xd807aa98, 0x12835b01, 0x243185be, 0x550c7dc3, 0x72be5d74, 0x80deb1fe, 0x9bdc06a7, 0xc19bf174,
  0xe49b69c1, 0xefbe4786, 0x0fc19dc6, 0x240ca1cc, 0x2de92c6f, 0x4a7484aa, 0x5cb0a9dc, 0x76f988da,
  0x983e5152, 0xa831c66d, 0xb00327c8, 0xbf597fc7, 0xc6e00bf3, 0xd5a79147, 0x06ca6351, 0x14292967,
  0x27b70a85, 0x2e1b2138, 0x4d2c6dfc, 0x53380d13, 0x650a7354, 0x766a0abb, 0x81c2c92e, 0x92722c85,
  0xa2bfe8a1, 0xa81a664b, 0xc24b8b70, 0xc76c51a3, 0xd192e819, 0xd6990624, 0xf40e3585, 0x106aa070,
  0x19a4c116, 0x1e376c08, 0x2748774c, 0x34b0bcb5, 0x391c0cb3, 0x4ed8aa4a, 0x5b9cca4f, 0x682e6ff3,
  0x748f82ee, 0x78a5636f, 0x84c87814, 0x8cc70208, 0x90befffa, 0xa4506ceb, 0xbef9a3f7, 0xc67178f2]
def kVals : Array Value := (kTab.map w32).toArray
def rounds (ws : List UInt32) (s : S8) : Nat → S8
  | 0 => s
  | t + 1 => (rounds ws s t).step (kTab.getD t 0) (ws.getD t 0)
def S8.add (s r : S8) : S8 := ⟨s.a + r.a, s.b + r.b, s.c + r.c, s.d + r.d, s.e + r.e, s.f + r.f, s.g + r.g, s.h + r.h⟩
/-- the state behind 64 bytes more -/
def taken8 (s : S8) (l : List UInt8) : S8 := s.add (rounds (sw l 64) s 64)

end Go.Proofs.Ytpcoonnfaoakhaa
namespace Go.Proofs.Ytpcoonnfaoakhaa
set_option maxRecDepth 100000
open Go.RowKit

end Go.Proofs.Ytpcoonnfaoakhaa
namespace Go.Proofs.Ytpcoonnfaoakhaa
set_option maxRecDepth 100000
open Go.RowKit
def s0 : S8 := ⟨0x6a09e667, 0xbb67ae85, 0x3c6ef372, 0xa54ff53a, 0x510e527f, 0x9b05688c, 0x1f83d9ab, 0x5be0cd19⟩
end Go.Proofs.Ytpcoonnfaoakhaa
namespace Go.Proofs.Ytpcoonnfaoakhaa
set_option maxRecDepth 100000
open Go.RowKit

/-- how long the filled-up rest is -/
def fullOf (n : Nat) : Nat := (n + 72) / 64 * 64
def pad (l : List UInt8) (size : Nat) : List UInt8 := over ((over (List.replicate (fullOf l.length) 0) 0 l).set l.length 128) (fullOf l.length - 8) (be (8 * size % 18446744073709551616) 8)
end Go.Proofs.Ytpcoonnfaoakhaa
namespace Go.Proofs.Ytpcoonnfaoakhaa
set_option maxRecDepth 100000
open Go.RowKit

def eat (s : S8) (l : List UInt8) : Nat → S8
  | 0 => s
  | k + 1 => taken8 (eat s l k) ((l.drop (64 * k)).take 64)
def S8.bytes (s : S8) : List UInt8 := [s.a, s.b, s.c, s.d, s.e, s.f, s.g, s.h].flatMap fun x => be x.toNat 4
def shaEnd (l : List UInt8) : List UInt8 := pad (l.drop (64 * (l.length / 64))) l.length
def shaSum (l : List UInt8) : List UInt8 := (eat (eat s0 l (l.length / 64)) (shaEnd l) ((shaEnd l).length / 64)).bytes

def S8.words (s : S8) : List UInt32 := [s.a, s.b, s.c, s.d, s.e, s.f, s.g, s.h]
def S8.word (s : S8) (t : Nat) : UInt32 := s.words.getD t 0
def S8.out (s : S8) (t : Nat) : List UInt8 := (s.words.take t).flatMap fun x => be x.toNat 4
theorem Rd.sub {w : World} {B b o n c : Nat} {l : List UInt8} (h : Rd w B (.slice (some ⟨b, o, none⟩) n c) l) (k m c' : Nat) (hk : k + m ≤ n) (hc : m ≤ c') (hm : c' ≤ maxLen) : Rd w B (.slice (some ⟨b, o + k, none⟩) m c') ((l.drop k).take m) := by
  obtain ⟨A, c0, hv, hlc, hcm, hp⟩ := h
  injection hv with h1 h2 h3
  subst h2
  have hlen : ((l.drop k).take m).length = m := by simp; omega
  refine ⟨some ⟨b, o + k, none⟩, c', by rw [hlen], by omega, hm, fun h0 => ?_⟩
  obtain ⟨b1, o1, e, hb, hcell⟩ := hp (by omega)
  rw [← h1] at e
  injection e with e
  injection e with e1 e2
  subst e1; subst e2
  refine ⟨b, o + k, rfl, hb, fun j hj => ?_⟩
  rw [show o + k + j = o + (k + j) by omega, hcell (k + j) (by omega)]
  simp

theorem Rd.from {w : World} {B n c : Nat} {A : Option Addr} {l : List UInt8} (h : Rd w B (.slice A n c) l) (k : Nat) (hk : k ≤ n) (X : Option Addr) (hX : (if c = k then A else A.map fun x => x.add k) = X) : Rd w B (.slice X (n - k) (c - k)) (l.drop k) := by
  have h0 := h
  obtain ⟨A', c', hv, hlc, hcm, hp⟩ := h0
  injection hv with h1 h2 h3
  subst h1; subst h2; subst h3
  by_cases hz : l.length - k = 0
  · rw [hz, List.drop_eq_nil_of_le (by omega)]
    exact rd_empty (by omega)
  · obtain ⟨b, o, rfl, -, -⟩ := hp (by omega)
    rw [if_neg (by omega)] at hX
    subst hX
    have := h.sub k (l.length - k) (c - k) (by omega) (by omega) (by omega)
    rw [List.take_of_length_le (by simp)] at this
    simp only [Option.map_some, Addr.add_mid]
    exact this

end Go.Proofs.Ytpcoonnfaoakhaa
namespace Go.Proofs.Ytpcoonnfaoakhaa
set_option maxRecDepth 100000
open Go.RowKit

/-- bytes with their length ahead -/
def formB (m : List UInt8) : List UInt8 := be (m.take 65535).length 4 ++ m.take 65535
def formBs (ps : List (List UInt8)) : List UInt8 := ps.flatMap formB
/-- the slice value v holds slices that read as the rows ps -/
def Parts (w : World) (B : Nat) (v : Value) (ps : List (List UInt8)) : Prop :=
  ∃ A c, v = .slice A ps.length c ∧ (0 < ps.length → ∃ b o, A = some ⟨b, o, none⟩ ∧ b < B ∧ ∀ j (h : j < ps.length), ∃ x, w.cell? ⟨b, o + j, none⟩ = some x ∧ Rd w B x ps[j])

end Go.Proofs.Ytpcoonnfaoakhaa
namespace Go.Proofs.Ytpcoonnfaoakhaa
set_option maxRecDepth 100000
open Go.RowKit

end Go.Proofs.Ytpcoonnfaoakhaa
namespace Go.Proofs.Ytpcoonnfaoakhaa
set_option maxRecDepth 100000
set_option linter.unusedVariables false

/-- the greatest power of two below m -/
def cutM (m : Nat) : Nat := 2 ^ Nat.log2 (m - 1)
section
variable (N : List UInt8 → List UInt8 → List UInt8)
def pairUp : List (List UInt8) → List (List UInt8)
  | a :: b :: l => N a b :: pairUp l
  | [a] => [a]
  | [] => []
/-- the hash of a row, cut at the greatest power of two -/
def rowR : Nat → List (List UInt8) → List UInt8
  | 0, l => l.headD []
  | f + 1, l => if l.length ≤ 1 then l.headD [] else N (rowR f (l.take (cutM l.length))) (rowR f (l.drop (cutM l.length)))
def rowT (l : List (List UInt8)) : List UInt8 := rowR N l.length l
/-- the hashes beside a leaf's way, row by row -/
def wayP : Nat → List (List UInt8) → Nat → List (List UInt8)
  | 0, _, _ => []
  | f + 1, l, i => if l.length ≤ 1 then [] else (if (i ^^^ 1) < l.length then [l.getD (i ^^^ 1) []] else []) ++ wayP f (pairUp N l) (i / 2)
def wayT (l : List (List UInt8)) (i : Nat) : List (List UInt8) := wayP N l.length l i
/-- up from a leaf, row by row; none: there aren't just as many hashes beside its way -/
def upP : Nat → List UInt8 → Nat → Nat → List (List UInt8) → Option (List UInt8)
  | 0, h, _, _, p => if p = [] then some h else none
  | f + 1, h, at_, m, p => if m ≤ 1 then (if p = [] then some h else none) else
      if m ≤ (at_ ^^^ 1) then upP f h (at_ / 2) ((m + 1) / 2) p else match p with
      | [] => none
      | x :: q => upP f (if at_ % 2 = 0 then N h x else N x h) (at_ / 2) ((m + 1) / 2) q
def upT (h : List UInt8) (i m : Nat) (p : List (List UInt8)) : Option (List UInt8) := upP N m h i m p
end
end Go.Proofs.Ytpcoonnfaoakhaa
namespace Go.Proofs.Ytpcoonnfaoakhaa
set_option maxRecDepth 100000
open Go Go.RowKit
set_option linter.unusedVariables false

abbrev Pr := ByteArray × List UInt8
def keyB (s : ByteArray) : Bool := decide (1 ≤ s.size) && decide (s.size ≤ 200)
/-- texts in order -/
def ltS (a b : ByteArray) : Bool := Op.bytesLess a.toList b.toList
def pairB (p : Pr) : Bool := keyB p.1 && decide (p.2.length ≤ 65535)
def ordR : Option ByteArray → List Pr → Bool
  | _, [] => true
  | q, p :: l => pairB p && (match q with | none => true | some a => ltS a p.1) && ordR (some p.1) l
def ordB (ps : List Pr) : Bool := decide (ps.length ≤ 65536) && ordR none ps
/-- the key ahead of place k -/
def prevK (ps : List Pr) (k : Nat) : Option ByteArray := if k = 0 then none else (ps[k - 1]?).map (·.1)
def wLeaf : ByteArray := ⟨#[108, 101, 97, 102]⟩
def wNode : ByteArray := ⟨#[110, 111, 100, 101]⟩
def wRoot : ByteArray := ⟨#[114, 111, 111, 116]⟩
def tagH (word : ByteArray) (ps : List (List UInt8)) : List UInt8 := shaSum (formB (strBytes word) ++ formBs ps)
def leafH (k : ByteArray) (v : List UInt8) : List UInt8 := tagH wLeaf [strBytes k, v]
def nodeH (a b : List UInt8) : List UInt8 := tagH wNode [a, b]
def rootE : List UInt8 := tagH wRoot [be 0 8]
def rootH (n : Nat) (h : List UInt8) : List UInt8 := tagH wRoot [be n 8, h]
def leaves (ps : List Pr) : List (List UInt8) := ps.map fun p => leafH p.1 p.2
/-- the root of pairs, or the error -/
def rootM (ps : List Pr) : List UInt8 × Int := if ordB ps = true then (if ps = [] then rootE else rootH ps.length (rowT nodeH (leaves ps)), 0) else ([], 60)
/-- t times paired -/
def upN : Nat → List (List UInt8) → List (List UInt8)
  | 0, l => l
  | t + 1, l => pairUp nodeH (upN t l)
/-- the rows up to the row t -/
def levN (l : List (List UInt8)) : Nat → List (List (List UInt8))
  | 0 => [upN 0 l]
  | t + 1 => levN l t ++ [upN (t + 1) l]
/-- the number of the first pair whose key is not below that one -/
def placeM (key : ByteArray) : List Pr → Nat
  | [] => 0
  | p :: l => if ltS p.1 key = true then placeM key l + 1 else 0
end Go.Proofs.Ytpcoonnfaoakhaa
namespace Go.Proofs.Ytpcoonnfaoakhaa
set_option maxRecDepth 100000
open Go Go.RowKit
set_option linter.unusedVariables false
variable {w w' : World} {B : Nat}

/-- pairs handed in -/
def RdP (w : World) (B : Nat) (v : Value) (ps : List Pr) : Prop :=
  ∃ A c, v = .slice A ps.length c ∧ ps.length ≤ c ∧ c ≤ maxLen ∧ (0 < ps.length → ∃ b o, A = some ⟨b, o, none⟩ ∧ b < B ∧ ∀ j (h : j < ps.length),
    w.cell? ⟨b, o + j * 2, none⟩ = some (.string ps[j].1) ∧ ∃ x, w.cell? ⟨b, o + j * 2 + 1, none⟩ = some x ∧ Rd w B x ps[j].2)
theorem RdP.below {v : Value} {ps : List Pr} (h : RdP w B v ps) (hb : Below B w w') : RdP w' B v ps := by
  obtain ⟨A, c, rfl, h1, h2, hp⟩ := h
  refine ⟨A, c, rfl, h1, h2, fun h0 => ?_⟩
  obtain ⟨b, o, rfl, hlt, hc⟩ := hp h0
  refine ⟨b, o, rfl, hlt, fun j hj => ?_⟩
  obtain ⟨q1, x, q2, q3⟩ := hc j hj
  exact ⟨(hb.cell (p := ⟨b, o + j * 2, none⟩) hlt).trans q1, x, (hb.cell (p := ⟨b, o + j * 2 + 1, none⟩) hlt).trans q2, q3.below hb⟩
theorem RdP.more {B' : Nat} {v : Value} {ps : List Pr} (h : RdP w B v ps) (hB : B ≤ B') : RdP w B' v ps := by
  obtain ⟨A, c, rfl, h1, h2, hp⟩ := h
  refine ⟨A, c, rfl, h1, h2, fun h0 => ?_⟩
  obtain ⟨b, o, rfl, hlt, hc⟩ := hp h0
  refine ⟨b, o, rfl, by omega, fun j hj => ?_⟩
  obtain ⟨q1, x, q2, q3⟩ := hc j hj
  exact ⟨q1, x, q2, q3.more hB⟩

end Go.Proofs.Ytpcoonnfaoakhaa
namespace Go.Proofs.Ytpcoonnfaoakhaa
set_option maxRecDepth 100000
open Go Go.RowKit
set_option linter.unusedVariables false

end Go.Proofs.Ytpcoonnfaoakhaa
namespace Go.Proofs.Ytpcoonnfaoakhaa
set_option maxRecDepth 100000
open Go Go.RowKit

theorem Try.infoRow : (Try.prog.info? 24).map (fun i => (i.zero, i.size, i.bytes)) = some (some (.slice none 0 0), 1, 24) := by kernel_rfl

/-- block b was there before B0, or its cells have the type t -/
def Of (w : World) (B0 : Nat) (t : TypeId) (b : Nat) : Prop := b < B0 ∨ ∃ cs fr, w.heap[b]? = some (.cells cs t fr)
/-- a row of type E, of the call's own from B0 on, may have grown -/
def Grow (w : World) (B0 : Nat) (E : TypeId) (w' : World) : Prop := ∃ row, w.grownBy w' row ∧ ∀ g, row = some g → B0 ≤ g ∧ ∃ cs fr, w.heap[g]? = some (.cells cs E fr)

section
variable {w w' : World} {B0 B B' b : Nat} {t E : TypeId} {x v : Value} {l : List UInt8} {ls : List (List UInt8)}
theorem Of.up (h : Of w B0 t b) (hb : Below w.heap.size w w') (hl : b < w.heap.size) : Of w' B0 t b := h.imp id fun ⟨cs, fr, e⟩ => ⟨cs, fr, (hb.block b hl).trans e⟩
theorem Of.same (h : Of w B0 t b) (hg : Grow w B0 E w') (hl : b < w.heap.size) (hE : t ≠ E) : w'.heap[b]? = w.heap[b]? := by
  obtain ⟨row, hg, hr⟩ := hg
  refine hg.block b hl fun e => ?_
  obtain ⟨h1, cs, fr, h2⟩ := hr b e.symm
  rcases h with h | ⟨cs', fr', h⟩
  · omega
  · rw [h] at h2
    injection h2 with h2
    injection h2 with _ h2 _
    exact hE h2
theorem Grow.size (hg : Grow w B0 E w') : w.heap.size ≤ w'.heap.size := by
  obtain ⟨row, hg, _⟩ := hg
  exact hg.size

/-- a slice of bytes that reads as l; its block was there before B0, or has cells of bytes -/
def RdS (w : World) (B0 : Nat) (x : Value) (l : List UInt8) : Prop := Rd w w.heap.size x l ∧ ∀ b, 0 < l.length → x.ownBlock = some b → Of w B0 5 b
theorem RdS.rd (h : RdS w B0 x l) : Rd w w.heap.size x l := h.1
theorem RdS.lt (h : RdS w B0 x l) (h0 : 0 < l.length) {b : Nat} (hb : x.ownBlock = some b) : b < w.heap.size := by
  obtain ⟨A, c, rfl, _, _, hp⟩ := h.1
  obtain ⟨b', o, rfl, hlt, _⟩ := hp h0
  simp only [Value.ownBlock, Option.some.injEq] at hb
  omega
theorem RdS.up (h : RdS w B0 x l) (hb : Below w.heap.size w w') : RdS w' B0 x l :=
  ⟨h.1.up (Nat.le_refl _) hb, fun b h0 e => (h.2 b h0 e).up hb (h.lt h0 e)⟩
theorem RdS.old (h : Rd w B0 x l) (hB : B0 ≤ w.heap.size) : RdS w B0 x l := ⟨h.more hB, fun b h0 e => by
  obtain ⟨A, c, rfl, _, _, hp⟩ := h
  obtain ⟨b', o, rfl, hlt, _⟩ := hp h0
  simp only [Value.ownBlock, Option.some.injEq] at e
  exact .inl (by omega)⟩
theorem Own.rdS (h : Own w B v l) : RdS w B0 v l := ⟨h.rd, fun b h0 e => by
  rcases h.2 with ⟨rfl, _⟩ | ⟨g, cap, cur, rfl, hb, hg, _⟩
  · simp [Value.ownBlock] at e
  · simp only [Value.ownBlock, Option.some.injEq] at e
    subst e
    exact .inr ⟨_, _, hg⟩⟩
/-- a row of rows of bytes -/
def RowS (w : World) (B0 : Nat) (v : Value) (ls : List (List UInt8)) : Prop :=
  ∃ A c, v = .slice A ls.length c ∧ ls.length ≤ c ∧ c ≤ maxLen ∧ (0 < ls.length → ∃ b o, A = some ⟨b, o, none⟩ ∧ b < w.heap.size ∧ Of w B0 24 b ∧ ∀ j (h : j < ls.length), ∃ x, w.cell? ⟨b, o + j, none⟩ = some x ∧ RdS w B0 x ls[j])
theorem RowS.form (h : RowS w B0 v ls) : ∃ A c, v = .slice A ls.length c := by obtain ⟨A, c, h, _⟩ := h; exact ⟨A, c, h⟩
theorem RowS.up (h : RowS w B0 v ls) (hb : Below w.heap.size w w') : RowS w' B0 v ls := by
  obtain ⟨A, c, rfl, hc, hm, hp⟩ := h
  refine ⟨A, c, rfl, hc, hm, fun h0 => ?_⟩
  obtain ⟨b, o, rfl, hlt, ho, hcell⟩ := hp h0
  refine ⟨b, o, rfl, Nat.lt_of_lt_of_le hlt hb.size, ho.up hb hlt, fun j hj => ?_⟩
  obtain ⟨x, hx, hr⟩ := hcell j hj
  exact ⟨x, (hb.cell (p := ⟨b, o + j, none⟩) hlt).trans hx, hr.up hb⟩
/-- a cell of it -/
theorem RowS.at_ {A : Option Addr} {n c : Nat} (h : RowS w B0 (.slice A n c) ls) (j : Nat) (hj : j < ls.length) : ∃ b o x, A = some ⟨b, o, none⟩ ∧ n = ls.length ∧ b < w.heap.size ∧ w.cell? ⟨b, o + j, none⟩ = some x ∧ RdS w B0 x ls[j] := by
  obtain ⟨A', c', e, hc, hm, hp⟩ := h
  injection e with e1 e2 e3
  subst e1; subst e2; subst e3
  obtain ⟨b, o, rfl, hlt, ho, hcell⟩ := hp (by omega)
  obtain ⟨x, hx, hr⟩ := hcell j hj
  exact ⟨b, o, x, rfl, rfl, hlt, hx, hr⟩

/-- a row of rows of bytes, of the call's own from B on -/
def OwnR (w : World) (B0 B : Nat) (v : Value) (ls : List (List UInt8)) : Prop :=
  ∃ vs, w.ownsRow B 24 1 v ls.length vs ∧ ∀ j (h : j < ls.length), ∃ x, vs[j]? = some x ∧ RdS w B0 x ls[j]
theorem OwnR.lt (h : OwnR w B0 B v ls) : ∀ k, v.ownBlock = some k → B ≤ k ∧ k < w.heap.size := by
  obtain ⟨vs, h, _⟩ := h
  exact World.ownsRow.lt h
theorem OwnR.rowS (h : OwnR w B0 B v ls) : RowS w B0 v ls := by
  obtain ⟨vs, h, hr⟩ := h
  rcases h.2 with ⟨rfl, h0⟩ | ⟨g, cap, cur, rfl, hb, hg, hn, hm, hs, ht⟩
  · exact ⟨none, 0, by rw [h0], by omega, by simp [maxLen], fun h => by omega⟩
  · refine ⟨_, _, rfl, hn, hm, fun _ => ⟨g, 0, rfl, (Array.getElem?_eq_some_iff.1 hg).1, .inr ⟨_, _, hg⟩, fun j hj => ?_⟩⟩
    obtain ⟨x, hx, hrd⟩ := hr j hj
    refine ⟨x, ?_, hrd⟩
    rw [cell_of_row w g _ cur _ (0, 0) hg, Nat.zero_add]
    rw [← ht, List.getElem?_take] at hx
    split at hx
    · simpa using hx
    · cases hx
theorem OwnR.form (h : OwnR w B0 B v ls) : ∃ A c, v = .slice A ls.length c := h.rowS.form
theorem OwnR.nil (w : World) (B0 B : Nat) : OwnR w B0 B (.slice none 0 0) [] := ⟨[], World.ownsRow_nil w B _ 1, fun j h => absurd h (by simp)⟩
theorem OwnR.more (h : OwnR w B0 B v ls) (hB : B' ≤ B) : OwnR w B0 B' v ls := by
  obtain ⟨vs, h, hr⟩ := h
  exact ⟨vs, World.ownsRow.mono h hB, hr⟩
theorem OwnR.up (h : OwnR w B0 B v ls) (hb : Below w.heap.size w w') : OwnR w' B0 B v ls := by
  obtain ⟨vs, h, hr⟩ := h
  refine ⟨vs, ⟨h.1, ?_⟩, fun j hj => ?_⟩
  · rcases h.2 with h0 | ⟨g, cap, cur, hv, hB, hg, rest⟩
    · exact .inl h0
    · exact .inr ⟨g, cap, cur, hv, hB, (hb.block g (Array.getElem?_eq_some_iff.1 hg).1).trans hg, rest⟩
  · obtain ⟨x, hx, hrd⟩ := hr j hj
    exact ⟨x, hx, hrd.up hb⟩
theorem OwnR.one {w : World} {B0 : Nat} {x : Value} {l : List UInt8} (hx : RdS w B0 x l) : OwnR (w.alloc (.cells #[x] 24)) B0 w.heap.size (.slice (some ⟨w.heap.size, 0, none⟩) 1 1) [l] := by
  have hb : Below w.heap.size w (w.alloc (.cells #[x] 24)) := (Below.refl _ _).alloc (Nat.le_refl _) _
  refine ⟨[x], ⟨rfl, .inr ⟨w.heap.size, 1, _, rfl, Nat.le_refl _, heap_alloc_new w _, Nat.le_refl _, by unfold maxLen; omega, rfl, rfl⟩⟩, fun j hj => ?_⟩
  obtain rfl : j = 0 := by simp at hj; exact hj
  exact ⟨x, rfl, hx.up hb⟩
theorem OwnR.grows (h : OwnR w B0 B v ls) (hB : B0 ≤ B) (hg : w.grownBy w' v.ownBlock) : Grow w B0 24 w' := by
  refine ⟨_, hg, fun g e => ?_⟩
  obtain ⟨vs, h, hr⟩ := h
  rcases h.2 with ⟨rfl, h0⟩ | ⟨g', cap, cur, rfl, hb, hg, _⟩
  · simp [Value.ownBlock] at e
  · simp only [Value.ownBlock, Option.some.injEq] at e
    subst e
    exact ⟨by omega, _, _, hg⟩
theorem OwnR.below (h : OwnR w B0 B v ls) {w0 : World} (h0 : Below B w0 w) (hB : B ≤ w.heap.size) (hg : w.grownBy w' v.ownBlock) : Below B w0 w' := h0.grown hg hB fun k hk => (h.lt k hk).1

variable {P : Program}
end
end Go.Proofs.Ytpcoonnfaoakhaa
namespace Go.Proofs.Ytpcoonnfaoakhaa
set_option maxRecDepth 100000
open Go Go.RowKit

section
variable {w w' : World} {B0 B B' b : Nat} {t E : TypeId} {x v : Value} {l : List (List UInt8)} {ls : List (List (List UInt8))}
/-- a row of rows of rows of bytes, of the call's own from B on -/
def OwnRR (w : World) (B0 B : Nat) (v : Value) (ls : List (List (List UInt8))) : Prop :=
  ∃ vs, w.ownsRow B 96 1 v ls.length vs ∧ ∀ j (h : j < ls.length), ∃ x, vs[j]? = some x ∧ RowS w B0 x ls[j]
theorem OwnRR.lt (h : OwnRR w B0 B v ls) : ∀ k, v.ownBlock = some k → B ≤ k ∧ k < w.heap.size := by
  obtain ⟨vs, h, _⟩ := h
  exact World.ownsRow.lt h
theorem OwnRR.form (h : OwnRR w B0 B v ls) : ∃ A c, v = .slice A ls.length c := by
  obtain ⟨vs, h, hr⟩ := h
  rcases h.2 with ⟨rfl, h0⟩ | ⟨g, cap, cur, rfl, _⟩
  · exact ⟨none, 0, by rw [h0]⟩
  · exact ⟨_, _, rfl⟩
/-- a cell of it -/
theorem OwnRR.at_ {A : Option Addr} {n c : Nat} (h : OwnRR w B0 B (.slice A n c) ls) (j : Nat) (hj : j < ls.length) : ∃ b x, A = some ⟨b, 0, none⟩ ∧ n = ls.length ∧ b < w.heap.size ∧ w.cell? ⟨b, j, none⟩ = some x ∧ RowS w B0 x ls[j] := by
  obtain ⟨vs, h, hr⟩ := h
  rcases h.2 with ⟨_, h0⟩ | ⟨g, cap, cur, hv, hb, hg, hn, hm, hs, ht⟩
  · omega
  · injection hv with h1 h2 h3
    subst h1; subst h2; subst h3
    obtain ⟨x, hx, hrd⟩ := hr j hj
    refine ⟨g, x, rfl, rfl, (Array.getElem?_eq_some_iff.1 hg).1, ?_, hrd⟩
    rw [cell_of_row w g _ cur _ (0, 0) hg]
    rw [← ht, List.getElem?_take] at hx
    split at hx
    · simpa using hx
    · cases hx
theorem OwnRR.nil (w : World) (B0 B : Nat) : OwnRR w B0 B (.slice none 0 0) [] := ⟨[], World.ownsRow_nil w B _ 1, fun j h => absurd h (by simp)⟩
theorem OwnRR.more (h : OwnRR w B0 B v ls) (hB : B' ≤ B) : OwnRR w B0 B' v ls := by
  obtain ⟨vs, h, hr⟩ := h
  exact ⟨vs, World.ownsRow.mono h hB, hr⟩
theorem OwnRR.up (h : OwnRR w B0 B v ls) (hb : Below w.heap.size w w') : OwnRR w' B0 B v ls := by
  obtain ⟨vs, h, hr⟩ := h
  refine ⟨vs, ⟨h.1, ?_⟩, fun j hj => ?_⟩
  · rcases h.2 with h0 | ⟨g, cap, cur, hv, hB, hg, rest⟩
    · exact .inl h0
    · exact .inr ⟨g, cap, cur, hv, hB, (hb.block g (Array.getElem?_eq_some_iff.1 hg).1).trans hg, rest⟩
  · obtain ⟨x, hx, hrd⟩ := hr j hj
    exact ⟨x, hx, hrd.up hb⟩
theorem OwnRR.one {w : World} {B0 : Nat} {x : Value} {l : List (List UInt8)} (hx : RowS w B0 x l) : OwnRR (w.alloc (.cells #[x] 96)) B0 w.heap.size (.slice (some ⟨w.heap.size, 0, none⟩) 1 1) [l] := by
  have hb : Below w.heap.size w (w.alloc (.cells #[x] 96)) := (Below.refl _ _).alloc (Nat.le_refl _) _
  refine ⟨[x], ⟨rfl, .inr ⟨w.heap.size, 1, _, rfl, Nat.le_refl _, heap_alloc_new w _, Nat.le_refl _, by unfold maxLen; omega, rfl, rfl⟩⟩, fun j hj => ?_⟩
  obtain rfl : j = 0 := by simp at hj; exact hj
  exact ⟨x, rfl, hx.up hb⟩
theorem OwnRR.grows (h : OwnRR w B0 B v ls) (hB : B0 ≤ B) (hg : w.grownBy w' v.ownBlock) : Grow w B0 96 w' := by
  refine ⟨_, hg, fun g e => ?_⟩
  obtain ⟨vs, h, hr⟩ := h
  rcases h.2 with ⟨rfl, h0⟩ | ⟨g', cap, cur, rfl, hb, hg, _⟩
  · simp [Value.ownBlock] at e
  · simp only [Value.ownBlock, Option.some.injEq] at e
    subst e
    exact ⟨by omega, _, _, hg⟩
theorem OwnRR.below (h : OwnRR w B0 B v ls) {w0 : World} (h0 : Below B w0 w) (hB : B ≤ w.heap.size) (hg : w.grownBy w' v.ownBlock) : Below B w0 w' := h0.grown hg hB fun k hk => (h.lt k hk).1

variable {P : Program}
end
end Go.Proofs.Ytpcoonnfaoakhaa
namespace Go.Proofs.Ytpcoonnfaoakhaa
set_option maxRecDepth 100000
open Go Go.RowKit
section
variable {w w' w1 : World} {B0 B g : Nat} {E : TypeId} {v : Value} {l : List UInt8} {ls : List (List UInt8)}
end
end Go.Proofs.Ytpcoonnfaoakhaa
namespace Go.Proofs.Ytpcoonnfaoakhaa
set_option maxRecDepth 100000
open Go Go.RowKit

theorem flat_get {sz : Nat} : ∀ (cs : List (List Value)) (h : ∀ c ∈ cs, c.length = sz) (j i : Nat) (hj : j < cs.length), i < sz → cs.flatten[j * sz + i]? = (cs[j])[i]?
  | c :: cs, h, 0, i, _, hi => by
    rw [List.flatten_cons, Nat.zero_mul, Nat.zero_add, List.getElem?_append_left (by rw [h c (by simp)]; exact hi)]
    rfl
  | c :: cs, h, j + 1, i, hj, hi => by
    have hc := h c (by simp)
    rw [List.flatten_cons, List.getElem?_append_right (by rw [hc, Nat.add_mul]; omega), hc, show (j + 1) * sz + i - sz = j * sz + i by rw [Nat.add_mul]; omega]
    exact flat_get cs (fun c hc => h c (by simp [hc])) j i (by simpa using hj) hi
section
variable {α : Type} {E : TypeId} {sz : Nat} {R : World → List Value → α → Prop}
/-- a row of things, of the call's own from B on -/
def OwnX (E : TypeId) (sz : Nat) (R : World → List Value → α → Prop) (w : World) (B : Nat) (v : Value) (ls : List α) : Prop :=
  ∃ cs : List (List Value), w.ownsRow B E sz v ls.length cs.flatten ∧ cs.length = ls.length ∧ (∀ c ∈ cs, c.length = sz) ∧ ∀ (j : Nat) (h : j < cs.length) (h' : j < ls.length), R w cs[j] ls[j]
variable {w w' : World} {B0 B B' b : Nat} {v : Value} {l : α} {ls : List α}
theorem OwnX.lt (h : OwnX E sz R w B v ls) : ∀ k, v.ownBlock = some k → B ≤ k ∧ k < w.heap.size := by
  obtain ⟨cs, h, _⟩ := h
  exact World.ownsRow.lt h
theorem OwnX.form (h : OwnX E sz R w B v ls) : ∃ A c, v = .slice A ls.length c := by
  obtain ⟨cs, h, _⟩ := h
  rcases h.2 with ⟨rfl, h0⟩ | ⟨g, cap, cur, rfl, _⟩
  · exact ⟨none, 0, by rw [h0]⟩
  · exact ⟨_, _, rfl⟩
theorem OwnX.nil (w : World) (B : Nat) : OwnX E sz R w B (.slice none 0 0) [] := ⟨[], World.ownsRow_nil w B _ sz, rfl, fun c hc => by simp at hc, fun j h => absurd h (by simp)⟩
theorem OwnX.more (h : OwnX E sz R w B v ls) (hB : B' ≤ B) : OwnX E sz R w B' v ls := by
  obtain ⟨cs, h, hr⟩ := h
  exact ⟨cs, World.ownsRow.mono h hB, hr⟩
theorem OwnX.up (h : OwnX E sz R w B v ls) (hb : Below w.heap.size w w') (hR : ∀ c a, R w c a → R w' c a) : OwnX E sz R w' B v ls := by
  obtain ⟨cs, h, h1, h2, h3⟩ := h
  refine ⟨cs, ⟨h.1, ?_⟩, h1, h2, fun j hj hj' => hR _ _ (h3 j hj hj')⟩
  rcases h.2 with h0 | ⟨g, cap, cur, hv, hB, hg, rest⟩
  · exact .inl h0
  · exact .inr ⟨g, cap, cur, hv, hB, (hb.block g (Array.getElem?_eq_some_iff.1 hg).1).trans hg, rest⟩
theorem OwnX.grows (h : OwnX E sz R w B v ls) (hB : B0 ≤ B) (hg : w.grownBy w' v.ownBlock) : Grow w B0 E w' := by
  refine ⟨_, hg, fun g e => ?_⟩
  obtain ⟨vs, h, _⟩ := h
  rcases h.2 with ⟨rfl, h0⟩ | ⟨g', cap, cur, rfl, hb, hg, _⟩
  · simp [Value.ownBlock] at e
  · simp only [Value.ownBlock, Option.some.injEq] at e
    subst e
    exact ⟨by omega, _, _, hg⟩
theorem OwnX.below (h : OwnX E sz R w B v ls) {w0 : World} (h0 : Below B w0 w) (hB : B ≤ w.heap.size) (hg : w.grownBy w' v.ownBlock) : Below B w0 w' := h0.grown hg hB fun k hk => (h.lt k hk).1
/-- a thing of it -/
theorem OwnX.at_ {A : Option Addr} {n c : Nat} (h : OwnX E sz R w B (.slice A n c) ls) (j : Nat) (hj : j < ls.length) : ∃ b cs, A = some ⟨b, 0, none⟩ ∧ n = ls.length ∧ n ≤ c ∧ c ≤ maxLen ∧ B ≤ b ∧ b < w.heap.size ∧ cs.length = sz ∧ (∀ i, i < sz → w.cell? ⟨b, j * sz + i, none⟩ = cs[i]?) ∧ R w cs ls[j] := by
  obtain ⟨cs, h, h1, h2, h3⟩ := h
  rcases h.2 with ⟨_, h0⟩ | ⟨g, cap, cur, hv, hb, hg, hn, hm, hs, ht⟩
  · omega
  · injection hv with e1 e2 e3
    subst e1; subst e2; subst e3
    refine ⟨g, cs[j]'(by omega), rfl, rfl, hn, hm, hb, (Array.getElem?_eq_some_iff.1 hg).1, h2 _ (List.getElem_mem _), fun i hi => ?_, h3 j (by omega) hj⟩
    rw [← flat_get cs h2 j i (by omega) hi, cell_of_row w g _ cur _ (0, 0) hg, ← ht, List.getElem?_take]
    have : j * sz + i < ls.length * sz := by
      have : (j + 1) * sz ≤ ls.length * sz := Nat.mul_le_mul_right sz hj
      rw [Nat.add_mul] at this
      omega
    rw [if_pos this]
    simp
variable {P : Program}
end
end Go.Proofs.Ytpcoonnfaoakhaa
namespace Go.Proofs.Ytpcoonnfaoakhaa
set_option maxRecDepth 100000
open Go Go.RowKit
set_option linter.unusedVariables false
def sliceLn : Value → Nat
  | .slice _ n _ => n
  | _ => 0

end Go.Proofs.Ytpcoonnfaoakhaa
namespace Go.Proofs.Ytpcoonnfaoakhaa
set_option maxRecDepth 100000
open Go Go.RowKit
set_option linter.unusedVariables false

end Go.Proofs.Ytpcoonnfaoakhaa
namespace Go.Proofs.Ytpcoonnfaoakhaa
set_option maxRecDepth 100000
open Go Go.RowKit
set_option linter.unusedVariables false
variable {w w' : World} {B : Nat}

/-- a way handed in -/
def PathV (w : World) (B : Nat) (v : Value) (ps : List (List UInt8)) : Prop :=
  ∃ A c, v = .slice A ps.length c ∧ ps.length ≤ c ∧ c ≤ maxLen ∧ (0 < ps.length → ∃ b o, A = some ⟨b, o, none⟩ ∧ b < B ∧ ∀ j (h : j < ps.length), ∃ x, w.cell? ⟨b, o + j, none⟩ = some x ∧ Rd w B x ps[j])
theorem PathV.below {v : Value} {ps : List (List UInt8)} (h : PathV w B v ps) (hb : Below B w w') : PathV w' B v ps := by
  obtain ⟨A, c, rfl, h1, h2, hp⟩ := h
  refine ⟨A, c, rfl, h1, h2, fun h0 => ?_⟩
  obtain ⟨b, o, rfl, hlt, hc⟩ := hp h0
  refine ⟨b, o, rfl, hlt, fun j hj => ?_⟩
  obtain ⟨x, q2, q3⟩ := hc j hj
  exact ⟨x, (hb.cell (p := ⟨b, o + j, none⟩) hlt).trans q2, q3.below hb⟩
theorem PathV.more {B' : Nat} {v : Value} {ps : List (List UInt8)} (h : PathV w B v ps) (hB : B ≤ B') : PathV w B' v ps := by
  obtain ⟨A, c, rfl, h1, h2, hp⟩ := h
  refine ⟨A, c, rfl, h1, h2, fun h0 => ?_⟩
  obtain ⟨b, o, rfl, hlt, hc⟩ := hp h0
  refine ⟨b, o, rfl, by omega, fun j hj => ?_⟩
  obtain ⟨x, q2, q3⟩ := hc j hj
  exact ⟨x, q2, q3.more hB⟩
/-- what a leaf says -/
structure Lf where
  at_ : Int
  key : ByteArray
  val : List UInt8
  path : List (List UInt8)
/-- a leaf handed in -/
def LeafV (w : World) (B : Nat) (v : Value) (l : Lf) : Prop :=
  ∃ sv pv, v = .agg #[.int .i64 l.at_, .string l.key, sv, pv] ∧ Rd w B sv l.val ∧ PathV w B pv l.path ∧ l.key.size ≤ maxLen ∧ -9223372036854775808 ≤ l.at_ ∧ l.at_ ≤ 9223372036854775807
theorem LeafV.below {v : Value} {l : Lf} (h : LeafV w B v l) (hb : Below B w w') : LeafV w' B v l := by
  obtain ⟨sv, pv, rfl, h1, h2, h3⟩ := h
  exact ⟨sv, pv, rfl, h1.below hb, h2.below hb, h3⟩
theorem LeafV.more {B' : Nat} {v : Value} {l : Lf} (h : LeafV w B v l) (hB : B ≤ B') : LeafV w B' v l := by
  obtain ⟨sv, pv, rfl, h1, h2, h3⟩ := h
  exact ⟨sv, pv, rfl, h1.more hB, h2.more hB, h3⟩
def fitsB (n : Int) (l : Lf) : Bool := decide (1 ≤ n ∧ n ≤ 65536 ∧ 0 ≤ l.at_ ∧ l.at_ < n) && (l.path.all (fun x => decide (x.length = 32)) && (keyB l.key && decide (l.val.length ≤ 65535)))
def holdsB (root : List UInt8) (n : Int) (l : Lf) : Bool := fitsB n l && (match upT nodeH (leafH l.key l.val) l.at_.toNat n.toNat l.path with | none => false | some h => decide (rootH n.toNat h = root))

end Go.Proofs.Ytpcoonnfaoakhaa
namespace Go.Proofs.Ytpcoonnfaoakhaa
set_option maxRecDepth 100000
open Go Go.RowKit
set_option linter.unusedVariables false
variable {w w' : World} {B : Nat}

theorem PathV.none_ (A : Option Addr) (c : Nat) (hc : c ≤ maxLen) : PathV w B (.slice A 0 c) [] := ⟨A, c, rfl, Nat.zero_le _, hc, fun h => absurd h (by simp)⟩
theorem PathV.form {v : Value} {q : List (List UInt8)} (h : PathV w B v q) : ∃ A c, v = .slice A q.length c := by
  obtain ⟨A, c, rfl, _⟩ := h
  exact ⟨A, c, rfl⟩

def endB (root : List UInt8) (n : Nat) (o : Option (List UInt8)) : Bool := match o with | none => false | some h => decide (rootH n h = root)
end Go.Proofs.Ytpcoonnfaoakhaa
namespace Go.Proofs.Ytpcoonnfaoakhaa
set_option maxRecDepth 100000
open Go Go.RowKit
set_option linter.unusedVariables false
variable {w w' : World} {B : Nat}

/-- a leaf in a row of leaves -/
def LeafAt (w : World) (B b o : Nat) (l : Lf) : Prop :=
  ∃ sv pv, w.cell? ⟨b, o, none⟩ = some (.int .i64 l.at_) ∧ w.cell? ⟨b, o + 1, none⟩ = some (.string l.key) ∧ w.cell? ⟨b, o + 2, none⟩ = some sv ∧ w.cell? ⟨b, o + 3, none⟩ = some pv ∧ LeafV w B (.agg #[.int .i64 l.at_, .string l.key, sv, pv]) l
/-- leaves handed in -/
def LeavesV (w : World) (B : Nat) (v : Value) (ls : List Lf) : Prop :=
  ∃ A c, v = .slice A ls.length c ∧ ls.length ≤ c ∧ c ≤ maxLen ∧ (0 < ls.length → ∃ b o, A = some ⟨b, o, none⟩ ∧ b < B ∧ ∀ j (h : j < ls.length), LeafAt w B b (o + j * 4) ls[j])
theorem LeafAt.below {b o : Nat} {l : Lf} (h : LeafAt w B b o l) (hb : Below B w w') (hl : b < B) : LeafAt w' B b o l := by
  obtain ⟨sv, pv, h0, h1, h2, h3, h4⟩ := h
  exact ⟨sv, pv, (hb.cell (p := ⟨b, o, none⟩) hl).trans h0, (hb.cell (p := ⟨b, o + 1, none⟩) hl).trans h1, (hb.cell (p := ⟨b, o + 2, none⟩) hl).trans h2, (hb.cell (p := ⟨b, o + 3, none⟩) hl).trans h3, h4.below hb⟩
theorem LeafAt.more {B' b o : Nat} {l : Lf} (h : LeafAt w B b o l) (hB : B ≤ B') : LeafAt w B' b o l := by
  obtain ⟨sv, pv, h0, h1, h2, h3, h4⟩ := h
  exact ⟨sv, pv, h0, h1, h2, h3, h4.more hB⟩
theorem LeavesV.below {v : Value} {ls : List Lf} (h : LeavesV w B v ls) (hb : Below B w w') : LeavesV w' B v ls := by
  obtain ⟨A, c, rfl, h1, h2, hp⟩ := h
  refine ⟨A, c, rfl, h1, h2, fun h0 => ?_⟩
  obtain ⟨b, o, rfl, hlt, hc⟩ := hp h0
  exact ⟨b, o, rfl, hlt, fun j hj => (hc j hj).below hb hlt⟩
theorem LeavesV.more {B' : Nat} {v : Value} {ls : List Lf} (h : LeavesV w B v ls) (hB : B ≤ B') : LeavesV w B' v ls := by
  obtain ⟨A, c, rfl, h1, h2, hp⟩ := h
  refine ⟨A, c, rfl, h1, h2, fun h0 => ?_⟩
  obtain ⟨b, o, rfl, hlt, hc⟩ := hp h0
  exact ⟨b, o, rfl, by omega, fun j hj => (hc j hj).more hB⟩
structure Pf where
  n : Int
  ls : List Lf
/-- a proof handed in -/
def ProofV (w : World) (B : Nat) (v : Value) (p : Pf) : Prop :=
  ∃ lv, v = .agg #[.int .i64 p.n, lv] ∧ LeavesV w B lv p.ls ∧ -9223372036854775808 ≤ p.n ∧ p.n ≤ 9223372036854775807
theorem ProofV.below {v : Value} {p : Pf} (h : ProofV w B v p) (hb : Below B w w') : ProofV w' B v p := by
  obtain ⟨lv, rfl, h1, h2⟩ := h
  exact ⟨lv, rfl, h1.below hb, h2⟩
theorem ProofV.more {B' : Nat} {v : Value} {p : Pf} (h : ProofV w B v p) (hB : B ≤ B') : ProofV w B' v p := by
  obtain ⟨lv, rfl, h1, h2⟩ := h
  exact ⟨lv, rfl, h1.more hB, h2⟩

def verifyB (root : List UInt8) (key : ByteArray) (val : List UInt8) (p : Pf) : Bool := match p.ls with
  | [l] => (l.key.toList == key.toList) && (sameB l.val val && holdsB root p.n l)
  | _ => false
end Go.Proofs.Ytpcoonnfaoakhaa
namespace Go.Proofs.Ytpcoonnfaoakhaa
set_option maxRecDepth 100000
open Go Go.RowKit
set_option linter.unusedVariables false
variable {w w' : World} {B : Nat}

/-- a leaf's way made: its value, its way -/
def leafM (ps : List Pr) (i : Nat) : Lf := ⟨(i : Int), (ps.getD i (⟨#[]⟩, [])).1, (ps.getD i (⟨#[]⟩, [])).2, wayT nodeH (leaves ps) i⟩
/-- a leaf of the call's own -/
def LeafN (w : World) (B0 B : Nat) (v : Value) (l : Lf) : Prop :=
  ∃ sv pv, v = .agg #[.int .i64 l.at_, .string l.key, sv, pv] ∧ Own w B sv l.val ∧ OwnR w B0 B pv l.path
end Go.Proofs.Ytpcoonnfaoakhaa
namespace Go.Proofs.Ytpcoonnfaoakhaa
set_option maxRecDepth 100000
open Go Go.RowKit
set_option linter.unusedVariables false
variable {w w' : World} {B : Nat}

def absentB (root : List UInt8) (key : ByteArray) (p : Pf) : Bool := keyB key && match p.ls with
  | [] => decide (p.n = 0) && sameB root rootE
  | [l] => ((decide (l.at_ = 0) && !(ltS l.key key || l.key.toList == key.toList)) || (decide (l.at_ = IntKind.i64.wrap (p.n - 1)) && ltS l.key key)) && holdsB root p.n l
  | [a, b] => (decide (IntKind.i64.wrap (a.at_ + 1) = b.at_) && (ltS a.key key && ltS key b.key)) && (holdsB root p.n a && holdsB root p.n b)
  | _ => false
end Go.Proofs.Ytpcoonnfaoakhaa
namespace Go.Proofs.Ytpcoonnfaoakhaa
set_option maxRecDepth 100000
open Go Go.RowKit
set_option linter.unusedVariables false
variable {w w' : World} {B : Nat}

/-- the hashes beside a leaf's way in the first k rows -/
def wayK (L : List (List UInt8)) (i : Nat) : Nat → List (List UInt8)
  | 0 => []
  | k + 1 => wayK L i k ++ (if ((i / 2 ^ k) ^^^ 1) < (upN k L).length then [(upN k L).getD ((i / 2 ^ k) ^^^ 1) []] else [])
end Go.Proofs.Ytpcoonnfaoakhaa
namespace Go.Proofs.Ytpcoonnfaoakhaa
set_option maxRecDepth 100000
open Go Go.RowKit
set_option linter.unusedVariables false

theorem bl_irrefl : ∀ a : List UInt8, Op.bytesLess a a = false
  | [] => rfl
  | a :: l => by
    have : ¬ a < a := by rw [UInt8.lt_iff_toNat_lt]; omega
    simp [Op.bytesLess, bl_irrefl l, this]
theorem bl_cons (a b : UInt8) (l m : List UInt8) : Op.bytesLess (a :: l) (b :: m) = true ↔ a < b ∨ (a = b ∧ Op.bytesLess l m = true) := by
  simp [Op.bytesLess]
theorem bl_trans : ∀ a b c : List UInt8, Op.bytesLess a b = true → Op.bytesLess b c = true → Op.bytesLess a c = true
  | _, _, [], _, h => by simp [Op.bytesLess] at h
  | _, [], _ :: _, h, _ => by cases ‹List UInt8› <;> simp [Op.bytesLess] at h
  | [], b :: l, c :: m, h1, h2 => rfl
  | a :: k, b :: l, c :: m, h1, h2 => by
    rw [bl_cons] at h1 h2 ⊢
    simp only [UInt8.lt_iff_toNat_lt, ← UInt8.toNat_inj] at h1 h2 ⊢
    rcases h1 with h1 | ⟨h1, h1'⟩ <;> rcases h2 with h2 | ⟨h2, h2'⟩
    · left; omega
    · left; omega
    · left; omega
    · right; exact ⟨by omega, bl_trans k l m h1' h2'⟩
theorem bl_tri : ∀ a b : List UInt8, Op.bytesLess a b = false → a ≠ b → Op.bytesLess b a = true
  | [], [], _, h => absurd rfl h
  | [], _ :: _, h, _ => by simp [Op.bytesLess] at h
  | _ :: _, [], _, _ => rfl
  | a :: l, b :: m, h, hne => by
    rw [bl_cons]
    have h' : ¬ (a < b ∨ (a = b ∧ Op.bytesLess l m = true)) := by rw [← bl_cons, h]; simp
    simp only [UInt8.lt_iff_toNat_lt, ← UInt8.toNat_inj] at h' ⊢
    by_cases hab : a.toNat = b.toNat
    · right
      refine ⟨hab.symm, bl_tri l m ?_ fun e => hne ?_⟩
      · cases hlm : Op.bytesLess l m with
        | false => rfl
        | true => exact absurd (Or.inr ⟨hab, hlm⟩) h'
      · rw [UInt8.toNat_inj.1 hab, e]
    · left
      by_cases hlt : a.toNat < b.toNat
      · exact absurd (Or.inl hlt) h'
      · omega
theorem toList_inj {a b : ByteArray} (h : a.toList = b.toList) : a = b := by
  rw [ByteArray.toList_eq, ByteArray.toList_eq] at h
  exact ByteArray.ext (Array.toList_inj.1 h)
theorem ltS_irrefl (a : ByteArray) : ltS a a = false := bl_irrefl _
theorem ltS_trans {a b c : ByteArray} (h : ltS a b = true) (k : ltS b c = true) : ltS a c = true := bl_trans _ _ _ h k
theorem ltS_tri {a b : ByteArray} (h : ltS a b = false) (k : a ≠ b) : ltS b a = true := bl_tri _ _ h fun e => k (toList_inj e)
theorem ltS_ne {a b : ByteArray} (h : ltS a b = true) : a ≠ b := fun e => by rw [e, ltS_irrefl] at h; cases h
theorem ltS_asym {a b : ByteArray} (h : ltS a b = true) : ltS b a = false := by
  cases hb : ltS b a with
  | false => rfl
  | true => have := ltS_trans h hb; rw [ltS_irrefl] at this; cases this

def hitB (ps : List Pr) (key : ByteArray) : Bool := match ps[placeM key ps]? with | some p => p.1.toList == key.toList | none => false
def leavesP (ps : List Pr) (key : ByteArray) : List Lf := if hitB ps key = true then [leafM ps (placeM key ps)] else
  (if 0 < placeM key ps then [leafM ps (placeM key ps - 1)] else []) ++ (if placeM key ps < ps.length then [leafM ps (placeM key ps)] else [])
/-- the proof about a key, or the error -/
def proveM (ps : List Pr) (key : ByteArray) : Pf × Int := if ordB ps = true ∧ keyB key = true then (⟨(ps.length : Int), leavesP ps key⟩, 0) else (⟨0, []⟩, 60)
end Go.Proofs.Ytpcoonnfaoakhaa
namespace Go.Proofs.Ytpcoonnfaoakhaa
set_option maxRecDepth 100000
open Go Go.RowKit
set_option linter.unusedVariables false
variable {w w' : World} {B : Nat}

/-- what a leaf's four cells say -/
def LfC (w : World) (c : List Value) (l : Lf) : Prop := ∃ sv pv, c = [.int .i64 l.at_, .string l.key, sv, pv] ∧ RdS w 0 sv l.val ∧ RowS w 0 pv l.path ∧ l.key.size ≤ maxLen ∧ -9223372036854775808 ≤ l.at_ ∧ l.at_ ≤ 9223372036854775807
theorem LfC.up {c : List Value} {l : Lf} (h : LfC w c l) (hb : Below w.heap.size w w') : LfC w' c l := by
  obtain ⟨sv, pv, e, q1, q2, q3⟩ := h
  exact ⟨sv, pv, e, q1.up hb, q2.up hb, q3⟩
theorem LfC.len {c : List Value} {l : Lf} (h : LfC w c l) : c.length = 4 := by obtain ⟨sv, pv, e, _⟩ := h; rw [e]; rfl
theorem LfC.one {c : List Value} {l : Lf} (h : LfC w c l) : ∀ u ∈ c, u.oneCell' = true := by
  obtain ⟨sv, pv, e, q1, q2, _⟩ := h
  obtain ⟨A1, c1, rfl⟩ := q1.1.form
  obtain ⟨A2, c2, rfl⟩ := q2.form
  subst e
  intro u hu
  simp only [List.mem_cons, List.not_mem_nil, or_false] at hu
  rcases hu with rfl | rfl | rfl | rfl <;> rfl
abbrev OwnL (w : World) (B : Nat) (v : Value) (ls : List Lf) : Prop := OwnX 98 4 LfC w B v ls
theorem OwnL.up {v : Value} {ls : List Lf} (h : OwnL w B v ls) (hb : Below w.heap.size w w') : OwnL w' B v ls := OwnX.up h hb fun c a hc => hc.up hb
/-- a proof of the call's own -/
def ProofN (w : World) (B : Nat) (v : Value) (p : Pf) : Prop := ∃ lv, v = .agg #[.int .i64 p.n, lv] ∧ OwnL w B lv p.ls
theorem ProofN.up {v : Value} {p : Pf} (h : ProofN w B v p) (hb : Below w.heap.size w w') : ProofN w' B v p := by
  obtain ⟨lv, rfl, hl⟩ := h
  exact ⟨lv, rfl, OwnL.up hl hb⟩
theorem ProofN.more {B' : Nat} {v : Value} {p : Pf} (h : ProofN w B v p) (hB : B' ≤ B) : ProofN w B' v p := by
  obtain ⟨lv, rfl, hl⟩ := h
  exact ⟨lv, rfl, OwnX.more hl hB⟩
/-- a leaf made, as cells -/
theorem LeafN.cells {v : Value} {l : Lf} (h : LeafN w 0 B v l) (hk : l.key.size ≤ maxLen) (h1 : -9223372036854775808 ≤ l.at_) (h2 : l.at_ ≤ 9223372036854775807) : ∃ A1 n1 c1 A2 n2 c2, v = .agg #[.int .i64 l.at_, .string l.key, .slice A1 n1 c1, .slice A2 n2 c2] ∧ LfC w [.int .i64 l.at_, .string l.key, .slice A1 n1 c1, .slice A2 n2 c2] l := by
  obtain ⟨sv, pv, rfl, q1, q2⟩ := h
  obtain ⟨A1, c1, rfl⟩ := q1.form
  obtain ⟨A2, c2, rfl⟩ := q2.form
  exact ⟨A1, _, c1, A2, _, c2, rfl, _, _, rfl, q1.rdS, q2.rowS, hk, h1, h2⟩

/-- the leaves that are told of places -/
def selM (ps : List Pr) (T : List Int) : List Lf := (T.filter fun i => decide (0 ≤ i ∧ i < (ps.length : Int))).map fun i => leafM ps i.toNat
end Go.Proofs.Ytpcoonnfaoakhaa
namespace Go.Proofs.Ytpcoonnfaoakhaa
set_option maxRecDepth 100000
open Go
set_option linter.unusedVariables false

/-- by rising keys -/
def Rise (l : List Pr) : Prop := l.Pairwise (fun p q => ltS p.1 q.1 = true)
/-- a key set, or gone -/
abbrev Chn := ByteArray × Option (List UInt8)
/-- what lies under a key -/
def getL : List Pr → ByteArray → Option (List UInt8)
  | [], _ => none
  | p :: l, s => if p.1 = s then some p.2 else getL l s
/-- the document's put, as its loop goes -/
def putG (c : Chn) : Bool → List Pr → List Pr
  | done, [] => if done then [] else [(c.1, c.2.getD [])]
  | done, p :: r => (if !done && !ltS p.1 c.1 then [(c.1, c.2.getD [])] else []) ++ (if p.1 = c.1 then [] else [p]) ++ putG c (done || (!done && !ltS p.1 c.1)) r
def putL (c : Chn) (l : List Pr) : List Pr := putG c c.2.isNone l

theorem getL_mem {l : List Pr} {s : ByteArray} {v : List UInt8} (h : getL l s = some v) : (s, v) ∈ l := by
  induction l with
  | nil => cases h
  | cons p l ih =>
    unfold getL at h
    by_cases e : p.1 = s
    · rw [if_pos e] at h
      have : p = (s, v) := by rw [← e, ← Option.some.inj h]
      simp [this]
    · rw [if_neg e] at h
      exact List.mem_cons_of_mem _ (ih h)
theorem getL_none {l : List Pr} {s : ByteArray} : getL l s = none ↔ ∀ p ∈ l, p.1 ≠ s := by
  induction l with
  | nil => simp [getL]
  | cons p l ih =>
    unfold getL
    by_cases e : p.1 = s
    · simp [e]
    · simp [e, ih]
theorem Rise.get {l : List Pr} (h : Rise l) {p : Pr} (hp : p ∈ l) : getL l p.1 = some p.2 := by
  induction l with
  | nil => cases hp
  | cons q l ih =>
    obtain ⟨h1, h2⟩ := List.pairwise_cons.1 h
    unfold getL
    rcases List.mem_cons.1 hp with rfl | hp
    · simp
    · rw [if_neg (ltS_ne (h1 p hp))]
      exact ih h2 hp
theorem Rise.ext {l l' : List Pr} (h : Rise l) (h' : Rise l') (e : ∀ s, getL l s = getL l' s) : l = l' := by
  induction l generalizing l' with
  | nil =>
    cases l' with
    | nil => rfl
    | cons q l' => have := e q.1; simp [getL] at this
  | cons p l ih =>
    cases l' with
    | nil => have := e p.1; simp [getL] at this
    | cons q l' =>
      obtain ⟨h1, h2⟩ := List.pairwise_cons.1 h
      obtain ⟨g1, g2⟩ := List.pairwise_cons.1 h'
      have hpq : p.1 = q.1 := by
        refine Decidable.byContradiction fun hne => ?_
        have a1 := (e p.1).symm.trans (h.get (List.mem_cons_self ..))
        have a2 := (e q.1).trans (h'.get (List.mem_cons_self ..))
        have b1 := getL_mem a1
        have b2 := getL_mem a2
        rcases List.mem_cons.1 b1 with c1 | c1
        · exact hne (by rw [← c1])
        · rcases List.mem_cons.1 b2 with c2 | c2
          · exact hne (by rw [← c2])
          · have d1 := g1 _ c1
            have d2 := h1 _ c2
            rw [ltS_asym d1] at d2
            cases d2
      have hp2 : p.2 = q.2 := by
        have a1 := (h.get (List.mem_cons_self ..)).symm.trans (e p.1)
        rw [hpq, h'.get (List.mem_cons_self ..)] at a1
        exact Option.some.inj a1
      have hp : p = q := Prod.ext hpq hp2
      subst hp
      congr 1
      refine ih h2 g2 fun s => ?_
      have := e s
      unfold getL at this
      by_cases es : p.1 = s
      · rw [getL_none.2 fun x hx => ?_, getL_none.2 fun x hx => ?_]
        · exact fun k => ltS_ne (g1 x hx) (es.trans k.symm)
        · exact fun k => ltS_ne (h1 x hx) (es.trans k.symm)
      · simpa [es] using this

theorem putG_true (c : Chn) (l : List Pr) : putG c true l = l.filter (fun p => !decide (p.1 = c.1)) := by
  induction l with
  | nil => simp [putG]
  | cons p l ih =>
    unfold putG
    by_cases e : p.1 = c.1 <;> simp [e, ih]
theorem mem_putF {c : Chn} {l : List Pr} {p : Pr} (h : p ∈ putG c false l) : p.1 = c.1 ∨ p ∈ l := by
  induction l with
  | nil => simp [putG] at h; exact .inl (by rw [h])
  | cons q l ih =>
    unfold putG at h
    cases hl : ltS q.1 c.1 with
    | true =>
      simp only [hl, Bool.not_true, Bool.and_false, Bool.or_false, if_false, Bool.false_eq_true, List.nil_append, List.mem_append] at h
      rcases h with h | h
      · split at h
        · cases h
        · exact .inr (by simp at h; simp [h])
      · rcases ih h with h | h
        · exact .inl h
        · exact .inr (List.mem_cons_of_mem _ h)
    | false =>
      simp only [hl, Bool.not_false, Bool.and_true, Bool.or_true, if_true, List.mem_append] at h
      rcases h with (h | h) | h
      · simp at h; exact .inl (by rw [h])
      · split at h
        · cases h
        · exact .inr (by simp at h; simp [h])
      · rw [putG_true] at h
        exact .inr (List.mem_cons_of_mem _ (List.mem_filter.1 h).1)
theorem Rise.putF {l : List Pr} (h : Rise l) (c : Chn) : Rise (putG c false l) := by
  induction l with
  | nil => simp [putG, Rise]
  | cons p l ih =>
    obtain ⟨h1, h2⟩ := List.pairwise_cons.1 h
    unfold putG
    cases hl : ltS p.1 c.1 with
    | true =>
      simp only [ltS_ne hl, Bool.not_true, Bool.and_false, Bool.or_false, if_false, Bool.false_eq_true, List.nil_append, List.singleton_append]
      refine List.pairwise_cons.2 ⟨fun q hq => ?_, ih h2⟩
      rcases mem_putF hq with e | hq
      · rw [e]; exact hl
      · exact h1 q hq
    | false =>
      simp only [Bool.not_false, Bool.and_true, Bool.or_true, if_true, List.singleton_append, List.cons_append]
      rw [putG_true]
      have hr : Rise (l.filter (fun p => !decide (p.1 = c.1))) := List.Pairwise.sublist List.filter_sublist h2
      by_cases e : p.1 = c.1
      · rw [if_pos e, List.nil_append]
        exact List.pairwise_cons.2 ⟨fun q hq => by rw [← e]; exact h1 q (List.mem_filter.1 hq).1, hr⟩
      · rw [if_neg e]
        have hc := ltS_tri hl e
        show Rise ((c.1, c.2.getD []) :: p :: l.filter (fun p => !decide (p.1 = c.1)))
        refine List.pairwise_cons.2 ⟨fun q hq => ?_, List.pairwise_cons.2 ⟨fun q hq => h1 q (List.mem_filter.1 hq).1, hr⟩⟩
        rcases List.mem_cons.1 hq with rfl | hq
        · exact hc
        · exact ltS_trans hc (h1 q (List.mem_filter.1 hq).1)
theorem Rise.put {l : List Pr} (h : Rise l) (c : Chn) : Rise (putL c l) := by
  unfold putL
  cases c.2 with
  | none => simp only [Option.isNone_none]; rw [putG_true]; exact List.Pairwise.sublist List.filter_sublist h
  | some v => simp only [Option.isNone_some]; exact h.putF c

/-! ### a branch's changes -/
/-- what a list of changes says of a key: nothing, gone, or a value -/
def getC : List Chn → ByteArray → Option (Option (List UInt8))
  | [], _ => none
  | c :: l, s => if c.1 = s then some c.2 else getC l s
/-- no key twice -/
def ApartC (l : List Chn) : Prop := l.Pairwise (fun p q => p.1 ≠ q.1)
/-- one more change, as the document's do has it -/
def doC (l : List Chn) (c : Chn) : List Chn := l.filter (fun x => !decide (x.1 = c.1)) ++ [c]
/-- the pairs as a branch sees them -/
def allM (l : List Pr) (cs : List Chn) : List Pr := cs.foldl (fun l c => putL c l) l

theorem getC_cons (c : Chn) (l : List Chn) (s : ByteArray) : getC (c :: l) s = if c.1 = s then some c.2 else getC l s := rfl
theorem ApartC.get {l : List Chn} (h : ApartC l) {c : Chn} (hc : c ∈ l) : getC l c.1 = some c.2 := by
  induction l with
  | nil => cases hc
  | cons d l ih =>
    obtain ⟨h1, h2⟩ := List.pairwise_cons.1 h
    rw [getC_cons]
    rcases List.mem_cons.1 hc with rfl | hc
    · simp
    · rw [if_neg (h1 c hc)]
      exact ih h2 hc
theorem ApartC.do {l : List Chn} (h : ApartC l) (c : Chn) : ApartC (doC l c) := by
  unfold doC
  refine List.pairwise_append.2 ⟨List.Pairwise.sublist List.filter_sublist h, by simp, fun a ha b hb => ?_⟩
  rw [List.mem_singleton.1 hb]
  simpa using (List.mem_filter.1 ha).2
theorem Rise.all {l : List Pr} (h : Rise l) (cs : List Chn) : Rise (allM l cs) := by
  induction cs generalizing l with
  | nil => exact h
  | cons c cs ih => exact ih (h.put c)
/-! ### pairs gathered in any order, then put in order; those of a prefix -/
theorem Rise.filter {l : List Pr} (h : Rise l) (b : Pr → Bool) : Rise (l.filter b) := List.Pairwise.sublist List.filter_sublist h
end Go.Proofs.Ytpcoonnfaoakhaa
namespace Go.Proofs.Ytpcoonnfaoakhaa
set_option maxRecDepth 100000
open Go Go.RowKit
set_option linter.unusedVariables false

/-- the blocks that F names are maps -/
def AllMaps (w : World) (F : Nat → Prop) : Prop := ∀ k, F k → ∃ es c, w.heap[k]? = some (.map es c)

section
variable {w w' : World} {F : Nat → Prop} {B : Nat} {v : Value} {l : List UInt8}
theorem cell_map {p : Addr} {es : Array MapEntry} {c : Nat} (h : w.heap[p.block]? = some (.map es c)) : w.cell? p = none := by
  simp [World.cell?, h]
/-- bytes stay where maps alone have turned -/
theorem Rd.chg (h : Rd w B v l) (hc : Chg w w' F) (hF : AllMaps w F) (hB : B ≤ w.heap.size) : Rd w' B v l := by
  obtain ⟨A, c, hv, h1, h2, hp⟩ := h
  refine ⟨A, c, hv, h1, h2, fun h0 => ?_⟩
  obtain ⟨b, o, hA, hb, hcell⟩ := hp h0
  refine ⟨b, o, hA, hb, fun j hj => ?_⟩
  have h3 := hcell j hj
  have hn : ¬ F b := fun k => by
    obtain ⟨es, c, e⟩ := hF b k
    rw [cell_map (p := ⟨b, o + j, none⟩) e] at h3
    cases h3
  rw [cell_same (hc.block b (by omega) hn)]
  exact h3

/-- what an entry says: a value that reads as the bytes, or 'gone' -/
def EntryIs (w : World) (e : Value) : Option (List UInt8) → Prop
  | none => e = .agg #[.slice none 0 0, .bool true]
  | some l => ∃ sl, e = .agg #[sl, .bool false] ∧ Rd w w.heap.size sl l
theorem EntryIs.chg {e : Value} {x : Option (List UInt8)} (h : EntryIs w e x) (hc : Chg w w' F) (hF : AllMaps w F) : EntryIs w' e x := by
  cases x with
  | none => exact h
  | some l =>
    obtain ⟨sl, h1, h2⟩ := h
    exact ⟨sl, h1, (h2.chg hc hF (Nat.le_refl _)).more hc.size⟩
/-- what a layer's map says: nothing of a key, or an entry -/
def SaysF (w : World) (g : ByteArray → Option Value) (f : ByteArray → Option (Option (List UInt8))) : Prop :=
  ∀ s : ByteArray, s.size ≤ maxLen → (g s = none ∧ f s = none) ∨ ∃ e x, g s = some e ∧ f s = some x ∧ EntryIs w e x
theorem SaysF.chg {g : ByteArray → Option Value} {f : ByteArray → Option (Option (List UInt8))} (h : SaysF w g f) (hc : Chg w w' F) (hF : AllMaps w F) : SaysF w' g f := by
  intro s hs
  rcases h s hs with h | ⟨e, x, h1, h2, h3⟩
  · exact .inl h
  · exact .inr ⟨e, x, h1, h2, h3.chg hc hF⟩
theorem SaysF.put {g : ByteArray → Option Value} {f : ByteArray → Option (Option (List UInt8))} (h : SaysF w g f) (key : ByteArray) {e : Value} {x : Option (List UInt8)} (he : EntryIs w e x) :
    SaysF w (fun s => if s = key then some e else g s) (fun s => if s = key then some x else f s) := by
  intro s hs
  by_cases k : s = key
  · exact .inr ⟨e, x, by simp [k], by simp [k], he⟩
  · simpa [k] using h s hs
theorem SaysF.del {g : ByteArray → Option Value} {f : ByteArray → Option (Option (List UInt8))} (h : SaysF w g f) (key : ByteArray) :
    SaysF w (fun s => if s = key then none else g s) (fun s => if s = key then none else f s) := by
  intro s hs
  by_cases k : s = key
  · exact .inl (by simp [k])
  · simpa [k] using h s hs
end
/-- maps alone have turned -/
def Kept (w w' : World) : Prop := ∃ F, Chg w w' F ∧ AllMaps w F
section
variable {w w' w1 w2 : World}
theorem Kept.cell (h : Kept w w') {p : Addr} {v : Value} (e : w.cell? p = some v) : w'.cell? p = some v := by
  obtain ⟨F, h1, h2⟩ := h
  have hn : ¬ F p.block := fun k => by
    obtain ⟨es, c, e'⟩ := h2 _ k
    rw [cell_map e'] at e; cases e
  rw [cell_same (h1.block p.block (World.block_lt_of_cell? w p e) hn)]
  exact e
theorem Kept.rd {v : Value} {l : List UInt8} (h : Kept w w') (hr : Rd w w.heap.size v l) : Rd w' w'.heap.size v l := by
  obtain ⟨F, h1, h2⟩ := h
  exact (hr.chg h1 h2 (Nat.le_refl _)).more h1.size
theorem Kept.refl (w : World) : Kept w w := ⟨fun _ => False, Chg.refl _ _, fun _ h => h.elim⟩
theorem Kept.drew (w : World) : Kept w w.drew := ⟨fun _ => False, Chg.drew _ _, fun _ h => h.elim⟩
end
end Go.Proofs.Ytpcoonnfaoakhaa
namespace Go.Proofs.Ytpcoonnfaoakhaa
set_option maxRecDepth 100000
open Go Go.RowKit
set_option linter.unusedVariables false

structure OrdV where
  t : ByteArray
  d : ByteArray
  x : U4
def OrdV.cells (o : OrdV) : Array Value := #[.string o.t, .string o.d, .int .u64 (o.x.a : Int), .int .u64 (o.x.b : Int), .int .u64 (o.x.c : Int), .int .u64 (o.x.d : Int)]
def OrdsAt (W : World) (v : Value) (l : List OrdV) : Prop := ∃ A c, v = .slice A l.length c ∧ (0 < l.length → ∃ b o, A = some ⟨b, o, none⟩ ∧ b < W.heap.size ∧
  ∀ (j : Nat) (h : j < l.length) (i : Nat) (u : Value), i < 6 → l[j].cells[i]? = some u → W.cell? ⟨b, o + j * 6 + i, none⟩ = some u)
theorem OrdsAt.keptX {W W' : World} {v : Value} {l : List OrdV} (h : OrdsAt W v l) (hk : Kept W W') : OrdsAt W' v l := by
  obtain ⟨A, c, rfl, hc⟩ := h
  refine ⟨A, c, rfl, fun h0 => ?_⟩
  obtain ⟨b, o, rfl, hb1, hcell⟩ := hc h0
  have hs : W.heap.size ≤ W'.heap.size := by obtain ⟨F, h1, _⟩ := hk; exact h1.size
  exact ⟨b, o, rfl, Nat.lt_of_lt_of_le hb1 hs, fun j hj i u hi hu => hk.cell (hcell j hj i u hi hu)⟩
end Go.Proofs.Ytpcoonnfaoakhaa
