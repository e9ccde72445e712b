/- Texts joined: AtP, ValA0, ValQ0, ValB, Ord0, MsgV, Make3. -/
import Derived.Test.YtpcoonnfaoakhaaGreatDoorM14
import Derived.Test.YtpcoonnfaoakhaaGreatDoorM15
import Derived.Test.YtpcoonnfaoakhaaGreatDoorM09
import Derived.Test.YtpcoonnfaoakhaaGreatDoorM01
import Derived.LoopTactic
import Derived.BigQuiet
import Derived.Deep.QuietTactic
import Derived.WalkLawsBesides
import Derived.StringKeys
import Derived.Maps.OwnSet
import Derived.Test.YtpcoonnfaoakhaaGreatDoorM05
import Derived.Deep.RegionHeldLaw
import Derived.Test.YtpcoonnfaoakhaaGreatDoorM02
import Derived.Test.YtpcoonnfaoakhaaGreatDoorM08
import Derived.Test.YtpcoonnfaoakhaaGreatDoorM18
import Derived.Test.YtpcoonnfaoakhaaGreatDoorM13
namespace Go.Proofs.YtpcoonnfaoakhaaGreatDoor
set_option maxRecDepth 100000
open Go Go.RowKit
set_option linter.unusedVariables false

theorem Kept.blockP {w w' : World} (h : Kept w w') {b : Nat} {cs : Array Value} {t : TypeId} {fr : Nat × Nat} (hb : w.heap[b]? = some (.cells cs t fr)) : w'.heap[b]? = some (.cells cs t fr) := by
  obtain ⟨F, h1, h2⟩ := h
  have hn : ¬ F b := fun k => by
    obtain ⟨es, c, e⟩ := h2 _ k
    rw [hb] at e; cases e
  rw [h1.block b (blk_lt hb) hn]
  exact hb
section
variable {W W' : World} {y : Lyr} {l : List Lyr} {R : List Pr} {k : Nat}
theorem At.rise (h : At W y l R k W') : Rise R := by obtain ⟨n, f, h1, h2, h3, h4⟩ := h.b; exact h2.rise
theorem At.pairs (h : At W y l R k W') (hn : y.n + k + sumN l ≤ 1000000000) (pfx : ByteArray) (hp : pfx.size ≤ maxLen) :
    Calls Tryz.prog 15 #[.pointer (some ⟨y.b, 0, none⟩), .string pfx] W' fun e w' => ∃ v, e = .returned v ∧ OutP w' W'.heap.size v (R.filter (fun p => begB pfx p.1)) ∧ Below W'.heap.size W' w' := by
  obtain ⟨n, f, h1, h2, h3, h4⟩ := h.b
  have hs : SeenL pfx (⟨y.b, y.m, n, f⟩ :: l) (R.filter (fun p => begB pfx p.1)) := ⟨h2.rise.filter _, fun p hp => h2.small p (List.mem_filter.1 hp).1, fun s hs => by
    have := h2.get s hs
    rw [begB_empty, if_pos rfl] at this
    rw [getL_filter, this]⟩
  exact pairs_any h1 (by simp [sumN] at hn ⊢; omega) pfx hp hs
theorem At.root (h : At W y l R k W') (hn : y.n + k + sumN l ≤ 1000000000) (fr : TypeId × Nat × Nat) (hk : W'.heap[0]? = some (.cells kVals fr.1 fr.2)) :
    Calls Tryz.prog 9 #[.pointer (some ⟨y.b, 0, none⟩)] W' fun e w' => ∃ v, e = .returned v ∧ Own w' W'.heap.size v (rootM R).1 ∧ Below W'.heap.size W' w' := by
  obtain ⟨n, f, h1, h2, h3, h4⟩ := h.b
  exact sroot_any h1 (by simp [sumN] at hn ⊢; omega) h2 fr hk
end
/-- maps alone have turned: what floats in a region may be known of such worlds -/
def KepS (w Z : World) : Prop := Kept w Z
theorem KepS.refl (w : World) : KepS w w := Kept.refl w
/-! ### a cell of a struct of one's own is set: a store stays -/
section
variable {W w w' : World} {y : Lyr} {l : List Lyr} {R : List Pr} {k g : Nat} {cs : Array Value} {t : TypeId}
theorem At.size (h : At W y l R k w) : W.heap.size ≤ w.heap.size := by obtain ⟨n, f, h1, h2, h3, h4⟩ := h.b; exact h4.size
end
end Go.Proofs.YtpcoonnfaoakhaaGreatDoor
namespace Go.Proofs.YtpcoonnfaoakhaaGreatDoor
set_option maxRecDepth 100000
open Go

structure VD where
  name : ByteArray
  power : Nat

def VD.key (x : VD) : List UInt8 := x.name.data.toList
def okV (x : VD) : Bool := identL x.key && decide (1 ≤ x.power) && decide (x.power ≤ 4294967296)
def lessV (x y : VD) : Bool := Op.bytesLess x.name.toList y.name.toList
/-- is what stands at a place as it must be? -/
def goodAt (l : List VD) : Nat → Bool
  | 0 => (l[0]?).any okV
  | j + 1 => (l[j + 1]?).any fun x => okV x && (l[j]?).any fun y => lessV y x
def rightB (l : List VD) : Bool := decide (1 ≤ l.length) && decide (l.length ≤ 8) && (List.range l.length).all (goodAt l)

/-- the power of those whose name has a property -/
def vsum (p : List UInt8 → Bool) (l : List VD) : Nat := (l.map fun x => if p x.key = true then x.power else 0).sum
def powerN (l : List VD) : Nat := vsum (fun _ => true) l
def votedN (l : List VD) (votes : List (List UInt8)) : Nat := vsum (fun k => votes.contains k) l

def quorumB (l : List VD) (votes : List (List UInt8)) : Bool := rightB l && decide (2 * powerN l < 3 * votedN l votes)
def thirdB (l : List VD) (votes : List (List UInt8)) : Bool := rightB l && decide (powerN l < 3 * votedN l votes)

end Go.Proofs.YtpcoonnfaoakhaaGreatDoor
namespace Go.Proofs.YtpcoonnfaoakhaaGreatDoor
set_option maxRecDepth 100000
open Go Go.RowKit

def VD.fits (x : VD) : Prop := x.name.size ≤ maxLen ∧ x.power < 18446744073709551616
def ValAt (w : World) (b o : Nat) (x : VD) : Prop := w.cell? ⟨b, o, none⟩ = some (.string x.name) ∧ w.cell? ⟨b, o + 1, none⟩ = some (.int .u64 (x.power : Int))
/-- the slice value v reads as the validators l, in blocks below B -/
def ValsAt (w : World) (B : Nat) (v : Value) (l : List VD) : Prop :=
  ∃ A c, v = .slice A l.length c ∧ l.length ≤ c ∧ c ≤ maxLen ∧ (∀ x ∈ l, x.fits) ∧
    (0 < l.length → ∃ b o, A = some ⟨b, o, none⟩ ∧ b < B ∧ ∀ j (h : j < l.length), ValAt w b (o + j * 2) l[j])
/-- the slice value v reads as the texts l, in blocks below B -/
def StrsAt (w : World) (B : Nat) (v : Value) (l : List ByteArray) : Prop :=
  ∃ A c, v = .slice A l.length c ∧ l.length ≤ c ∧ c ≤ maxLen ∧ (∀ x ∈ l, x.size ≤ maxLen) ∧
    (0 < l.length → ∃ b o, A = some ⟨b, o, none⟩ ∧ b < B ∧ ∀ j (h : j < l.length), w.cell? ⟨b, o + j, none⟩ = some (.string l[j]))

section
variable {w w' : World} {B B' : Nat} {v : Value}
theorem ValsAt.below {l : List VD} (h : ValsAt w B v l) (hk : Below B w w') : ValsAt w' B v l := by
  obtain ⟨A, c, hv, hc, hm, hf, hp⟩ := h
  refine ⟨A, c, hv, hc, hm, hf, fun h0 => ?_⟩
  obtain ⟨b, o, hA, hb, ha⟩ := hp h0
  exact ⟨b, o, hA, hb, fun j hj => ⟨(hk.cell (p := ⟨b, o + j * 2, none⟩) hb).trans (ha j hj).1, (hk.cell (p := ⟨b, o + j * 2 + 1, none⟩) hb).trans (ha j hj).2⟩⟩
theorem ValsAt.more {l : List VD} (h : ValsAt w B v l) (hB : B ≤ B') : ValsAt w B' v l := by
  obtain ⟨A, c, hv, hc, hm, hf, hp⟩ := h
  refine ⟨A, c, hv, hc, hm, hf, fun h0 => ?_⟩
  obtain ⟨b, o, hA, hb, ha⟩ := hp h0
  exact ⟨b, o, hA, by omega, ha⟩
theorem ValsAt.up {l : List VD} (h : ValsAt w B v l) (hB : B ≤ w.heap.size) (hb : Below w.heap.size w w') : ValsAt w' w'.heap.size v l := ((h.more hB).below hb).more hb.size
theorem StrsAt.below {l : List ByteArray} (h : StrsAt w B v l) (hk : Below B w w') : StrsAt w' B v l := by
  obtain ⟨A, c, hv, hc, hm, hf, hp⟩ := h
  refine ⟨A, c, hv, hc, hm, hf, fun h0 => ?_⟩
  obtain ⟨b, o, hA, hb, ha⟩ := hp h0
  exact ⟨b, o, hA, hb, fun j hj => (hk.cell (p := ⟨b, o + j, none⟩) hb).trans (ha j hj)⟩
theorem StrsAt.more {l : List ByteArray} (h : StrsAt w B v l) (hB : B ≤ B') : StrsAt w B' v l := by
  obtain ⟨A, c, hv, hc, hm, hf, hp⟩ := h
  refine ⟨A, c, hv, hc, hm, hf, fun h0 => ?_⟩
  obtain ⟨b, o, hA, hb, ha⟩ := hp h0
  exact ⟨b, o, hA, by omega, ha⟩
theorem StrsAt.up {l : List ByteArray} (h : StrsAt w B v l) (hB : B ≤ w.heap.size) (hb : Below w.heap.size w w') : StrsAt w' w'.heap.size v l := ((h.more hB).below hb).more hb.size
theorem StrsAt.nil (w : World) (B : Nat) : StrsAt w B (.slice none 0 0) [] := ⟨none, 0, rfl, Nat.le_refl _, Nat.zero_le _, fun _ h => absurd h (by simp), fun h => absurd h (by simp)⟩
theorem StrsAt.form {l : List ByteArray} (h : StrsAt w B v l) : ∃ A c, v = .slice A l.length c := by obtain ⟨A, c, h, _⟩ := h; exact ⟨A, c, h⟩
theorem ValsAt.form {l : List VD} (h : ValsAt w B v l) : ∃ A c, v = .slice A l.length c := by obtain ⟨A, c, h, _⟩ := h; exact ⟨A, c, h⟩
end

def keysOf (l : List ByteArray) : List (List UInt8) := l.map fun s => s.data.toList
end Go.Proofs.YtpcoonnfaoakhaaGreatDoor
namespace Go.Proofs.YtpcoonnfaoakhaaGreatDoor
set_option maxRecDepth 100000
open Go Go.RowKit

end Go.Proofs.YtpcoonnfaoakhaaGreatDoor
namespace Go.Proofs.YtpcoonnfaoakhaaGreatDoor
set_option maxRecDepth 100000
open Go Go.RowKit Go.Maps Go.WideMaps

def litsOf (l : List ByteArray) : List Lit := l.map fun s => Lit.string s.data.toList
def setS (l : List ByteArray) : DataW Unit := setOf (.agg []) (litsOf l)
end Go.Proofs.YtpcoonnfaoakhaaGreatDoor
namespace Go.Proofs.YtpcoonnfaoakhaaGreatDoor
set_option maxRecDepth 100000
open Go Go.RowKit

end Go.Proofs.YtpcoonnfaoakhaaGreatDoor
namespace Go.Proofs.YtpcoonnfaoakhaaGreatDoor
set_option maxRecDepth 100000
open Go Go.RowKit

end Go.Proofs.YtpcoonnfaoakhaaGreatDoor
namespace Go.Proofs.YtpcoonnfaoakhaaGreatDoor
set_option maxRecDepth 100000
open Go Go.RowKit

end Go.Proofs.YtpcoonnfaoakhaaGreatDoor
namespace Go.Proofs.YtpcoonnfaoakhaaGreatDoor
set_option maxRecDepth 100000
open Go Go.RowKit

def formV (x : VD) : List UInt8 := be ((strBytes x.name).take 65535).length 4 ++ (strBytes x.name).take 65535 ++ be x.power 8
def formVs (l : List VD) : List UInt8 := l.flatMap formV
def bytesV (l : List VD) : List UInt8 := be l.length 8 ++ formVs l
/-- what a round of Bytes carries through its region -/
def BoxS (g B : Nat) (w0 : World) (x : VD) (v : Value) (L : List UInt8) (w' : World) : Prop := ValAt w' g 0 x ∧ g < w'.heap.size ∧ Own w' B v L ∧ Below B w0 w' ∧ B ≤ w'.heap.size ∧ v.ownBlock ≠ some g
section
variable {g B : Nat} {w0 w' w'' : World} {x : VD} {v : Value} {L : List UInt8}
theorem BoxS.drew (h : BoxS g B w0 x v L w') : BoxS g B w0 x v L w'.drew := ⟨h.1, h.2.1, h.2.2.1.drewN 1, below_drewN' h.2.2.2.1 1, h.2.2.2.2⟩
theorem BoxS.below (h : BoxS g B w0 x v L w') (hb : Below w'.heap.size w' w'') : BoxS g B w0 x v L w'' :=
  ⟨⟨(hb.cell (p := ⟨g, 0, none⟩) h.2.1).trans h.1.1, (hb.cell (p := ⟨g, 0 + 1, none⟩) h.2.1).trans h.1.2⟩, Nat.lt_of_lt_of_le h.2.1 hb.size, h.2.2.1.below hb, below_chain h.2.2.2.1 h.2.2.2.2.1 hb, Nat.le_trans h.2.2.2.2.1 hb.size, h.2.2.2.2.2⟩
theorem BoxS.c (h : BoxS g B w0 x v L w') : w'.cell? ⟨g, 0, none⟩ = some (.string x.name) ∧ w'.cell? ⟨g, 1, none⟩ = some (.int .u64 (x.power : Int)) := ⟨h.1.1, h.1.2⟩
theorem BoxS.grown (h : BoxS g B w0 x v L w') (hg : w'.grownBy w'' v.ownBlock) : w''.cell? ⟨g, 0, none⟩ = some (.string x.name) ∧ w''.cell? ⟨g, 1, none⟩ = some (.int .u64 (x.power : Int)) := by
  have := hg.block g h.2.1 (Ne.symm h.2.2.2.2.2)
  exact ⟨(World.cell?_of_block (a := ⟨g, 0, none⟩) this).trans h.1.1, (World.cell?_of_block (a := ⟨g, 0 + 1, none⟩) this).trans h.1.2⟩
end

def valsWord : ByteArray := ⟨#[118, 97, 108, 115]⟩
end Go.Proofs.YtpcoonnfaoakhaaGreatDoor
namespace Go.Proofs.YtpcoonnfaoakhaaGreatDoor
set_option maxRecDepth 100000
open Go Go.RowKit
set_option linter.unusedVariables false

structure OrdV where
  t : ByteArray
  d : ByteArray
  x : U4
def OrdV.cells (o : OrdV) : Array Value := #[.string o.t, .string o.d, .int .u64 (o.x.a : Int), .int .u64 (o.x.b : Int), .int .u64 (o.x.c : Int), .int .u64 (o.x.d : Int)]
def OrdsAt (W : World) (v : Value) (l : List OrdV) : Prop := ∃ A c, v = .slice A l.length c ∧ (0 < l.length → ∃ b o, A = some ⟨b, o, none⟩ ∧ b < W.heap.size ∧
  ∀ (j : Nat) (h : j < l.length) (i : Nat) (u : Value), i < 6 → l[j].cells[i]? = some u → W.cell? ⟨b, o + j * 6 + i, none⟩ = some u)
end Go.Proofs.YtpcoonnfaoakhaaGreatDoor
namespace Go.Proofs.YtpcoonnfaoakhaaGreatDoor
set_option maxRecDepth 100000
open Go Go.RowKit
set_option linter.unusedVariables false

section
variable {W W' : World} {v : Value}
end
/-- a header, with the rows of bytes that it names -/
structure HdW where
  ch : ByteArray
  ht : Nat
  tm : Nat
  vr : Value
  vv : Value
  vn : Value
  rt : List UInt8
  va : List UInt8
  nx : List UInt8
structure HdW.rd (W : World) (h : HdW) : Prop where
  r : Rd W W.heap.size h.vr h.rt
  v : Rd W W.heap.size h.vv h.va
  n : Rd W W.heap.size h.vn h.nx
  ht : h.ht < 18446744073709551616
  tm : h.tm < 18446744073709551616
/-- a packet -/
structure PkW where
  src : ByteArray
  dst : ByteArray
  seq : Nat
  vd : Value
  da : List UInt8
  ht : Nat
  tm : Nat
structure PkW.rd (W : World) (p : PkW) : Prop where
  d : Rd W W.heap.size p.vd p.da
  sq : p.seq < 18446744073709551616
  ht : p.ht < 18446744073709551616
  tm : p.tm < 18446744073709551616
/-- fees -/
structure PyW where
  d : ByteArray
  x : U4
  y : U4
  z : U4
/-- a message -/
structure MsgV where
  kd : Int
  to : ByteArray
  dn : ByteArray
  am : U4
  cl : ByteArray
  cc : ByteArray
  cn : ByteArray
  cd : ByteArray
  ch : ByteArray
  ce : ByteArray
  po : ByteArray
  pe : ByteArray
  ve : ByteArray
  od : Bool
  h : HdW
  o : HdW
  vs1 : Value
  s1 : List VD
  vs2 : Value
  s2 : List VD
  vs3 : Value
  s3 : List VD
  vt1 : Value
  t1 : List ByteArray
  vt2 : Value
  t2 : List ByteArray
  ht : Nat
  tm : Nat
  at_ : Nat
  per : Nat
  pk : PkW
  vak : Value
  ak : List UInt8
  vpf : Value
  pf : Pf
  nx : Nat
  pay : PyW
  vos : Value
  os : List OrdV
def MsgV.cells (m : MsgV) : List Value := [.int .i64 m.kd, .string m.to, .string m.dn, .int .u64 (m.am.a : Int), .int .u64 (m.am.b : Int), .int .u64 (m.am.c : Int), .int .u64 (m.am.d : Int), .string m.cl, .string m.cc, .string m.cn, .string m.cd, .string m.ch, .string m.ce, .string m.po, .string m.pe, .string m.ve, .bool m.od, .string m.h.ch, .int .u64 (m.h.ht : Int), .int .u64 (m.h.tm : Int), m.h.vr, m.h.vv, m.h.vn, .string m.o.ch, .int .u64 (m.o.ht : Int), .int .u64 (m.o.tm : Int), m.o.vr, m.o.vv, m.o.vn, m.vs1, m.vs2, m.vs3, m.vt1, m.vt2, .int .u64 (m.ht : Int), .int .u64 (m.tm : Int), .int .u64 (m.at_ : Int), .int .u64 (m.per : Int), .string m.pk.src, .string m.pk.dst, .int .u64 (m.pk.seq : Int), m.pk.vd, .int .u64 (m.pk.ht : Int), .int .u64 (m.pk.tm : Int), m.vak, .int .i64 m.pf.n, m.vpf, .int .u64 (m.nx : Int), .string m.pay.d, .int .u64 (m.pay.x.a : Int), .int .u64 (m.pay.x.b : Int), .int .u64 (m.pay.x.c : Int), .int .u64 (m.pay.x.d : Int), .int .u64 (m.pay.y.a : Int), .int .u64 (m.pay.y.b : Int), .int .u64 (m.pay.y.c : Int), .int .u64 (m.pay.y.d : Int), .int .u64 (m.pay.z.a : Int), .int .u64 (m.pay.z.b : Int), .int .u64 (m.pay.z.c : Int), .int .u64 (m.pay.z.d : Int), m.vos]
def MsgV.texts (m : MsgV) : List ByteArray := [m.to, m.dn, m.cl, m.cc, m.cn, m.cd, m.ch, m.ce, m.po, m.pe, m.ve, m.h.ch, m.o.ch, m.pk.src, m.pk.dst, m.pay.d]
def MsgV.lens (m : MsgV) : List Nat := [m.h.rt.length, m.h.va.length, m.h.nx.length, m.o.rt.length, m.o.va.length, m.o.nx.length, m.s1.length, m.s2.length, m.s3.length, m.t1.length, m.t2.length, m.pk.da.length, m.ak.length, m.pf.ls.length, m.os.length]
structure MsgV.rd (W : World) (m : MsgV) : Prop where
  in_kd : -9223372036854775808 ≤ m.kd ∧ m.kd ≤ 9223372036854775807
  ok_am : m.am.ok
  r_h : m.h.rd W
  r_o : m.o.rd W
  r_s1 : ValsAt W W.heap.size m.vs1 m.s1
  r_s2 : ValsAt W W.heap.size m.vs2 m.s2
  r_s3 : ValsAt W W.heap.size m.vs3 m.s3
  r_t1 : StrsAt W W.heap.size m.vt1 m.t1
  r_t2 : StrsAt W W.heap.size m.vt2 m.t2
  lt_ht : m.ht < 18446744073709551616
  lt_tm : m.tm < 18446744073709551616
  lt_at_ : m.at_ < 18446744073709551616
  lt_per : m.per < 18446744073709551616
  r_pk : m.pk.rd W
  r_ak : Rd W W.heap.size m.vak m.ak
  r_pf : LeavesV W W.heap.size m.vpf m.pf.ls
  in_pf : -9223372036854775808 ≤ m.pf.n ∧ m.pf.n ≤ 9223372036854775807
  lt_nx : m.nx < 18446744073709551616
  ok_pay : m.pay.x.ok ∧ m.pay.y.ok ∧ m.pay.z.ok
  r_os : OrdsAt W m.vos m.os
  ok_os : ∀ q ∈ m.os, q.x.ok ∧ q.t.size ≤ maxLen ∧ q.d.size ≤ maxLen
/-- all texts and rows are of at most n bytes or parts -/
structure MsgV.small (n : Nat) (m : MsgV) : Prop where
  t : ∀ s ∈ m.texts, s.size ≤ n
  l : ∀ k ∈ m.lens, k ≤ n
/-- a step -/
structure StepV where
  on : Int
  self : Nat
  now : Nat
  sg : ByteArray
  m : MsgV
def StepV.cells (x : StepV) : List Value := .int .i64 x.on :: .int .u64 (x.self : Int) :: .int .u64 (x.now : Int) :: .string x.sg :: x.m.cells
structure StepV.fine (x : StepV) : Prop where
  on : -9223372036854775808 ≤ x.on ∧ x.on ≤ 9223372036854775807
  self : x.self < 18446744073709551616
  now : x.now < 18446744073709551616
  sg : x.sg.size ≤ 1048576
  m : x.m.small 1048576
/-- steps handed in -/
def RdSt (W : World) (v : Value) (l : List StepV) : Prop := ∃ A c, v = .slice A l.length c ∧ (∀ x ∈ l, x.m.rd W) ∧ (0 < l.length → ∃ b o, A = some ⟨b, o, none⟩ ∧ b < W.heap.size ∧
  ∀ (j : Nat) (h : j < l.length) (i : Nat) (u : Value), i < 66 → l[j].cells[i]? = some u → W.cell? ⟨b, o + j * 66 + i, none⟩ = some u)
end Go.Proofs.YtpcoonnfaoakhaaGreatDoor
namespace Go.Proofs.YtpcoonnfaoakhaaGreatDoor
set_option maxRecDepth 100000
open Go Go.RowKit
set_option linter.unusedVariables false

theorem make32X (W : World) : (Instr.makeSlice 27 (.int .i64 32) (.int .i64 32)).run Tryz.prog W = .ok (.slice (some ⟨W.heap.size, 0, none⟩) 32 32) (W.alloc (.cells (bcells (List.replicate 32 0)).toArray 5)) := by
  obtain ⟨i0, hi, hz, hsz, hby⟩ := info_parts Tryz.infoByte
  have h := run_make W 27 5 i0 (.int .u8 0) Tryz.underlying27 hi hz .i64 .i64 32 32 (by omega) (by omega) (by rw [hby]; omega) (by omega)
  rw [hsz] at h
  have e : madeCells (Value.int .u8 0).cells (Int.toNat 32 * 1) = (bcells (List.replicate 32 0)).toArray := by
    rw [show Int.toNat 32 * 1 = 32 from rfl]
    apply Array.ext'
    rw [show (Value.int IntKind.u8 0).cells = #[Value.int .u8 0] from rfl, toList_madeCells_one]
    rfl
  rw [e] at h
  exact h
/-- the midst of a region, shown once, whatever the order ahead of it -/
theorem wpAnyH_mid {P : Program} {md : Region.Mode} {ops : Array Oper} {Q : Exit → Act → World → Prop} {S : World → Prop} {fuel : Nat} {L : Array Bool} {a : Act} {w : World} (fuel' : Nat) (L' : Array Bool) (R : Act → World → Act → World → Prop)
    (hR : ∀ a' w', R a w a' w' → wpAnyH P md ops Q S fuel' L' a' w') (h : (∀ a' w', R a w a' w' → wpAnyH P md ops Q S fuel' L' a' w') → wpAnyH P md ops Q S fuel L a w) : wpAnyH P md ops Q S fuel L a w := h hR
theorem wpAnyH_listed {P : Program} {md : Region.Mode} {ops : Array Oper} {Q : Exit → Act → World → Prop} {S : World → Prop} {fuel : Nat} {L L' : Array Bool} {a : Act} {w : World} (hL : L = L') (h : wpAnyH P md ops Q S fuel L' a w) : wpAnyH P md ops Q S fuel L a w := by
  subst hL
  exact h
/-- 32 zero bytes in a block of their own -/
def Zr (W : World) (g : Nat) : Prop := W.heap[g]? = some (.cells (bcells (List.replicate 32 0)).toArray 5 (0, 0))
/-- a struct of six cells in a block of its own -/
def Sx (t : TypeId) (cs : Array Value) (W : World) (g : Nat) : Prop := W.heap[g]? = some (.cells cs t (0, 0))
section
variable {W W' : World} {g g' : Nat} {t : TypeId} {cs : Array Value}
theorem Zr.alloc (h : Zr W g) (o : Obj) : Zr (W.alloc o) g := (Below.heap_alloc W o g (blk_lt h)).trans h
theorem Sx.alloc (h : Sx t cs W g) (o : Obj) : Sx t cs (W.alloc o) g := (Below.heap_alloc W o g (blk_lt h)).trans h
theorem Zr.below (h : Zr W g) (hb : Below W.heap.size W W') : Zr W' g := (hb.block _ (blk_lt h)).trans h
theorem Zr.new (W : World) : Zr (W.alloc (.cells (bcells (List.replicate 32 0)).toArray 5)) W.heap.size := heap_alloc_new W _
theorem Zr.ne (h : Zr W g) (k : Sx t cs W g') (hc : cs.size = 6) : g ≠ g' := fun e => by
  subst e
  unfold Zr at h
  unfold Sx at k
  rw [h] at k
  injection k with k
  injection k with k
  rw [← k] at hc
  simp [bcells] at hc
theorem Zr.set (h : Zr W g) (hne : g ≠ g') (i : Nat) (u : Value) : Zr (W.setCell ⟨g', i, none⟩ u) g := (Below.heap_setCell W ⟨g', i, none⟩ u g hne).trans h
theorem Zr.set6 (h : Zr W g) (hne : g ≠ g') (y0 y1 y2 y3 y4 y5 : Value) : Zr ((((((W.setCell ⟨g', 0, none⟩ y0).setCell ⟨g', 1, none⟩ y1).setCell ⟨g', 2, none⟩ y2).setCell ⟨g', 3, none⟩ y3).setCell ⟨g', 4, none⟩ y4).setCell ⟨g', 5, none⟩ y5) g :=
  (((((h.set hne 0 y0).set hne 1 y1).set hne 2 y2).set hne 3 y3).set hne 4 y4).set hne 5 y5
theorem Zr.rd (h : Zr W g) : Rd W W.heap.size (.slice (some ⟨g, 0, none⟩) 32 32) (List.replicate 32 0) := by
  refine ⟨some ⟨g, 0, none⟩, 32, by simp, by simp, by simp [maxLen], fun _ => ⟨g, 0, rfl, blk_lt h, fun j hj => ?_⟩⟩
  rw [Nat.zero_add, blk_cell h, List.getElem?_toArray, bcells_get, List.getElem?_eq_getElem hj]
  rfl
end
end Go.Proofs.YtpcoonnfaoakhaaGreatDoor
