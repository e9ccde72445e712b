/- Texts joined: ValA0, Ord0, MsgV, TxH, TxM, TxV, TxQ. -/
import Derived.Test.YtniclaapiabmdaaGreatDoorM07
import Derived.Test.YtniclaapiabmdaaGreatDoorM01
import Derived.Test.YtniclaapiabmdaaGreatDoorM05
import Derived.Test.YtniclaapiabmdaaGreatDoorM06
import Derived.Test.YtniclaapiabmdaaGreatDoorM11
namespace Go.Proofs.YtniclaapiabmdaaGreatDoor
set_option maxRecDepth 100000
open Go

structure VD where
  name : ByteArray
  power : Nat

def VD.key (x : VD) : List UInt8 := x.name.data.toList
def okV (x : VD) : Bool := identL x.key && decide (1 ≤ x.power) && decide (x.power ≤ 4294967296)
def lessV (x y : VD) : Bool := Op.bytesLess x.name.toList y.name.toList
/-- is what stands at a place as it must be? -/
def goodAt (l : List VD) : Nat → Bool
  | 0 => (l[0]?).any okV
  | j + 1 => (l[j + 1]?).any fun x => okV x && (l[j]?).any fun y => lessV y x
def rightB (l : List VD) : Bool := decide (1 ≤ l.length) && decide (l.length ≤ 8) && (List.range l.length).all (goodAt l)

/-- the power of those whose name has a property -/
def vsum (p : List UInt8 → Bool) (l : List VD) : Nat := (l.map fun x => if p x.key = true then x.power else 0).sum
def powerN (l : List VD) : Nat := vsum (fun _ => true) l
def votedN (l : List VD) (votes : List (List UInt8)) : Nat := vsum (fun k => votes.contains k) l

def quorumB (l : List VD) (votes : List (List UInt8)) : Bool := rightB l && decide (2 * powerN l < 3 * votedN l votes)
def thirdB (l : List VD) (votes : List (List UInt8)) : Bool := rightB l && decide (powerN l < 3 * votedN l votes)

end Go.Proofs.YtniclaapiabmdaaGreatDoor
namespace Go.Proofs.YtniclaapiabmdaaGreatDoor
set_option maxRecDepth 100000
open Go Go.RowKit

def VD.fits (x : VD) : Prop := x.name.size ≤ maxLen ∧ x.power < 18446744073709551616
def ValAt (w : World) (b o : Nat) (x : VD) : Prop := w.cell? ⟨b, o, none⟩ = some (.string x.name) ∧ w.cell? ⟨b, o + 1, none⟩ = some (.int .u64 (x.power : Int))
/-- the slice value v reads as the validators l, in blocks below B -/
def ValsAt (w : World) (B : Nat) (v : Value) (l : List VD) : Prop :=
  ∃ A c, v = .slice A l.length c ∧ l.length ≤ c ∧ c ≤ maxLen ∧ (∀ x ∈ l, x.fits) ∧
    (0 < l.length → ∃ b o, A = some ⟨b, o, none⟩ ∧ b < B ∧ ∀ j (h : j < l.length), ValAt w b (o + j * 2) l[j])
/-- the slice value v reads as the texts l, in blocks below B -/
def StrsAt (w : World) (B : Nat) (v : Value) (l : List ByteArray) : Prop :=
  ∃ A c, v = .slice A l.length c ∧ l.length ≤ c ∧ c ≤ maxLen ∧ (∀ x ∈ l, x.size ≤ maxLen) ∧
    (0 < l.length → ∃ b o, A = some ⟨b, o, none⟩ ∧ b < B ∧ ∀ j (h : j < l.length), w.cell? ⟨b, o + j, none⟩ = some (.string l[j]))

section
variable {w w' : World} {B B' : Nat} {v : Value}
theorem ValsAt.below {l : List VD} (h : ValsAt w B v l) (hk : Below B w w') : ValsAt w' B v l := by
  obtain ⟨A, c, hv, hc, hm, hf, hp⟩ := h
  refine ⟨A, c, hv, hc, hm, hf, fun h0 => ?_⟩
  obtain ⟨b, o, hA, hb, ha⟩ := hp h0
  exact ⟨b, o, hA, hb, fun j hj => ⟨(hk.cell (p := ⟨b, o + j * 2, none⟩) hb).trans (ha j hj).1, (hk.cell (p := ⟨b, o + j * 2 + 1, none⟩) hb).trans (ha j hj).2⟩⟩
theorem ValsAt.more {l : List VD} (h : ValsAt w B v l) (hB : B ≤ B') : ValsAt w B' v l := by
  obtain ⟨A, c, hv, hc, hm, hf, hp⟩ := h
  refine ⟨A, c, hv, hc, hm, hf, fun h0 => ?_⟩
  obtain ⟨b, o, hA, hb, ha⟩ := hp h0
  exact ⟨b, o, hA, by omega, ha⟩
theorem ValsAt.up {l : List VD} (h : ValsAt w B v l) (hB : B ≤ w.heap.size) (hb : Below w.heap.size w w') : ValsAt w' w'.heap.size v l := ((h.more hB).below hb).more hb.size
theorem StrsAt.below {l : List ByteArray} (h : StrsAt w B v l) (hk : Below B w w') : StrsAt w' B v l := by
  obtain ⟨A, c, hv, hc, hm, hf, hp⟩ := h
  refine ⟨A, c, hv, hc, hm, hf, fun h0 => ?_⟩
  obtain ⟨b, o, hA, hb, ha⟩ := hp h0
  exact ⟨b, o, hA, hb, fun j hj => (hk.cell (p := ⟨b, o + j, none⟩) hb).trans (ha j hj)⟩
theorem StrsAt.more {l : List ByteArray} (h : StrsAt w B v l) (hB : B ≤ B') : StrsAt w B' v l := by
  obtain ⟨A, c, hv, hc, hm, hf, hp⟩ := h
  refine ⟨A, c, hv, hc, hm, hf, fun h0 => ?_⟩
  obtain ⟨b, o, hA, hb, ha⟩ := hp h0
  exact ⟨b, o, hA, by omega, ha⟩
theorem StrsAt.up {l : List ByteArray} (h : StrsAt w B v l) (hB : B ≤ w.heap.size) (hb : Below w.heap.size w w') : StrsAt w' w'.heap.size v l := ((h.more hB).below hb).more hb.size
theorem StrsAt.nil (w : World) (B : Nat) : StrsAt w B (.slice none 0 0) [] := ⟨none, 0, rfl, Nat.le_refl _, Nat.zero_le _, fun _ h => absurd h (by simp), fun h => absurd h (by simp)⟩
theorem StrsAt.form {l : List ByteArray} (h : StrsAt w B v l) : ∃ A c, v = .slice A l.length c := by obtain ⟨A, c, h, _⟩ := h; exact ⟨A, c, h⟩
theorem ValsAt.form {l : List VD} (h : ValsAt w B v l) : ∃ A c, v = .slice A l.length c := by obtain ⟨A, c, h, _⟩ := h; exact ⟨A, c, h⟩
end

def keysOf (l : List ByteArray) : List (List UInt8) := l.map fun s => s.data.toList
end Go.Proofs.YtniclaapiabmdaaGreatDoor
namespace Go.Proofs.YtniclaapiabmdaaGreatDoor
set_option maxRecDepth 100000
open Go Go.RowKit
set_option linter.unusedVariables false

structure OrdV where
  t : ByteArray
  d : ByteArray
  x : U4
def OrdV.cells (o : OrdV) : Array Value := #[.string o.t, .string o.d, .int .u64 (o.x.a : Int), .int .u64 (o.x.b : Int), .int .u64 (o.x.c : Int), .int .u64 (o.x.d : Int)]
def OrdsAt (W : World) (v : Value) (l : List OrdV) : Prop := ∃ A c, v = .slice A l.length c ∧ (0 < l.length → ∃ b o, A = some ⟨b, o, none⟩ ∧ b < W.heap.size ∧
  ∀ (j : Nat) (h : j < l.length) (i : Nat) (u : Value), i < 6 → l[j].cells[i]? = some u → W.cell? ⟨b, o + j * 6 + i, none⟩ = some u)
theorem OrdsAt.keptX {W W' : World} {v : Value} {l : List OrdV} (h : OrdsAt W v l) (hk : Kept W W') : OrdsAt W' v l := by
  obtain ⟨A, c, rfl, hc⟩ := h
  refine ⟨A, c, rfl, fun h0 => ?_⟩
  obtain ⟨b, o, rfl, hb1, hcell⟩ := hc h0
  have hs : W.heap.size ≤ W'.heap.size := by obtain ⟨F, h1, _⟩ := hk; exact h1.size
  exact ⟨b, o, rfl, Nat.lt_of_lt_of_le hb1 hs, fun j hj i u hi hu => hk.cell (hcell j hj i u hi hu)⟩
end Go.Proofs.YtniclaapiabmdaaGreatDoor
namespace Go.Proofs.YtniclaapiabmdaaGreatDoor
set_option maxRecDepth 100000
open Go Go.RowKit
set_option linter.unusedVariables false

section
variable {W W' : World} {v : Value}
theorem Kept.sizeM (h : Kept W W') : W.heap.size ≤ W'.heap.size := by obtain ⟨F, h1, _⟩ := h; exact h1.size
theorem ValsAt.keptM {l : List VD} (h : ValsAt W W.heap.size v l) (hk : Kept W W') : ValsAt W' W'.heap.size v l := by
  obtain ⟨A, c, hv, hc, hm, hf, hp⟩ := h
  refine ⟨A, c, hv, hc, hm, hf, fun h0 => ?_⟩
  obtain ⟨b, o, hA, hb, ha⟩ := hp h0
  exact ⟨b, o, hA, Nat.lt_of_lt_of_le hb hk.sizeM, fun j hj => ⟨hk.cell (ha j hj).1, hk.cell (ha j hj).2⟩⟩
theorem StrsAt.keptM {l : List ByteArray} (h : StrsAt W W.heap.size v l) (hk : Kept W W') : StrsAt W' W'.heap.size v l := by
  obtain ⟨A, c, hv, hc, hm, hf, hp⟩ := h
  refine ⟨A, c, hv, hc, hm, hf, fun h0 => ?_⟩
  obtain ⟨b, o, hA, hb, ha⟩ := hp h0
  exact ⟨b, o, hA, Nat.lt_of_lt_of_le hb hk.sizeM, fun j hj => hk.cell (ha j hj)⟩
theorem PathV.keptM {ps : List (List UInt8)} (h : PathV W W.heap.size v ps) (hk : Kept W W') : PathV W' W'.heap.size v ps := by
  obtain ⟨A, c, rfl, h1, h2, hp⟩ := h
  refine ⟨A, c, rfl, h1, h2, fun h0 => ?_⟩
  obtain ⟨b, o, rfl, hlt, hc⟩ := hp h0
  refine ⟨b, o, rfl, Nat.lt_of_lt_of_le hlt hk.sizeM, fun j hj => ?_⟩
  obtain ⟨x, q2, q3⟩ := hc j hj
  exact ⟨x, hk.cell q2, hk.rd q3⟩
theorem LeafV.keptM {l : Lf} (h : LeafV W W.heap.size v l) (hk : Kept W W') : LeafV W' W'.heap.size v l := by
  obtain ⟨sv, pv, rfl, h1, h2, h3⟩ := h
  exact ⟨sv, pv, rfl, hk.rd h1, h2.keptM hk, h3⟩
theorem LeafAt.keptM {b o : Nat} {l : Lf} (h : LeafAt W W.heap.size b o l) (hk : Kept W W') : LeafAt W' W'.heap.size b o l := by
  obtain ⟨sv, pv, h0, h1, h2, h3, h4⟩ := h
  exact ⟨sv, pv, hk.cell h0, hk.cell h1, hk.cell h2, hk.cell h3, h4.keptM hk⟩
theorem LeavesV.keptM {ls : List Lf} (h : LeavesV W W.heap.size v ls) (hk : Kept W W') : LeavesV W' W'.heap.size v ls := by
  obtain ⟨A, c, rfl, h1, h2, hp⟩ := h
  refine ⟨A, c, rfl, h1, h2, fun h0 => ?_⟩
  obtain ⟨b, o, rfl, hlt, hc⟩ := hp h0
  exact ⟨b, o, rfl, Nat.lt_of_lt_of_le hlt hk.sizeM, fun j hj => (hc j hj).keptM hk⟩
end
/-- a header, with the rows of bytes that it names -/
structure HdW where
  ch : ByteArray
  ht : Nat
  tm : Nat
  vr : Value
  vv : Value
  vn : Value
  rt : List UInt8
  va : List UInt8
  nx : List UInt8
structure HdW.rd (W : World) (h : HdW) : Prop where
  r : Rd W W.heap.size h.vr h.rt
  v : Rd W W.heap.size h.vv h.va
  n : Rd W W.heap.size h.vn h.nx
  ht : h.ht < 18446744073709551616
  tm : h.tm < 18446744073709551616
theorem HdW.rd.keptM {W W' : World} {h : HdW} (k : h.rd W) (hk : Kept W W') : h.rd W' := ⟨hk.rd k.r, hk.rd k.v, hk.rd k.n, k.ht, k.tm⟩
/-- a packet -/
structure PkW where
  src : ByteArray
  dst : ByteArray
  seq : Nat
  vd : Value
  da : List UInt8
  ht : Nat
  tm : Nat
structure PkW.rd (W : World) (p : PkW) : Prop where
  d : Rd W W.heap.size p.vd p.da
  sq : p.seq < 18446744073709551616
  ht : p.ht < 18446744073709551616
  tm : p.tm < 18446744073709551616
theorem PkW.rd.keptM {W W' : World} {p : PkW} (k : p.rd W) (hk : Kept W W') : p.rd W' := ⟨hk.rd k.d, k.sq, k.ht, k.tm⟩
/-- fees -/
structure PyW where
  d : ByteArray
  x : U4
  y : U4
  z : U4
/-- a message -/
structure MsgV where
  kd : Int
  to : ByteArray
  dn : ByteArray
  am : U4
  cl : ByteArray
  cc : ByteArray
  cn : ByteArray
  cd : ByteArray
  ch : ByteArray
  ce : ByteArray
  po : ByteArray
  pe : ByteArray
  ve : ByteArray
  od : Bool
  h : HdW
  o : HdW
  vs1 : Value
  s1 : List VD
  vs2 : Value
  s2 : List VD
  vs3 : Value
  s3 : List VD
  vt1 : Value
  t1 : List ByteArray
  vt2 : Value
  t2 : List ByteArray
  ht : Nat
  tm : Nat
  at_ : Nat
  per : Nat
  pk : PkW
  vak : Value
  ak : List UInt8
  vpf : Value
  pf : Pf
  nx : Nat
  pay : PyW
  vos : Value
  os : List OrdV
def MsgV.cells (m : MsgV) : List Value := [.int .i64 m.kd, .string m.to, .string m.dn, .int .u64 (m.am.a : Int), .int .u64 (m.am.b : Int), .int .u64 (m.am.c : Int), .int .u64 (m.am.d : Int), .string m.cl, .string m.cc, .string m.cn, .string m.cd, .string m.ch, .string m.ce, .string m.po, .string m.pe, .string m.ve, .bool m.od, .string m.h.ch, .int .u64 (m.h.ht : Int), .int .u64 (m.h.tm : Int), m.h.vr, m.h.vv, m.h.vn, .string m.o.ch, .int .u64 (m.o.ht : Int), .int .u64 (m.o.tm : Int), m.o.vr, m.o.vv, m.o.vn, m.vs1, m.vs2, m.vs3, m.vt1, m.vt2, .int .u64 (m.ht : Int), .int .u64 (m.tm : Int), .int .u64 (m.at_ : Int), .int .u64 (m.per : Int), .string m.pk.src, .string m.pk.dst, .int .u64 (m.pk.seq : Int), m.pk.vd, .int .u64 (m.pk.ht : Int), .int .u64 (m.pk.tm : Int), m.vak, .int .i64 m.pf.n, m.vpf, .int .u64 (m.nx : Int), .string m.pay.d, .int .u64 (m.pay.x.a : Int), .int .u64 (m.pay.x.b : Int), .int .u64 (m.pay.x.c : Int), .int .u64 (m.pay.x.d : Int), .int .u64 (m.pay.y.a : Int), .int .u64 (m.pay.y.b : Int), .int .u64 (m.pay.y.c : Int), .int .u64 (m.pay.y.d : Int), .int .u64 (m.pay.z.a : Int), .int .u64 (m.pay.z.b : Int), .int .u64 (m.pay.z.c : Int), .int .u64 (m.pay.z.d : Int), m.vos]
def MsgV.texts (m : MsgV) : List ByteArray := [m.to, m.dn, m.cl, m.cc, m.cn, m.cd, m.ch, m.ce, m.po, m.pe, m.ve, m.h.ch, m.o.ch, m.pk.src, m.pk.dst, m.pay.d]
def MsgV.lens (m : MsgV) : List Nat := [m.h.rt.length, m.h.va.length, m.h.nx.length, m.o.rt.length, m.o.va.length, m.o.nx.length, m.s1.length, m.s2.length, m.s3.length, m.t1.length, m.t2.length, m.pk.da.length, m.ak.length, m.pf.ls.length, m.os.length]
structure MsgV.rd (W : World) (m : MsgV) : Prop where
  in_kd : -9223372036854775808 ≤ m.kd ∧ m.kd ≤ 9223372036854775807
  ok_am : m.am.ok
  r_h : m.h.rd W
  r_o : m.o.rd W
  r_s1 : ValsAt W W.heap.size m.vs1 m.s1
  r_s2 : ValsAt W W.heap.size m.vs2 m.s2
  r_s3 : ValsAt W W.heap.size m.vs3 m.s3
  r_t1 : StrsAt W W.heap.size m.vt1 m.t1
  r_t2 : StrsAt W W.heap.size m.vt2 m.t2
  lt_ht : m.ht < 18446744073709551616
  lt_tm : m.tm < 18446744073709551616
  lt_at_ : m.at_ < 18446744073709551616
  lt_per : m.per < 18446744073709551616
  r_pk : m.pk.rd W
  r_ak : Rd W W.heap.size m.vak m.ak
  r_pf : LeavesV W W.heap.size m.vpf m.pf.ls
  in_pf : -9223372036854775808 ≤ m.pf.n ∧ m.pf.n ≤ 9223372036854775807
  lt_nx : m.nx < 18446744073709551616
  ok_pay : m.pay.x.ok ∧ m.pay.y.ok ∧ m.pay.z.ok
  r_os : OrdsAt W m.vos m.os
  ok_os : ∀ q ∈ m.os, q.x.ok ∧ q.t.size ≤ maxLen ∧ q.d.size ≤ maxLen
theorem MsgV.rd.keptM {W W' : World} {m : MsgV} (k : m.rd W) (hk : Kept W W') : m.rd W' := ⟨k.in_kd, k.ok_am, k.r_h.keptM hk, k.r_o.keptM hk, k.r_s1.keptM hk, k.r_s2.keptM hk, k.r_s3.keptM hk, k.r_t1.keptM hk, k.r_t2.keptM hk, k.lt_ht, k.lt_tm, k.lt_at_, k.lt_per, k.r_pk.keptM hk, hk.rd k.r_ak, k.r_pf.keptM hk, k.in_pf, k.lt_nx, k.ok_pay, k.r_os.keptX hk, k.ok_os⟩
/-- all texts and rows are of at most n bytes or parts -/
structure MsgV.small (n : Nat) (m : MsgV) : Prop where
  t : ∀ s ∈ m.texts, s.size ≤ n
  l : ∀ k ∈ m.lens, k ≤ n
/-- a step -/
structure StepV where
  on : Int
  self : Nat
  now : Nat
  sg : ByteArray
  m : MsgV
def StepV.cells (x : StepV) : List Value := .int .i64 x.on :: .int .u64 (x.self : Int) :: .int .u64 (x.now : Int) :: .string x.sg :: x.m.cells
structure StepV.fine (x : StepV) : Prop where
  on : -9223372036854775808 ≤ x.on ∧ x.on ≤ 9223372036854775807
  self : x.self < 18446744073709551616
  now : x.now < 18446744073709551616
  sg : x.sg.size ≤ 1048576
  m : x.m.small 1048576
theorem MsgV.cells_len (m : MsgV) : m.cells.length = 62 := rfl
theorem StepV.cells_len (x : StepV) : x.cells.length = 66 := rfl
/-- steps handed in -/
def RdSt (W : World) (v : Value) (l : List StepV) : Prop := ∃ A c, v = .slice A l.length c ∧ (∀ x ∈ l, x.m.rd W) ∧ (0 < l.length → ∃ b o, A = some ⟨b, o, none⟩ ∧ b < W.heap.size ∧
  ∀ (j : Nat) (h : j < l.length) (i : Nat) (u : Value), i < 66 → l[j].cells[i]? = some u → W.cell? ⟨b, o + j * 66 + i, none⟩ = some u)
theorem RdSt.keptM {W W' : World} {v : Value} {l : List StepV} (h : RdSt W v l) (hk : Kept W W') : RdSt W' v l := by
  obtain ⟨A, c, rfl, hr, hc⟩ := h
  refine ⟨A, c, rfl, fun x hx => (hr x hx).keptM hk, fun h0 => ?_⟩
  obtain ⟨b, o, rfl, hb1, hcell⟩ := hc h0
  exact ⟨b, o, rfl, Nat.lt_of_lt_of_le hb1 hk.sizeM, fun j hj i u hi hu => hk.cell (hcell j hj i u hi hu)⟩
end Go.Proofs.YtniclaapiabmdaaGreatDoor
namespace Go.Proofs.YtniclaapiabmdaaGreatDoor
set_option maxRecDepth 100000
open Go Go.RowKit
set_option linter.unusedVariables false

theorem encW_len (s : ByteArray) : (encW s).length ≤ 65539 := encB_lenW _
def encHd (H : HdW) : List UInt8 := encW H.ch ++ (be H.ht 8 ++ (be H.tm 8 ++ (encB H.rt ++ (encB H.va ++ encB H.nx))))
set_option maxHeartbeats 8000000 in
theorem wxhd_any {F : Nat → Prop} {W0 w : World} {B g : Nat} {L : List UInt8} (h : WrX F W0 w B g L) (Wm : World) (hZ : Below Wm.heap.size Wm w) (hG : Wm.heap.size ≤ g) (H : HdW) (hr : H.rd Wm) (h_ch : H.ch.size ≤ maxLen) (hl : L.length ≤ 90000000) :
    Calls Tryz.prog 170 #[.pointer (some ⟨g, 0, none⟩), .agg #[.string H.ch, .int .u64 (H.ht : Int), .int .u64 (H.tm : Int), H.vr, H.vv, H.vn]] w fun e w' => e = .returned (.tuple #[]) ∧ WrX F W0 w' B g (L ++ encHd H) := by
  have hfin : L ++ encHd H = (((((L ++ encW H.ch) ++ be H.ht 8) ++ be H.tm 8) ++ encB H.rt) ++ encB H.va) ++ encB H.nx := by unfold encHd; simp only [List.append_assoc]
  rw [hfin]
  obtain ⟨ch, ht, tm, vr, vv, vn, rt, va, nx⟩ := H
  obtain ⟨hr0, hr1, hr2, h_ht, h_tm⟩ := hr
  dsimp only at h_ch hr0 hr1 hr2 h_ht h_tm ⊢
  obtain ⟨Ar, cr, rfl⟩ := hr0.form
  obtain ⟨Av, cv, rfl⟩ := hr1.form
  obtain ⟨An, cn, rfl⟩ := hr2.form
  have hbox := heap_alloc_new w (.cells #[.string ch, .int .u64 (ht : Int), .int .u64 (tm : Int), .slice Ar rt.length cr, .slice Av va.length cv, .slice An nx.length cn] 163)
  have ha0 : Below w.heap.size w (w.alloc (.cells #[.string ch, .int .u64 (ht : Int), .int .u64 (tm : Int), .slice Ar rt.length cr, .slice Av va.length cv, .slice An nx.length cn] 163)) := (Below.refl _ _).alloc (Nat.le_refl _) _
  obtain ⟨G, X1, hng, hback⟩ := h.box (.cells #[.string ch, .int .u64 (ht : Int), .int .u64 (tm : Int), .slice Ar rt.length cr, .slice Av va.length cv, .slice An nx.length cn] 163)
  have hgw : g ≤ w.heap.size := by obtain ⟨v, h1, -⟩ := h.v; exact Nat.le_of_lt (blk_lt h1)
  generalize hW1 : w.alloc (.cells #[.string ch, .int .u64 (ht : Int), .int .u64 (tm : Int), .slice Ar rt.length cr, .slice Av va.length cv, .slice An nx.length cn] 163) = W1 at *
  generalize hgg : w.heap.size = g0 at *
  have HC : Hid (∀ Z, Chg W1 Z G → Z.cell? ⟨g0, 0, none⟩ = some (.string ch) ∧ Z.cell? ⟨g0, 1, none⟩ = some (.int .u64 (ht : Int)) ∧ Z.cell? ⟨g0, 2, none⟩ = some (.int .u64 (tm : Int)) ∧ Z.cell? ⟨g0, 3, none⟩ = some (.slice Ar rt.length cr) ∧ Z.cell? ⟨g0, 4, none⟩ = some (.slice Av va.length cv) ∧ Z.cell? ⟨g0, 5, none⟩ = some (.slice An nx.length cn)) := Lib.hid fun Z hz => ⟨blk_cell ((hz.block _ (blk_lt hbox) hng).trans hbox) 0, blk_cell ((hz.block _ (blk_lt hbox) hng).trans hbox) 1, blk_cell ((hz.block _ (blk_lt hbox) hng).trans hbox) 2, blk_cell ((hz.block _ (blk_lt hbox) hng).trans hbox) 3, blk_cell ((hz.block _ (blk_lt hbox) hng).trans hbox) 4, blk_cell ((hz.block _ (blk_lt hbox) hng).trans hbox) 5⟩
  have HR0 : Hid (∀ Z L, WrX G W1 Z B g L → Rd Z Z.heap.size (.slice Ar rt.length cr) rt) := Lib.hid fun Z L hz => (hr0.below ((hZ.trans (ha0.mono (by rw [← hgg] at hgw; omega))).trans (hz.below.mono hG))).more (Nat.le_trans hG (Nat.le_trans (Nat.le_of_lt hz.gW) hz.c.size))
  have HR1 : Hid (∀ Z L, WrX G W1 Z B g L → Rd Z Z.heap.size (.slice Av va.length cv) va) := Lib.hid fun Z L hz => (hr1.below ((hZ.trans (ha0.mono (by rw [← hgg] at hgw; omega))).trans (hz.below.mono hG))).more (Nat.le_trans hG (Nat.le_trans (Nat.le_of_lt hz.gW) hz.c.size))
  have HR2 : Hid (∀ Z L, WrX G W1 Z B g L → Rd Z Z.heap.size (.slice An nx.length cn) nx) := Lib.hid fun Z L hz => (hr2.below ((hZ.trans (ha0.mono (by rw [← hgg] at hgw; omega))).trans (hz.below.mono hG))).more (Nat.le_trans hG (Nat.le_trans (Nat.le_of_lt hz.gW) hz.c.size))
  have HBK := Lib.hid hback
  have b0 := encW_len ch
  have b1 := encB_lenW rt
  have b2 := encB_lenW va
  have b3 := encB_lenW nx
  clear hfin hbox h ha0 hback hng
  go_enter Tryz.func170, Tryz.ntmps170
  obtain ⟨c0, c1, c2, c3, c4, c5⟩ := HC.out _ (Chg.refl _ _)
  go_wp2_with fail
  try rw [hW1]
  clear hW1
  try rw [hgg]
  have D0 := Lib.hid (wxt_any X1 ch h_ch (by first | omega | (simp only [List.length_append, be_length]; omega)))
  clear X1
  refine D0.out.mono ?_
  rintro e w2 ⟨rfl, X2⟩
  clear D0 c0 c1 c2 c3 c4 c5
  obtain ⟨c0, c1, c2, c3, c4, c5⟩ := HC.out _ X2.c
  go_wp2_with fail
  have D1 := Lib.hid (wxn_any X2 ht h_ht (by first | omega | (simp only [List.length_append, be_length]; omega)))
  clear X2
  refine D1.out.mono ?_
  rintro e w3 ⟨rfl, X3⟩
  clear D1 c0 c1 c2 c3 c4 c5
  obtain ⟨c0, c1, c2, c3, c4, c5⟩ := HC.out _ X3.c
  go_wp2_with fail
  have D2 := Lib.hid (wxn_any X3 tm h_tm (by first | omega | (simp only [List.length_append, be_length]; omega)))
  clear X3
  refine D2.out.mono ?_
  rintro e w4 ⟨rfl, X4⟩
  clear D2 c0 c1 c2 c3 c4 c5
  obtain ⟨c0, c1, c2, c3, c4, c5⟩ := HC.out _ X4.c
  go_wp2_with fail
  have D3 := Lib.hid (wxb_any X4 Ar _ cr rt (HR0.out _ _ X4) (by first | omega | (simp only [List.length_append, be_length]; omega)))
  clear X4
  refine D3.out.mono ?_
  rintro e w5 ⟨rfl, X5⟩
  clear D3 c0 c1 c2 c3 c4 c5
  obtain ⟨c0, c1, c2, c3, c4, c5⟩ := HC.out _ X5.c
  go_wp2_with fail
  have D4 := Lib.hid (wxb_any X5 Av _ cv va (HR1.out _ _ X5) (by first | omega | (simp only [List.length_append, be_length]; omega)))
  clear X5
  refine D4.out.mono ?_
  rintro e w6 ⟨rfl, X6⟩
  clear D4 c0 c1 c2 c3 c4 c5
  obtain ⟨c0, c1, c2, c3, c4, c5⟩ := HC.out _ X6.c
  go_wp2_with fail
  have D5 := Lib.hid (wxb_any X6 An _ cn nx (HR2.out _ _ X6) (by first | omega | (simp only [List.length_append, be_length]; omega)))
  clear X6
  refine D5.out.mono ?_
  rintro e w7 ⟨rfl, X7⟩
  clear D5 c0 c1 c2 c3 c4 c5
  have XF := HBK.out _ _ X7
  go_wp2_with fail
  go_end0
  exact ⟨rfl, XF⟩
def encPk (H : PkW) : List UInt8 := encW H.src ++ (encW H.dst ++ (be H.seq 8 ++ (encB H.da ++ (be H.ht 8 ++ be H.tm 8))))
set_option maxHeartbeats 8000000 in
theorem wxpk_any {F : Nat → Prop} {W0 w : World} {B g : Nat} {L : List UInt8} (h : WrX F W0 w B g L) (Wm : World) (hZ : Below Wm.heap.size Wm w) (hG : Wm.heap.size ≤ g) (H : PkW) (hr : H.rd Wm) (h_s : H.src.size ≤ maxLen) (h_d : H.dst.size ≤ maxLen) (hl : L.length ≤ 90000000) :
    Calls Tryz.prog 173 #[.pointer (some ⟨g, 0, none⟩), .agg #[.string H.src, .string H.dst, .int .u64 (H.seq : Int), H.vd, .int .u64 (H.ht : Int), .int .u64 (H.tm : Int)]] w fun e w' => e = .returned (.tuple #[]) ∧ WrX F W0 w' B g (L ++ encPk H) := by
  have hfin : L ++ encPk H = (((((L ++ encW H.src) ++ encW H.dst) ++ be H.seq 8) ++ encB H.da) ++ be H.ht 8) ++ be H.tm 8 := by unfold encPk; simp only [List.append_assoc]
  rw [hfin]
  obtain ⟨src, dst, seq, vd, da, ht, tm⟩ := H
  obtain ⟨hr0, h_sq, h_ht, h_tm⟩ := hr
  dsimp only at h_s h_d hr0 h_sq h_ht h_tm ⊢
  obtain ⟨Ad, cd, rfl⟩ := hr0.form
  have hbox := heap_alloc_new w (.cells #[.string src, .string dst, .int .u64 (seq : Int), .slice Ad da.length cd, .int .u64 (ht : Int), .int .u64 (tm : Int)] 167)
  have ha0 : Below w.heap.size w (w.alloc (.cells #[.string src, .string dst, .int .u64 (seq : Int), .slice Ad da.length cd, .int .u64 (ht : Int), .int .u64 (tm : Int)] 167)) := (Below.refl _ _).alloc (Nat.le_refl _) _
  obtain ⟨G, X1, hng, hback⟩ := h.box (.cells #[.string src, .string dst, .int .u64 (seq : Int), .slice Ad da.length cd, .int .u64 (ht : Int), .int .u64 (tm : Int)] 167)
  have hgw : g ≤ w.heap.size := by obtain ⟨v, h1, -⟩ := h.v; exact Nat.le_of_lt (blk_lt h1)
  generalize hW1 : w.alloc (.cells #[.string src, .string dst, .int .u64 (seq : Int), .slice Ad da.length cd, .int .u64 (ht : Int), .int .u64 (tm : Int)] 167) = W1 at *
  generalize hgg : w.heap.size = g0 at *
  have HC : Hid (∀ Z, Chg W1 Z G → Z.cell? ⟨g0, 0, none⟩ = some (.string src) ∧ Z.cell? ⟨g0, 1, none⟩ = some (.string dst) ∧ Z.cell? ⟨g0, 2, none⟩ = some (.int .u64 (seq : Int)) ∧ Z.cell? ⟨g0, 3, none⟩ = some (.slice Ad da.length cd) ∧ Z.cell? ⟨g0, 4, none⟩ = some (.int .u64 (ht : Int)) ∧ Z.cell? ⟨g0, 5, none⟩ = some (.int .u64 (tm : Int))) := Lib.hid fun Z hz => ⟨blk_cell ((hz.block _ (blk_lt hbox) hng).trans hbox) 0, blk_cell ((hz.block _ (blk_lt hbox) hng).trans hbox) 1, blk_cell ((hz.block _ (blk_lt hbox) hng).trans hbox) 2, blk_cell ((hz.block _ (blk_lt hbox) hng).trans hbox) 3, blk_cell ((hz.block _ (blk_lt hbox) hng).trans hbox) 4, blk_cell ((hz.block _ (blk_lt hbox) hng).trans hbox) 5⟩
  have HR0 : Hid (∀ Z L, WrX G W1 Z B g L → Rd Z Z.heap.size (.slice Ad da.length cd) da) := Lib.hid fun Z L hz => (hr0.below ((hZ.trans (ha0.mono (by rw [← hgg] at hgw; omega))).trans (hz.below.mono hG))).more (Nat.le_trans hG (Nat.le_trans (Nat.le_of_lt hz.gW) hz.c.size))
  have HBK := Lib.hid hback
  have b0 := encW_len src
  have b4 := encW_len dst
  have b1 := encB_lenW da
  clear hfin hbox h ha0 hback hng
  go_enter Tryz.func173, Tryz.ntmps173
  obtain ⟨c0, c1, c2, c3, c4, c5⟩ := HC.out _ (Chg.refl _ _)
  go_wp2_with fail
  try rw [hW1]
  clear hW1
  try rw [hgg]
  have D0 := Lib.hid (wxt_any X1 src h_s (by first | omega | (simp only [List.length_append, be_length]; omega)))
  clear X1
  refine D0.out.mono ?_
  rintro e w2 ⟨rfl, X2⟩
  clear D0 c0 c1 c2 c3 c4 c5
  obtain ⟨c0, c1, c2, c3, c4, c5⟩ := HC.out _ X2.c
  go_wp2_with fail
  have D1 := Lib.hid (wxt_any X2 dst h_d (by first | omega | (simp only [List.length_append, be_length]; omega)))
  clear X2
  refine D1.out.mono ?_
  rintro e w3 ⟨rfl, X3⟩
  clear D1 c0 c1 c2 c3 c4 c5
  obtain ⟨c0, c1, c2, c3, c4, c5⟩ := HC.out _ X3.c
  go_wp2_with fail
  have D2 := Lib.hid (wxn_any X3 seq h_sq (by first | omega | (simp only [List.length_append, be_length]; omega)))
  clear X3
  refine D2.out.mono ?_
  rintro e w4 ⟨rfl, X4⟩
  clear D2 c0 c1 c2 c3 c4 c5
  obtain ⟨c0, c1, c2, c3, c4, c5⟩ := HC.out _ X4.c
  go_wp2_with fail
  have D3 := Lib.hid (wxb_any X4 Ad _ cd da (HR0.out _ _ X4) (by first | omega | (simp only [List.length_append, be_length]; omega)))
  clear X4
  refine D3.out.mono ?_
  rintro e w5 ⟨rfl, X5⟩
  clear D3 c0 c1 c2 c3 c4 c5
  obtain ⟨c0, c1, c2, c3, c4, c5⟩ := HC.out _ X5.c
  go_wp2_with fail
  have D4 := Lib.hid (wxn_any X5 ht h_ht (by first | omega | (simp only [List.length_append, be_length]; omega)))
  clear X5
  refine D4.out.mono ?_
  rintro e w6 ⟨rfl, X6⟩
  clear D4 c0 c1 c2 c3 c4 c5
  obtain ⟨c0, c1, c2, c3, c4, c5⟩ := HC.out _ X6.c
  go_wp2_with fail
  have D5 := Lib.hid (wxn_any X6 tm h_tm (by first | omega | (simp only [List.length_append, be_length]; omega)))
  clear X6
  refine D5.out.mono ?_
  rintro e w7 ⟨rfl, X7⟩
  clear D5 c0 c1 c2 c3 c4 c5
  have XF := HBK.out _ _ X7
  go_wp2_with fail
  go_end0
  exact ⟨rfl, XF⟩
end Go.Proofs.YtniclaapiabmdaaGreatDoor
namespace Go.Proofs.YtniclaapiabmdaaGreatDoor
set_option maxRecDepth 100000
open Go Go.RowKit
set_option linter.unusedVariables false

def encU (x : U4) : List UInt8 := encB (be x.nat 32)
def encVl (x : VD) : List UInt8 := encW x.name ++ be x.power 8
def encSet (l : List VD) : List UInt8 := be l.length 8 ++ (l.map encVl).flatten
def encVt (l : List ByteArray) : List UInt8 := be l.length 8 ++ (l.map encW).flatten
def encPath (l : List (List UInt8)) : List UInt8 := (l.map encB).flatten
def encLf (x : Lf) : List UInt8 := be x.at_.toNat 8 ++ (encW x.key ++ (encB x.val ++ (be x.path.length 8 ++ encPath x.path)))
def encPf (p : Pf) : List UInt8 := be p.n.toNat 8 ++ (be p.ls.length 8 ++ (p.ls.map encLf).flatten)
def encOr (q : OrdV) : List UInt8 := encW q.t ++ (encW q.d ++ encU q.x)
def encOs (l : List OrdV) : List UInt8 := be l.length 8 ++ (l.map encOr).flatten
theorem encU_len (x : U4) : (encU x).length ≤ 65539 := encB_lenW _
theorem flatX_len {α : Type} (f : α → List UInt8) (n : Nat) (l : List α) (h : ∀ x ∈ l, (f x).length ≤ n) : (l.map f).flatten.length ≤ l.length * n := by
  induction l with
  | nil => simp
  | cons x l ih =>
    have h1 := h x List.mem_cons_self
    have h2 := ih fun y hy => h y (List.mem_cons_of_mem _ hy)
    simp only [List.map_cons, List.flatten_cons, List.length_append, List.length_cons, Nat.add_mul, Nat.one_mul]
    omega
theorem flatX_take {α : Type} (f : α → List UInt8) (l : List α) (k : Nat) (h : k < l.length) : ((l.take (k + 1)).map f).flatten = ((l.take k).map f).flatten ++ f l[k] := by
  rw [List.take_succ_eq_append_getElem h, List.map_append, List.flatten_append]
  simp
theorem encVl_len (x : VD) : (encVl x).length ≤ 65547 := by
  have := encW_len x.name
  simp only [encVl, List.length_append, be_length]
  omega
theorem encSet_len (l : List VD) (h : l.length ≤ 8) : (encSet l).length ≤ 600000 := by
  have := flatX_len encVl 65547 l fun x _ => encVl_len x
  simp only [encSet, List.length_append, be_length]
  omega
theorem encVt_len (l : List ByteArray) (h : l.length ≤ 8) : (encVt l).length ≤ 600000 := by
  have := flatX_len encW 65539 l fun x _ => encW_len x
  simp only [encVt, List.length_append, be_length]
  omega
theorem encPath_len (l : List (List UInt8)) (h : l.length ≤ 17) : (encPath l).length ≤ 1200000 := by
  have := flatX_len encB 65539 l fun x _ => encB_lenW x
  unfold encPath
  omega
theorem encLf_len (x : Lf) (h : x.path.length ≤ 17) : (encLf x).length ≤ 1400000 := by
  have h1 := encW_len x.key
  have h2 := encB_lenW x.val
  have h3 := encPath_len x.path h
  simp only [encLf, List.length_append, be_length]
  omega
theorem encPf_len (p : Pf) (h : p.ls.length ≤ 2) (h2 : ∀ x ∈ p.ls, x.path.length ≤ 17) : (encPf p).length ≤ 3000000 := by
  have := flatX_len encLf 1400000 p.ls fun x hx => encLf_len x (h2 x hx)
  simp only [encPf, List.length_append, be_length]
  omega
theorem encOr_len (q : OrdV) : (encOr q).length ≤ 200000 := by
  have h1 := encW_len q.t
  have h2 := encW_len q.d
  have h3 := encU_len q.x
  simp only [encOr, List.length_append]
  omega
/-- what the message's bytes are -/
def encM (m : MsgV) : List UInt8 :=
  be m.kd.toNat 8 ++ (encW m.to ++ (encW m.dn ++ (encU m.am ++ ((([m.cl, m.cc, m.cn, m.cd, m.ch, m.ce, m.po, m.pe, m.ve] : List ByteArray).map encW).flatten ++ ([fb m.od] ++ (encHd m.h ++ (encHd m.o ++ (encSet m.s1 ++ (encSet m.s2 ++ (encSet m.s3 ++ (encVt m.t1 ++ (encVt m.t2 ++ ((([m.ht, m.tm, m.at_, m.per] : List Nat).map (fun n => be n 8)).flatten ++ (encPk m.pk ++ (encB m.ak ++ (encPf m.pf ++ (be m.nx 8 ++ (encW m.pay.d ++ (encU m.pay.x ++ (encU m.pay.y ++ (encU m.pay.z ++ encOs m.os)))))))))))))))))))))
def numB (n : Int) : Bool := decide (0 ≤ n) && decide (n ≤ 1073741824)
def numsB (m : MsgV) : Bool := numB m.kd && (numB m.pf.n && m.pf.ls.all (fun l => numB l.at_))
def listsB (m : MsgV) : Bool := decide (m.s1.length ≤ 8) && (decide (m.s2.length ≤ 8) && (decide (m.s3.length ≤ 8) && (decide (m.t1.length ≤ 8) && (decide (m.t2.length ≤ 8) && (decide (m.os.length ≤ 8) && (decide (m.pf.ls.length ≤ 2) && m.pf.ls.all (fun l => decide (l.path.length ≤ 17))))))))
def MsgV.allTexts (m : MsgV) : List ByteArray := m.texts ++ ((m.s1 ++ m.s2 ++ m.s3).map VD.name ++ (m.t1 ++ (m.t2 ++ (m.pf.ls.map Lf.key ++ (m.os.map (fun q => [q.t, q.d])).flatten))))
def MsgV.parts (m : MsgV) : List (List UInt8) := [m.h.rt, m.h.va, m.h.nx, m.o.rt, m.o.va, m.o.nx, m.pk.da, m.ak] ++ (m.pf.ls.map (fun l => l.val :: l.path)).flatten
def fieldsB (m : MsgV) : Bool := m.allTexts.all (fun s => decide (s.size ≤ 65535)) && m.parts.all (fun l => decide (l.length ≤ 65535))
/-- a transaction -/
structure TxV where
  sg : ByteArray
  seq : Nat
  gas : Nat
  fee : U4
  vms : Value
  ms : List MsgV
  vsig : Value
  sig : List UInt8
def TxV.cells (t : TxV) : Array Value := #[.string t.sg, .int .u64 (t.seq : Int), .int .u64 (t.gas : Int), .int .u64 (t.fee.a : Int), .int .u64 (t.fee.b : Int), .int .u64 (t.fee.c : Int), .int .u64 (t.fee.d : Int), t.vms, t.vsig]
/-- messages handed in -/
def MsgsAt (W : World) (B : Nat) (v : Value) (l : List MsgV) : Prop := ∃ A c, v = .slice A l.length c ∧ (0 < l.length → ∃ b o, A = some ⟨b, o, none⟩ ∧ b < B ∧
  ∀ (j : Nat) (h : j < l.length) (i : Nat) (u : Value), l[j].cells[i]? = some u → W.cell? ⟨b, o + j * 62 + i, none⟩ = some u)
def fitsE (t : TxV) : Int := if 8 < t.ms.length then 84 else if t.ms.all numsB = true then (if t.ms.all (fun m => listsB m && fieldsB m) = true then (if t.sg.size ≤ 65535 ∧ t.sig.length ≤ 65535 then 0 else 22) else 22) else 2
def encTx (t : TxV) : List UInt8 := encW t.sg ++ (be t.seq 8 ++ (be t.gas 8 ++ (encU t.fee ++ (be t.ms.length 8 ++ ((t.ms.map (fun m => encB (encM m))).flatten ++ encB t.sig)))))
/-- its error -/
def encE (t : TxV) : Int := if fitsE t = 0 then (if t.ms.all (fun m => decide ((encM m).length ≤ 65535)) = true then 0 else 22) else fitsE t
end Go.Proofs.YtniclaapiabmdaaGreatDoor
namespace Go.Proofs.YtniclaapiabmdaaGreatDoor
set_option maxRecDepth 100000
open Go Go.RowKit
set_option linter.unusedVariables false

theorem u64_nat (n : Nat) (h : n < 18446744073709551616) : IntKind.u64.wrap (n : Int) = (n : Int) := by rw [IntKind.wrap_u64]; omega
set_option maxHeartbeats 8000000 in
theorem wxset_any {F : Nat → Prop} {W0 w : World} {B g : Nat} {L : List UInt8} (h : WrX F W0 w B g L) (Wm : World) (hZ : Below Wm.heap.size Wm w) (hG : Wm.heap.size ≤ g) (v : Value) (l : List VD) (hr : ValsAt Wm Wm.heap.size v l) (hn : l.length ≤ 8) (hl : L.length ≤ 90000000) :
    Calls Tryz.prog 171 #[.pointer (some ⟨g, 0, none⟩), v] w fun e w' => e = .returned (.tuple #[]) ∧ WrX F W0 w' B g (L ++ encSet l) := by
  obtain ⟨G0, X0, -, hb0⟩ := h.open_
  have HBK := Lib.hid hb0
  obtain ⟨A, c, rfl, hc, hm, hf, hp⟩ := hr
  have HF := Lib.hid hf
  have HCELL : Hid (∀ Z, Below g w Z → ∀ j (hj : j < l.length), ∃ b o, A = some ⟨b, o, none⟩ ∧ Z.cell? ⟨b, o + j * 2, none⟩ = some (.string l[j].name) ∧ Z.cell? ⟨b, o + j * 2 + 1, none⟩ = some (.int .u64 (l[j].power : Int))) := Lib.hid fun Z hz j hj => by
    obtain ⟨b, o, hA, hb, hat⟩ := hp (by omega)
    have hk : Below Wm.heap.size Wm Z := hZ.trans (hz.mono hG)
    obtain ⟨q0, q1⟩ := hat j hj
    exact ⟨b, o, hA, (hk.cell (p := ⟨b, _, none⟩) hb).trans q0, (hk.cell (p := ⟨b, _, none⟩) hb).trans q1⟩
  have hfit : L ++ encSet l = (L ++ be l.length 8) ++ (l.map encVl).flatten := by unfold encSet; rw [List.append_assoc]
  rw [hfit]
  have hlen : ∀ k, ((l.take k).map encVl).flatten.length ≤ 524376 := fun k => by
    have := flatX_len encVl 65547 (l.take k) fun x _ => encVl_len x
    have h2 : (l.take k).length ≤ 8 := by rw [List.length_take]; omega
    omega
  have HLEN := Lib.hid hlen
  have hfull : (l.map encVl).flatten = ((l.take l.length).map encVl).flatten := by rw [List.take_length]
  rw [hfull]
  have HNEXT := Lib.hid (fun (k : Nat) (hk : k < l.length) => flatX_take encVl l k hk)
  obtain ⟨n, hnn⟩ : ∃ n, n = l.length := ⟨_, rfl⟩
  have HNN := Lib.hid hnn
  rw [← hnn] at hn ⊢
  have hw0 := u64_nat n (by omega)
  have D0 := Lib.hid (wxn_any X0 n (by omega) (by omega))
  have hLL : (L ++ be n 8).length ≤ 91000000 := by simp only [List.length_append, be_length]; omega
  generalize L ++ be n 8 = LL at *
  have HLL := Lib.hid hLL
  clear hfit hlen hfull hf hp h X0 hl hLL hnn hb0
  go_enter Tryz.func171, Tryz.ntmps171
  go_wp2_with fail
  refine D0.out.mono ?_
  rintro e w2 ⟨rfl, X2⟩
  have HX2 := Lib.hid X2
  clear D0 X2 hw0
  go_wp2_with fail
  go_loopw [13] (fun i wr => ∃ k : Nat, k ≤ n ∧ i = .int .i64 (k : Int) ∧ Hid (WrX G0 w wr B g (LL ++ ((l.take k).map encVl).flatten)))
    (fun i _ => n - (intOf i).toNat)
  case atStart => exact ⟨0, Nat.zero_le _, rfl, Lib.hid (by simpa using HX2.out)⟩
  case round =>
    clear HX2
    obtain ⟨k, hk, rfl, HX⟩ := hrel
    by_cases hlt : k < n
    · have hkl : k < l.length := by have := HNN.out; omega
      obtain ⟨b, o, rfl, q0, q1⟩ := HCELL.out wr HX.out.below k hkl
      have hfx := HF.out _ (List.getElem_mem hkl)
      have hnx := HNEXT.out k hkl
      have hkn := HLEN.out k
      have i1 : (0 : Int) ≤ (k : Int) := by omega
      have i2 : (k : Int) < (n : Int) := by omega
      have HL2 := HLL.out
      generalize l[k] = x at *
      have hle : (LL ++ ((l.take k).map encVl).flatten).length ≤ 97000000 := by rw [List.length_append]; omega
      obtain ⟨M, hM⟩ : ∃ M, M = LL ++ ((l.take k).map encVl).flatten := ⟨_, rfl⟩
      have hMN : LL ++ ((l.take (k + 1)).map encVl).flatten = M ++ encVl x := by rw [hnx, hM, List.append_assoc]
      rw [← hM] at HX hle
      have HMN := Lib.hid hMN
      clear hM hnx hkn hMN HL2
      obtain ⟨G, X1, hng, hback⟩ := HX.out.box (.cells #[.string x.name, .int .u64 (x.power : Int)] 235)
      have hbox := heap_alloc_new wr (.cells #[.string x.name, .int .u64 (x.power : Int)] 235)
      generalize hW1 : wr.alloc (.cells #[.string x.name, .int .u64 (x.power : Int)] 235) = W1 at *
      generalize hgg : wr.heap.size = g1 at *
      have HC : Hid (∀ Z, Chg W1 Z G → Z.cell? ⟨g1, 0, none⟩ = some (.string x.name) ∧ Z.cell? ⟨g1, 1, none⟩ = some (.int .u64 (x.power : Int))) := Lib.hid fun Z hz => ⟨blk_cell ((hz.block _ (blk_lt hbox) hng).trans hbox) 0, blk_cell ((hz.block _ (blk_lt hbox) hng).trans hbox) 1⟩
      obtain ⟨c0, c1⟩ := HC.out _ (Chg.refl _ _)
      have HB2 := Lib.hid hback
      clear hbox hback hng
      have bx := encW_len x.name
      go_wp2_with fail
      try rw [hW1]
      clear hW1
      try rw [hgg]
      have D1 := Lib.hid (wxt_any X1 x.name hfx.1 (by first | omega | (simp only [List.length_append, be_length]; omega)))
      clear X1
      refine D1.out.mono ?_
      rintro e w5 ⟨rfl, X5⟩
      clear D1 c0 c1
      obtain ⟨c0, c1⟩ := HC.out _ X5.c
      go_wp2_with fail
      have D2 := Lib.hid (wxn_any X5 x.power hfx.2 (by first | omega | (simp only [List.length_append, be_length]; omega)))
      clear X5
      refine D2.out.mono ?_
      rintro e w6 ⟨rfl, X6⟩
      clear D2 c0 c1
      have HXF := Lib.hid (HB2.out _ _ X6)
      have HXG : Hid (WrX G0 w w6 B g (LL ++ ((l.take (k + 1)).map encVl).flatten)) := Lib.hid (by rw [HMN.out]; have := HXF.out; simpa only [encVl, List.append_assoc] using this)
      clear HXF X6
      go_wp2_with fail
      exact ⟨⟨k + 1, by omega, by go_num, HXG⟩, by simp [intOf]; omega⟩
    · have hk2 : ¬ (k : Int) < (n : Int) := by omega
      obtain rfl : k = n := by omega
      have XF := HBK.out _ _ HX.out
      clear HX HCELL
      go_wp2_with fail
      go_end0
      exact ⟨rfl, by first | exact XF | (rw [List.map_take] at XF; exact XF)⟩
set_option maxHeartbeats 8000000 in
theorem wxvt_any {F : Nat → Prop} {W0 w : World} {B g : Nat} {L : List UInt8} (h : WrX F W0 w B g L) (Wm : World) (hZ : Below Wm.heap.size Wm w) (hG : Wm.heap.size ≤ g) (v : Value) (l : List ByteArray) (hr : StrsAt Wm Wm.heap.size v l) (hn : l.length ≤ 8) (hl : L.length ≤ 90000000) :
    Calls Tryz.prog 172 #[.pointer (some ⟨g, 0, none⟩), v] w fun e w' => e = .returned (.tuple #[]) ∧ WrX F W0 w' B g (L ++ encVt l) := by
  obtain ⟨G0, X0, -, hb0⟩ := h.open_
  have HBK := Lib.hid hb0
  obtain ⟨A, c, rfl, hc, hm, hf, hp⟩ := hr
  have HF := Lib.hid hf
  have HCELL : Hid (∀ Z, Below g w Z → ∀ j (hj : j < l.length), ∃ b o, A = some ⟨b, o, none⟩ ∧ Z.cell? ⟨b, o + j, none⟩ = some (.string l[j])) := Lib.hid fun Z hz j hj => by
    obtain ⟨b, o, hA, hb, hat⟩ := hp (by omega)
    have hk : Below Wm.heap.size Wm Z := hZ.trans (hz.mono hG)
    exact ⟨b, o, hA, (hk.cell (p := ⟨b, _, none⟩) hb).trans (hat j hj)⟩
  have hfit : L ++ encVt l = (L ++ be l.length 8) ++ (l.map encW).flatten := by unfold encVt; rw [List.append_assoc]
  rw [hfit]
  have hlen : ∀ k, ((l.take k).map encW).flatten.length ≤ 524312 := fun k => by
    have := flatX_len encW 65539 (l.take k) fun x _ => encW_len x
    have h2 : (l.take k).length ≤ 8 := by rw [List.length_take]; omega
    omega
  have HLEN := Lib.hid hlen
  have hfull : (l.map encW).flatten = ((l.take l.length).map encW).flatten := by rw [List.take_length]
  rw [hfull]
  have HNEXT := Lib.hid (fun (k : Nat) (hk : k < l.length) => flatX_take encW l k hk)
  obtain ⟨n, hnn⟩ : ∃ n, n = l.length := ⟨_, rfl⟩
  have HNN := Lib.hid hnn
  rw [← hnn] at hn ⊢
  have hw0 := u64_nat n (by omega)
  have D0 := Lib.hid (wxn_any X0 n (by omega) (by omega))
  have hLL : (L ++ be n 8).length ≤ 91000000 := by simp only [List.length_append, be_length]; omega
  generalize L ++ be n 8 = LL at *
  have HLL := Lib.hid hLL
  clear hfit hlen hfull hf hp h X0 hl hLL hnn hb0
  go_enter Tryz.func172, Tryz.ntmps172
  go_wp2_with fail
  refine D0.out.mono ?_
  rintro e w2 ⟨rfl, X2⟩
  have HX2 := Lib.hid X2
  clear D0 X2 hw0
  go_wp2_with fail
  go_loopw [13] (fun i wr => ∃ k : Nat, k ≤ n ∧ i = .int .i64 (k : Int) ∧ Hid (WrX G0 w wr B g (LL ++ ((l.take k).map encW).flatten)))
    (fun i _ => n - (intOf i).toNat)
  case atStart => exact ⟨0, Nat.zero_le _, rfl, Lib.hid (by simpa using HX2.out)⟩
  case round =>
    clear HX2
    obtain ⟨k, hk, rfl, HX⟩ := hrel
    by_cases hlt : k < n
    · have hkl : k < l.length := by have := HNN.out; omega
      obtain ⟨b, o, rfl, q0⟩ := HCELL.out wr HX.out.below k hkl
      have hfx := HF.out _ (List.getElem_mem hkl)
      have hnx := HNEXT.out k hkl
      have hkn := HLEN.out k
      have i1 : (0 : Int) ≤ (k : Int) := by omega
      have i2 : (k : Int) < (n : Int) := by omega
      have HL2 := HLL.out
      generalize l[k] = x at *
      have hle : (LL ++ ((l.take k).map encW).flatten).length ≤ 97000000 := by rw [List.length_append]; omega
      obtain ⟨M, hM⟩ : ∃ M, M = LL ++ ((l.take k).map encW).flatten := ⟨_, rfl⟩
      have hMN : LL ++ ((l.take (k + 1)).map encW).flatten = M ++ encW x := by rw [hnx, hM, List.append_assoc]
      rw [← hM] at HX hle
      have HMN := Lib.hid hMN
      clear hM hnx hkn hMN HL2
      obtain ⟨G, X1, -, hback⟩ := HX.out.open_
      have HB2 := Lib.hid hback
      clear hback
      go_wp2_with fail
      have D1 := Lib.hid (wxt_any X1 x hfx (by first | omega | (simp only [List.length_append, be_length]; omega)))
      clear X1
      refine D1.out.mono ?_
      rintro e w5 ⟨rfl, X5⟩
      clear D1
      have HXF := Lib.hid (HB2.out _ _ X5)
      have HXG : Hid (WrX G0 w w5 B g (LL ++ ((l.take (k + 1)).map encW).flatten)) := Lib.hid (by rw [HMN.out]; have := HXF.out; simpa only [encW, List.append_assoc] using this)
      clear HXF X5
      go_wp2_with fail
      exact ⟨⟨k + 1, by omega, by go_num, HXG⟩, by simp [intOf]; omega⟩
    · have hk2 : ¬ (k : Int) < (n : Int) := by omega
      obtain rfl : k = n := by omega
      have XF := HBK.out _ _ HX.out
      clear HX HCELL
      go_wp2_with fail
      go_end0
      exact ⟨rfl, by first | exact XF | (rw [List.map_take] at XF; exact XF)⟩
end Go.Proofs.YtniclaapiabmdaaGreatDoor
namespace Go.Proofs.YtniclaapiabmdaaGreatDoor
set_option maxRecDepth 100000
open Go Go.RowKit
set_option linter.unusedVariables false

set_option maxHeartbeats 16000000 in
theorem wxpf_any {F : Nat → Prop} {W0 w : World} {B g : Nat} {L : List UInt8} (h : WrX F W0 w B g L) (Wm : World) (hZ : Below Wm.heap.size Wm w) (hG : Wm.heap.size ≤ g) (p : Pf) (lv : Value) (hr : LeavesV Wm Wm.heap.size lv p.ls) (hp0 : 0 ≤ p.n ∧ p.n ≤ 1073741824) (hat : ∀ x ∈ p.ls, 0 ≤ x.at_ ∧ x.at_ ≤ 1073741824) (hn : p.ls.length ≤ 2) (hpa : ∀ x ∈ p.ls, x.path.length ≤ 17) (hl : L.length ≤ 90000000) :
    Calls Tryz.prog 174 #[.pointer (some ⟨g, 0, none⟩), .agg #[.int .i64 p.n, lv]] w fun e w' => e = .returned (.tuple #[]) ∧ WrX F W0 w' B g (L ++ encPf p) := by
  obtain ⟨pn, ls⟩ := p
  dsimp only at hr hp0 hat hn hpa ⊢
  obtain ⟨m, rfl⟩ : ∃ m : Nat, pn = (m : Int) := ⟨pn.toNat, by omega⟩
  have hfit : L ++ encPf ⟨(m : Int), ls⟩ = ((L ++ be m 8) ++ be ls.length 8) ++ (ls.map encLf).flatten := by unfold encPf; simp only [List.append_assoc, Int.toNat_natCast]
  rw [hfit]
  obtain ⟨A, c, rfl, hc, hm, hp⟩ := hr
  have HCELL : Hid (∀ Z, Below g w Z → ∀ j (hj : j < ls.length), ∃ b o, A = some ⟨b, o, none⟩ ∧ LeafAt Z g b (o + j * 4) ls[j]) := Lib.hid fun Z hz j hj => by
    obtain ⟨b, o, hA, hb, hat⟩ := hp (by omega)
    have hk : Below Wm.heap.size Wm Z := hZ.trans (hz.mono hG)
    exact ⟨b, o, hA, ((hat j hj).below hk hb).more hG⟩
  have HAT := Lib.hid hat
  have HPA := Lib.hid hpa
  have hlen : ∀ k, ((ls.take k).map encLf).flatten.length ≤ 2800000 := fun k => by
    have := flatX_len encLf 1400000 (ls.take k) fun x hx => encLf_len x (hpa x (List.mem_of_mem_take hx))
    have h2 : (ls.take k).length ≤ 2 := by rw [List.length_take]; omega
    omega
  have HLEN := Lib.hid hlen
  have hfull : (ls.map encLf).flatten = ((ls.take ls.length).map encLf).flatten := by rw [List.take_length]
  rw [hfull]
  have HNEXT := Lib.hid (fun (k : Nat) (hk : k < ls.length) => flatX_take encLf ls k hk)
  obtain ⟨n, hnn⟩ : ∃ n, n = ls.length := ⟨_, rfl⟩
  have HNN := Lib.hid hnn
  rw [← hnn] at hn ⊢
  have hw0 := u64_nat n (by omega)
  have hw1 := u64_nat m (by omega)
  obtain ⟨G1, X1, hng, hback⟩ := h.box (.cells #[.int .i64 (m : Int), .slice A n c] 170)
  have hbox := heap_alloc_new w (.cells #[.int .i64 (m : Int), .slice A n c] 170)
  have ha0 : Below w.heap.size w (w.alloc (.cells #[.int .i64 (m : Int), .slice A n c] 170)) := (Below.refl _ _).alloc (Nat.le_refl _) _
  have hgw : g ≤ w.heap.size := by obtain ⟨v, h1, -⟩ := h.v; exact Nat.le_of_lt (blk_lt h1)
  generalize hW1 : w.alloc (.cells #[.int .i64 (m : Int), .slice A n c] 170) = W1 at *
  have HBW := Lib.hid (ha0.mono hgw)
  generalize hgg : w.heap.size = g0 at *
  have HC : Hid (∀ Z, Chg W1 Z G1 → Z.cell? ⟨g0, 0, none⟩ = some (.int .i64 (m : Int)) ∧ Z.cell? ⟨g0, 1, none⟩ = some (.slice A n c)) := Lib.hid fun Z hz => ⟨blk_cell ((hz.block _ (blk_lt hbox) hng).trans hbox) 0, blk_cell ((hz.block _ (blk_lt hbox) hng).trans hbox) 1⟩
  have HBK := Lib.hid hback
  obtain ⟨c0, c1⟩ := HC.out _ (Chg.refl _ _)
  have D0 := Lib.hid (wxn_any X1 m (by omega) (by omega))
  clear hfit hlen hfull hp h hnn hback hbox hng ha0 hgw hat hpa hc hm
  go_enter Tryz.func174, Tryz.ntmps174
  go_wp2_with fail
  try rw [hW1]
  clear hW1
  try rw [hgg]
  refine D0.out.mono ?_
  rintro e w2 ⟨rfl, X2⟩
  have D1 := Lib.hid (wxn_any X2 n (by omega) (by simp only [List.length_append, be_length]; omega))
  clear c0 c1 D0 X1 hw1
  obtain ⟨c0, c1⟩ := HC.out _ X2.c
  clear X2
  go_wp2_with fail
  refine D1.out.mono ?_
  rintro e w3 ⟨rfl, X3⟩
  clear c0 c1 D1 hw0
  obtain ⟨c0, c1⟩ := HC.out _ X3.c
  have hLL : ((L ++ be m 8) ++ be n 8).length ≤ 91000000 := by simp only [List.length_append, be_length]; omega
  obtain ⟨LL, hLe⟩ : ∃ LL, LL = (L ++ be m 8) ++ be n 8 := ⟨_, rfl⟩
  rw [← hLe] at hLL X3
  have HLE := Lib.hid hLe
  have HLL := Lib.hid hLL
  have HX3 := Lib.hid X3
  clear hLL hl X3 hLe
  go_wp2_with fail
  clear c0 c1
  go_loopw [22] (fun i wr => ∃ k : Nat, k ≤ n ∧ i = .int .i64 (k : Int) ∧ Hid (WrX G1 W1 wr B g (LL ++ ((ls.take k).map encLf).flatten)))
    (fun i _ => n - (intOf i).toNat)
  case atStart => exact ⟨0, Nat.zero_le _, rfl, Lib.hid (by simpa using HX3.out)⟩
  case round =>
    clear HX3
    obtain ⟨k, hk, rfl, HX⟩ := hrel
    by_cases hlt : k < n
    · have hkl : k < ls.length := by have := HNN.out; omega
      obtain ⟨b, o, rfl, hlf⟩ := HCELL.out wr (HBW.out.trans HX.out.below) k hkl
      have hxa := HAT.out _ (List.getElem_mem hkl)
      have hxp := HPA.out _ (List.getElem_mem hkl)
      have hnx := HNEXT.out k hkl
      have hkn := HLEN.out k
      have i1 : (0 : Int) ≤ (k : Int) := by omega
      have i2 : (k : Int) < (n : Int) := by omega
      have HL2 := HLL.out
      generalize ls[k] = x at *
      obtain ⟨xa, xk, xv, xp⟩ := x
      dsimp only at hxa hxp
      obtain ⟨a, rfl⟩ : ∃ a : Nat, xa = (a : Int) := ⟨xa.toNat, by omega⟩
      obtain ⟨sv, pv, q0, q1, q2, q3, sv', pv', heq, hrv, hpv, hks, -⟩ := hlf
      injection heq with heq
      simp only [Array.mk.injEq, List.cons.injEq, and_true, true_and] at heq
      obtain ⟨rfl, rfl⟩ := heq
      dsimp only at q0 q1 q2 q3 hrv hpv hks
      have hle : (LL ++ ((ls.take k).map encLf).flatten).length ≤ 94000000 := by rw [List.length_append]; omega
      obtain ⟨M, hM⟩ : ∃ M, M = LL ++ ((ls.take k).map encLf).flatten := ⟨_, rfl⟩
      have hMN : LL ++ ((ls.take (k + 1)).map encLf).flatten = M ++ encLf ⟨(a : Int), xk, xv, xp⟩ := by rw [hnx, hM, List.append_assoc]
      rw [← hM] at HX hle
      have HMN := Lib.hid hMN
      clear hM hnx hkn hMN HL2
      obtain ⟨A1, k1, rfl⟩ := hrv.form
      obtain ⟨A2, k2, rfl, hk2, hm2, hq2⟩ := hpv
      have HXV := Lib.hid (fun (Z : World) (hz : Below g wr Z) => hrv.below hz)
      have HXP := Lib.hid (fun (Z : World) (hz : Below g wr Z) (j : Nat) (hj : j < xp.length) => show ∃ b o, A2 = some ⟨b, o, none⟩ ∧ ∃ x, Z.cell? ⟨b, o + j, none⟩ = some x ∧ Rd Z g x xp[j] from by
        obtain ⟨b, o, hA, hb, hc⟩ := hq2 (by omega)
        obtain ⟨x, e1, e2⟩ := hc j hj
        exact ⟨b, o, hA, x, (hz.cell (p := ⟨b, o + j, none⟩) hb).trans e1, e2.below hz⟩)
      obtain ⟨np, hnp⟩ : ∃ np, np = xp.length := ⟨_, rfl⟩
      have HNP := Lib.hid hnp
      rw [← hnp] at q3 hxp
      obtain ⟨nv, hnv⟩ : ∃ nv, nv = xv.length := ⟨_, rfl⟩
      rw [← hnv] at q2 HXV
      have hwa := u64_nat a (by omega)
      have hwp := u64_nat np (by omega)
      obtain ⟨G2, X2, hng2, hback2⟩ := HX.out.box (.cells #[.int .i64 (a : Int), .string xk, .slice A1 nv k1, .slice A2 np k2] 232)
      have hbox2 := heap_alloc_new wr (.cells #[.int .i64 (a : Int), .string xk, .slice A1 nv k1, .slice A2 np k2] 232)
      have ha2 : Below wr.heap.size wr (wr.alloc (.cells #[.int .i64 (a : Int), .string xk, .slice A1 nv k1, .slice A2 np k2] 232)) := (Below.refl _ _).alloc (Nat.le_refl _) _
      have hgr : g ≤ wr.heap.size := by obtain ⟨v, h1, -⟩ := HX.out.v; exact Nat.le_of_lt (blk_lt h1)
      generalize hW2 : wr.alloc (.cells #[.int .i64 (a : Int), .string xk, .slice A1 nv k1, .slice A2 np k2] 232) = W2 at *
      have HBR := Lib.hid (ha2.mono hgr)
      generalize hg2 : wr.heap.size = g2 at *
      have HC2 : Hid (∀ Z, Chg W2 Z G2 → Z.cell? ⟨g2, 0, none⟩ = some (.int .i64 (a : Int)) ∧ Z.cell? ⟨g2, 1, none⟩ = some (.string xk) ∧ Z.cell? ⟨g2, 2, none⟩ = some (.slice A1 nv k1) ∧ Z.cell? ⟨g2, 3, none⟩ = some (.slice A2 np k2)) := Lib.hid fun Z hz => ⟨blk_cell ((hz.block _ (blk_lt hbox2) hng2).trans hbox2) 0, blk_cell ((hz.block _ (blk_lt hbox2) hng2).trans hbox2) 1, blk_cell ((hz.block _ (blk_lt hbox2) hng2).trans hbox2) 2, blk_cell ((hz.block _ (blk_lt hbox2) hng2).trans hbox2) 3⟩
      have HB2 := Lib.hid hback2
      have bk := encW_len xk
      have bv := encB_lenW xv
      have HM := Lib.hid hle
      obtain ⟨c0, c1, c2, c3⟩ := HC2.out _ (Chg.refl _ _)
      have D1 := Lib.hid (wxn_any X2 a (by omega) (by omega))
      clear hbox2 hback2 hng2 hrv hq2 hk2 hm2 ha2 hgr hnp hnv X2
      go_wp2_with fail
      try rw [hW2]
      clear hW2
      try rw [hg2]
      refine D1.out.mono ?_
      rintro e w5 ⟨rfl, X5⟩
      have D2 := Lib.hid (wxt_any X5 xk hks (by simp only [List.length_append, be_length]; omega))
      clear c0 c1 c2 c3 D1 hwa q0 q1 q2 q3
      obtain ⟨c0, c1, c2, c3⟩ := HC2.out _ X5.c
      clear X5
      go_wp2_with fail
      refine D2.out.mono ?_
      rintro e w6 ⟨rfl, X6⟩
      have D3 := Lib.hid (wxb_any X6 A1 nv k1 xv ((HXV.out _ (HBR.out.trans X6.below)).more (Nat.le_of_lt (Nat.lt_of_lt_of_le X6.gW X6.c.size))) (by simp only [List.length_append, be_length]; omega))
      clear c0 c1 c2 c3 D2
      obtain ⟨c0, c1, c2, c3⟩ := HC2.out _ X6.c
      clear X6
      go_wp2_with fail
      refine D3.out.mono ?_
      rintro e w7 ⟨rfl, X7⟩
      have D4 := Lib.hid (wxn_any X7 np (by omega) (by simp only [List.length_append, be_length]; omega))
      clear c0 c1 c2 c3 D3
      obtain ⟨c0, c1, c2, c3⟩ := HC2.out _ X7.c
      clear X7
      go_wp2_with fail
      refine D4.out.mono ?_
      rintro e w8 ⟨rfl, X8⟩
      clear c0 c1 c2 c3 D4 hwp
      obtain ⟨c0, c1, c2, c3⟩ := HC2.out _ X8.c
      have hen : (((M ++ be a 8) ++ encW xk) ++ encB xv) ++ be np 8 = (((M ++ be a 8) ++ encW xk) ++ encB xv) ++ be xp.length 8 := by rw [HNP.out]
      have hM4 : ((((M ++ be a 8) ++ encW xk) ++ encB xv) ++ be np 8).length ≤ 96000000 := by simp only [List.length_append, be_length]; omega
      have hfl : ((((M ++ be a 8) ++ encW xk) ++ encB xv) ++ be np 8) ++ (xp.map encB).flatten = M ++ encLf ⟨(a : Int), xk, xv, xp⟩ := by rw [hen]; unfold encLf encPath; simp only [List.append_assoc, Int.toNat_natCast]
      generalize (((M ++ be a 8) ++ encW xk) ++ encB xv) ++ be np 8 = M4 at *
      have HFL := Lib.hid hfl
      have HM4 := Lib.hid hM4
      have HX8 := Lib.hid X8
      have HNEXT2 := Lib.hid (fun (j : Nat) (hj : j < xp.length) => flatX_take encB xp j hj)
      have HLEN2 := Lib.hid (fun j => show ((xp.take j).map encB).flatten.length ≤ 1200000 from by
        have h1 := flatX_len encB 65539 (xp.take j) fun x _ => encB_lenW x
        have h2 : (xp.take j).length ≤ 17 := by rw [List.length_take]; have := HNP.out; omega
        omega)
      clear hen hM4 hfl X8 bk bv hle
      go_wp2_with fail
      clear c0 c1 c2 c3
      go_loopw [48] (fun i wr2 => ∃ j : Nat, j ≤ np ∧ i = .int .i64 (j : Int) ∧ Hid (WrX G2 W2 wr2 B g (M4 ++ ((xp.take j).map encB).flatten)))
        (fun i _ => np - (intOf i).toNat)
      case atStart => exact ⟨0, Nat.zero_le _, rfl, Lib.hid (by simpa using HX8.out)⟩
      case round =>
        clear HX8
        rename World => wr2
        obtain ⟨j, hj, rfl, HY⟩ := hrel
        by_cases hlt2 : j < np
        · have hjl : j < xp.length := by have := HNP.out; omega
          obtain ⟨b2, o2, rfl, y, e1, e2⟩ := HXP.out wr2 (HBR.out.trans HY.out.below) j hjl
          have hnx2 := HNEXT2.out j hjl
          have hkn2 := HLEN2.out j
          have j1 : (0 : Int) ≤ (j : Int) := by omega
          have j2 : (j : Int) < (np : Int) := by omega
          generalize xp[j] = z at *
          obtain ⟨A5, k5, rfl⟩ := e2.form
          have hrr := e2.more (Nat.le_of_lt (Nat.lt_of_lt_of_le HY.out.gW HY.out.c.size))
          have D5 := Lib.hid (wxb_any HY.out A5 z.length k5 z hrr (by have := HM4.out; rw [List.length_append]; omega))
          have HNX2 := Lib.hid hnx2
          generalize z.length = nz at *
          clear hnx2 hkn2 e2 hrr
          go_wp2_with fail
          refine D5.out.mono ?_
          rintro e w9 ⟨rfl, X9⟩
          have HX9 : Hid (WrX G2 W2 w9 B g (M4 ++ ((xp.take (j + 1)).map encB).flatten)) := Lib.hid (by rw [HNX2.out]; simpa only [List.append_assoc] using X9)
          clear D5 X9 e1
          go_wp2_with fail
          exact ⟨⟨j + 1, by omega, by go_num, HX9⟩, by simp [intOf]; omega⟩
        · have j2 : ¬ (j : Int) < (np : Int) := by omega
          have hXF := HB2.out _ _ HY.out
          obtain rfl : j = np := by omega
          have HXF : Hid (WrX G1 W1 wr2 B g (LL ++ ((ls.take (k + 1)).map encLf).flatten)) := Lib.hid (by
            rw [HMN.out, ← HFL.out]
            rw [show ((xp.take j).map encB).flatten = (xp.map encB).flatten by rw [HNP.out, List.take_length]] at hXF
            exact hXF)
          clear hXF HY HXP HXV
          go_wp2_with fail
          exact ⟨⟨k + 1, by omega, by go_num, HXF⟩, by simp [intOf]; omega⟩
    · have hk2 : ¬ (k : Int) < (n : Int) := by omega
      obtain rfl : k = n := by omega
      have XF := HBK.out _ _ HX.out
      clear HX HCELL
      go_wp2_with fail
      go_end0
      exact ⟨rfl, by rw [HLE.out] at XF; simpa only [List.append_assoc, List.map_take] using XF⟩
end Go.Proofs.YtniclaapiabmdaaGreatDoor
