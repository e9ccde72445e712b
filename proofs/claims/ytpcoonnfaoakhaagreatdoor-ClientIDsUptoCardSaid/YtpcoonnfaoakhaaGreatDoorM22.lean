/- Texts joined: ValH, RShaG0, ValG, ClnN1, ClnG1, OpenB0, OpenM0, OpenBk0, OpenG1, OpenSt, ShaTab0. -/
import Derived.Test.YtpcoonnfaoakhaaGreatDoorM20
import Derived.Test.YtpcoonnfaoakhaaGreatDoorM13
import Derived.Deep.RegionHeldLaw
import Derived.Test.YtpcoonnfaoakhaaGreatDoorM04
import Derived.Test.YtpcoonnfaoakhaaGreatDoorM05
import Derived.LoopTactic
import Derived.Test.YtpcoonnfaoakhaaGreatDoorM19
import Derived.Test.YtpcoonnfaoakhaaGreatDoorM18
import Derived.Deep.MidRow
import Derived.Test.YtpcoonnfaoakhaaGreatDoorM21
import Derived.Test.YtpcoonnfaoakhaaGreatDoorM09
import Derived.Test.YtpcoonnfaoakhaaGreatDoorShfF
import Derived.Test.YtpcoonnfaoakhaaGreatDoorM14
import Derived.Lib.ItoaMem
import Derived.Lib.Walk
import Derived.WalkKit
import Derived.Test.YtpcoonnfaoakhaaGreatDoorRows
import Derived.Lib.LaidTab
import Derived.Deep.DeepHandedRow
import Derived.LaidSub
import Derived.Test.YtpcoonnfaoakhaaGreatDoorM01
import Derived.ProofKit
import Derived.OpenShut
import Derived.ShutString
import Derived.JoinedCond
import Derived.Deep.Slices
import Derived.Deep.Fields
import Derived.Carry
import Derived.Test.YtpcoonnfaoakhaaGreatDoorM06
import Derived.Deep.Grids
import Derived.Test.YtpcoonnfaoakhaaGreatDoorM08
import Derived.Test.YtpcoonnfaoakhaaGreatDoorM02
import Derived.Laws.IdiomArrays
import Derived.Deep.Strs
import Derived.Test.YtpcoonnfaoakhaaGreatDoorCards
namespace Go.Proofs.YtpcoonnfaoakhaaGreatDoor
set_option maxRecDepth 100000
open Go Go.RowKit

/-- a header as it is handed about -/
structure HV where
  chain : ByteArray
  height : Nat
  time : Nat
  vrA : Option Addr
  vrC : Nat
  vvA : Option Addr
  vvC : Nat
  vnA : Option Addr
  vnC : Nat
  root : List UInt8
  vals : List UInt8
  next : List UInt8
def HV.cells (h : HV) : Array Value := #[.string h.chain, .int .u64 (h.height : Int), .int .u64 (h.time : Int), .slice h.vrA h.root.length h.vrC, .slice h.vvA h.vals.length h.vvC, .slice h.vnA h.next.length h.vnC]
structure HV.at (h : HV) (w : World) : Prop where
  c : h.chain.size ≤ maxLen
  h1 : h.height < 18446744073709551616
  h2 : h.time < 18446744073709551616
  r : Rd w w.heap.size (.slice h.vrA h.root.length h.vrC) h.root
  v : Rd w w.heap.size (.slice h.vvA h.vals.length h.vvC) h.vals
  n : Rd w w.heap.size (.slice h.vnA h.next.length h.vnC) h.next
theorem HV.at.up {h : HV} {w w' : World} (a : h.at w) (hb : Below w.heap.size w w') : h.at w' :=
  ⟨a.c, a.h1, a.h2, a.r.up (Nat.le_refl _) hb, a.v.up (Nat.le_refl _) hb, a.n.up (Nat.le_refl _) hb⟩
def headL1 (h : HV) : List UInt8 := formB (strBytes h.chain) ++ be h.height 8 ++ be h.time 8
def headL (h : HV) : List UInt8 := headL1 h ++ formB h.root ++ formB h.vals ++ formB h.next
/-- the box of a header, and what is known behind each call -/
def HB (g : Nat) (w : World) (h : HV) (w' : World) : Prop :=
  w'.heap[g]? = some (.cells h.cells 109 (0, 0)) ∧ Below w.heap.size w w' ∧ w.heap.size ≤ w'.heap.size
theorem HB.below {g : Nat} {w w' w'' : World} {h : HV} (a : HB g w h w') (hb : Below w'.heap.size w' w'') : HB g w h w'' :=
  ⟨(hb.block g (blk_lt a.1)).trans a.1, below_chain a.2.1 a.2.2 hb, Nat.le_trans a.2.2 hb.size⟩
theorem HB.drew {g : Nat} {w w' : World} {h : HV} (a : HB g w h w') : HB g w h w'.drew := ⟨a.1, a.2.1.drew, a.2.2⟩
theorem HB.r {g : Nat} {w w' : World} {h : HV} (a : HB g w h w') (hh : h.at w) : Rd w' w'.heap.size (.slice h.vrA h.root.length h.vrC) h.root := hh.r.up (Nat.le_refl _) a.2.1
theorem HB.v {g : Nat} {w w' : World} {h : HV} (a : HB g w h w') (hh : h.at w) : Rd w' w'.heap.size (.slice h.vvA h.vals.length h.vvC) h.vals := hh.v.up (Nat.le_refl _) a.2.1
theorem HB.n {g : Nat} {w w' : World} {h : HV} (a : HB g w h w') (hh : h.at w) : Rd w' w'.heap.size (.slice h.vnA h.next.length h.vnC) h.next := hh.n.up (Nat.le_refl _) a.2.1
theorem HB.c {g : Nat} {w w' : World} {h : HV} (a : HB g w h w') :
    w'.cell? ⟨g, 0, none⟩ = some (.string h.chain) ∧ w'.cell? ⟨g, 1, none⟩ = some (.int .u64 (h.height : Int)) ∧ w'.cell? ⟨g, 2, none⟩ = some (.int .u64 (h.time : Int)) ∧ w'.cell? ⟨g, 3, none⟩ = some (.slice h.vrA h.root.length h.vrC) ∧ w'.cell? ⟨g, 4, none⟩ = some (.slice h.vvA h.vals.length h.vvC) ∧ w'.cell? ⟨g, 5, none⟩ = some (.slice h.vnA h.next.length h.vnC) :=
  ⟨blk_cell a.1 0, blk_cell a.1 1, blk_cell a.1 2, blk_cell a.1 3, blk_cell a.1 4, blk_cell a.1 5⟩
theorem HB.new (w : World) (h : HV) : HB w.heap.size w h (w.alloc (.cells h.cells 109)) := ⟨heap_alloc_new w _, (Below.refl _ _).alloc (Nat.le_refl _) _, by simp⟩

end Go.Proofs.YtpcoonnfaoakhaaGreatDoor
namespace Go.Proofs.YtpcoonnfaoakhaaGreatDoor
set_option maxRecDepth 100000
open Go.RowKit

end Go.Proofs.YtpcoonnfaoakhaaGreatDoor
namespace Go.Proofs.YtpcoonnfaoakhaaGreatDoor
set_option maxRecDepth 100000
open Go.RowKit

def padS (M : List UInt8) (F b : Nat) : Nat → List UInt8
  | 0 => M
  | i + 1 => (padS M F b i).set (F - 1 - i) (UInt8.ofNat (b / 2 ^ (8 * i)))
end Go.Proofs.YtpcoonnfaoakhaaGreatDoor
namespace Go.Proofs.YtpcoonnfaoakhaaGreatDoor
set_option maxRecDepth 100000
open Go.RowKit

/-- what stays while the rounds are made -/
structure KB (n0 : Nat) (w : World) (s : S8) (p : List UInt32) (fr : TypeId × Nat × Nat) (w' : World) : Prop where
  st : w'.heap[n0]? = some (.cells #[.int .u32 (s.a.toNat : Int), .int .u32 (s.b.toNat : Int), .int .u32 (s.c.toNat : Int), .int .u32 (s.d.toNat : Int), .int .u32 (s.e.toNat : Int), .int .u32 (s.f.toNat : Int), .int .u32 (s.g.toNat : Int), .int .u32 (s.h.toNat : Int)] 162 (0, 0))
  res : w'.heap[n0 + 1]? = some (.cells #[.int .u32 0, .int .u32 0, .int .u32 0, .int .u32 0, .int .u32 0, .int .u32 0, .int .u32 0, .int .u32 0] 162 (0, 0))
  tab : w'.heap[5]? = some (.cells kVals fr.1 fr.2)
  row : w'.heap[n0 + 1 + 1]? = some (.cells (arr64 p).toArray 227 (0, 0))
  bel : Below n0 w w'
theorem KB.drew {n0 : Nat} {w : World} {s : S8} {p : List UInt32} {fr : TypeId × Nat × Nat} {w' : World} (h : KB n0 w s p fr w') : KB n0 w s p fr w'.drew := ⟨h.st, h.res, h.tab, h.row, h.bel.drew⟩
theorem KB.drewN {n0 : Nat} {w : World} {s : S8} {p : List UInt32} {fr : TypeId × Nat × Nat} {w' : World} (h : KB n0 w s p fr w') (k : Nat) : KB n0 w s p fr (w'.drewN k) := ⟨h.st, h.res, h.tab, h.row, below_drewN' h.bel k⟩
theorem KB.put {n0 : Nat} {w : World} {s : S8} {p : List UInt32} {fr : TypeId × Nat × Nat} {w' : World} (h : KB n0 w s p fr w') (h0 : 5 < n0) (x : UInt32) (t : Nat) (ht : p.length = t) (h64 : t < 64) :
    KB n0 w s (p ++ [x]) fr (w'.setCell ⟨n0 + 1 + 1, t, none⟩ (.int .u32 (x.toNat : Int))) := by
  subst ht
  refine ⟨(Below.heap_setCell w' _ _ n0 (by simp <;> omega)).trans h.st, (Below.heap_setCell w' _ _ (n0 + 1) (by simp)).trans h.res, (Below.heap_setCell w' _ _ _ (by simp <;> omega)).trans h.tab, ?_, h.bel.setCell (by simp <;> omega) _⟩
  rw [blk_set h.row, ← arr64_set _ _ h64]
  simp
theorem KB.start (w : World) (s : S8) (fr : TypeId × Nat × Nat) (hk : w.heap[5]? = some (.cells kVals fr.1 fr.2)) :
    KB w.heap.size w s [] fr (((w.alloc (.cells #[.int .u32 (s.a.toNat : Int), .int .u32 (s.b.toNat : Int), .int .u32 (s.c.toNat : Int), .int .u32 (s.d.toNat : Int), .int .u32 (s.e.toNat : Int), .int .u32 (s.f.toNat : Int), .int .u32 (s.g.toNat : Int), .int .u32 (s.h.toNat : Int)] 162)).alloc
      (.cells #[.int .u32 0, .int .u32 0, .int .u32 0, .int .u32 0, .int .u32 0, .int .u32 0, .int .u32 0, .int .u32 0] 162)).alloc (.cells (arr64 []).toArray 227)) := by
  have h0 := blk_lt hk
  refine ⟨?_, ?_, ?_, ?_, (((Below.refl _ _).alloc (Nat.le_refl _) _).alloc (by simp) _).alloc (by simp <;> omega) _⟩
  · exact (Below.heap_alloc _ _ _ (by simp <;> omega)).trans ((Below.heap_alloc _ _ _ (by simp)).trans (heap_alloc_new w _))
  · refine (Below.heap_alloc _ _ _ (by simp)).trans ?_
    have := heap_alloc_new (w.alloc (.cells #[.int .u32 (s.a.toNat : Int), .int .u32 (s.b.toNat : Int), .int .u32 (s.c.toNat : Int), .int .u32 (s.d.toNat : Int), .int .u32 (s.e.toNat : Int), .int .u32 (s.f.toNat : Int), .int .u32 (s.g.toNat : Int), .int .u32 (s.h.toNat : Int)] 162)) (.cells #[.int .u32 0, .int .u32 0, .int .u32 0, .int .u32 0, .int .u32 0, .int .u32 0, .int .u32 0, .int .u32 0] 162)
    simpa using this
  · exact (Below.heap_alloc _ _ _ (by simp <;> omega)).trans ((Below.heap_alloc _ _ _ (by simp <;> omega)).trans ((Below.heap_alloc _ _ _ h0).trans hk))
  · have := heap_alloc_new ((w.alloc (.cells #[.int .u32 (s.a.toNat : Int), .int .u32 (s.b.toNat : Int), .int .u32 (s.c.toNat : Int), .int .u32 (s.d.toNat : Int), .int .u32 (s.e.toNat : Int), .int .u32 (s.f.toNat : Int), .int .u32 (s.g.toNat : Int), .int .u32 (s.h.toNat : Int)] 162)).alloc (.cells #[.int .u32 0, .int .u32 0, .int .u32 0, .int .u32 0, .int .u32 0, .int .u32 0, .int .u32 0, .int .u32 0] 162)) (.cells (arr64 []).toArray 227)
    simpa using this

end Go.Proofs.YtpcoonnfaoakhaaGreatDoor
namespace Go.Proofs.YtpcoonnfaoakhaaGreatDoor
set_option maxRecDepth 100000
open Go.RowKit

/-! ### the whole message filled up is its whole blocks and the rest filled up -/
/-- block g holds the state s -/
def RBlk (w : World) (g : Nat) (s : S8) : Prop := w.heap[g]? = some (.cells s.list.toArray 162 (0, 0))

theorem RBlk.cells {w : World} {g : Nat} {s : S8} (h : RBlk w g s) : w.rangeAt g 0 s.list := by
  have := World.rangeAt_of_block h 0 8
  rwa [show (s.list.toArray.extract 0 (0 + 8)).toList = s.list by simp [S8.list]] at this
theorem RBlk.below {w w' : World} {g : Nat} {s : S8} (h : RBlk w g s) (hb : Below w.heap.size w w') : RBlk w' g s := (hb.block g (blk_lt h)).trans h

theorem RBlk.at8 {w : World} {g : Nat} {s : S8} (h : RBlk w g s) : w.cell? ⟨g, 0, none⟩ = some (.int .u32 (s.a.toNat : Int)) ∧ w.cell? ⟨g, 1, none⟩ = some (.int .u32 (s.b.toNat : Int)) ∧ w.cell? ⟨g, 2, none⟩ = some (.int .u32 (s.c.toNat : Int)) ∧ w.cell? ⟨g, 3, none⟩ = some (.int .u32 (s.d.toNat : Int)) ∧
    w.cell? ⟨g, 4, none⟩ = some (.int .u32 (s.e.toNat : Int)) ∧ w.cell? ⟨g, 5, none⟩ = some (.int .u32 (s.f.toNat : Int)) ∧ w.cell? ⟨g, 6, none⟩ = some (.int .u32 (s.g.toNat : Int)) ∧ w.cell? ⟨g, 7, none⟩ = some (.int .u32 (s.h.toNat : Int)) :=
  ⟨blk_cell h 0, blk_cell h 1, blk_cell h 2, blk_cell h 3, blk_cell h 4, blk_cell h 5, blk_cell h 6, blk_cell h 7⟩


theorem RBlk.word {w : World} {g : Nat} {s : S8} (h : RBlk w g s) (t : Nat) (ht : t < 8) : w.cell? ⟨g, t, none⟩ = some (.int .u32 ((s.word t).toNat : Int)) := by
  rw [blk_cell h t]
  have : t = 0 ∨ t = 1 ∨ t = 2 ∨ t = 3 ∨ t = 4 ∨ t = 5 ∨ t = 6 ∨ t = 7 := by omega
  rcases this with rfl | rfl | rfl | rfl | rfl | rfl | rfl | rfl <;> rfl

end Go.Proofs.YtpcoonnfaoakhaaGreatDoor
namespace Go.Proofs.YtpcoonnfaoakhaaGreatDoor
set_option maxRecDepth 100000
open Go.RowKit

end Go.Proofs.YtpcoonnfaoakhaaGreatDoor
namespace Go.Proofs.YtpcoonnfaoakhaaGreatDoor
set_option maxRecDepth 100000
open Go Go.RowKit

def headWord : ByteArray := ⟨#[104, 101, 97, 100, 101, 114]⟩
end Go.Proofs.YtpcoonnfaoakhaaGreatDoor
namespace Go.Proofs.YtpcoonnfaoakhaaGreatDoor
set_option maxRecDepth 100000
open Go Go.RowKit
set_option linter.unusedVariables false

/-- news: a header, the set that voted, the one that is trusted, the votes, the height that is trusted -/
structure NwW where
  h : HdW
  vs : Value
  s : List VD
  vt : Value
  t : List VD
  vo : Value
  o : List ByteArray
  ua : Nat
structure NwW.rd (W : World) (u : NwW) : Prop where
  h : u.h.rd W
  s : ValsAt W W.heap.size u.vs u.s
  t : ValsAt W W.heap.size u.vt u.t
  o : StrsAt W W.heap.size u.vo u.o
  ua : u.ua < 18446744073709551616
  ls : u.s.length ≤ 1048576
  lt : u.t.length ≤ 1048576
def NwW.val (u : NwW) : Value := .agg #[.string u.h.ch, .int .u64 (u.h.ht : Int), .int .u64 (u.h.tm : Int), u.h.vr, u.h.vv, u.h.vn, u.vs, u.vt, u.vo, .int .u64 (u.ua : Int)]
def vhash (l : List VD) : List UInt8 := shaSum (formB (strBytes valsWord) ++ formBs [bytesV l])
def linkedB (nx : List UInt8) (va : List UInt8) (ht ua : Nat) (t : List VD) (o : List ByteArray) : Bool := if ht = (ua + 1) % 18446744073709551616 then sameB va nx else rightB t && (sameB (vhash t) nx && thirdB t (keysOf o))
def wrongB (b1 b2 b3 b4 b5 b6 b7 b8 : Bool) : Int := if b1 = true then 103 else if b2 = true then 107 else if b3 = true then 104 else if b4 = true then 105 else if b5 = false then 21 else if b6 = false then 90 else if b7 = false then 106 else if b8 = false then 91 else 0
def wrongE (R : List Pr) (id : ByteArray) (c : ClV) (u : NwW) (now : Nat) : Int := match getCs R id u.ua with
  | none => 101
  | some t => wrongB (overB t.tm c.pe now) (u.h.ch.toList != c.ch.toList) (decide (u.h.ht ≤ u.ua)) (decide (u.h.tm ≤ t.tm) || aheadB u.h.tm now) (decide (u.h.rt.length = 32) && (decide (u.h.va.length = 32) && decide (u.h.nx.length = 32))) (rightB u.s && sameB (vhash u.s) u.h.va) (linkedB t.nx u.h.va u.h.ht u.ua u.t u.o) (quorumB u.s (keysOf u.o))
end Go.Proofs.YtpcoonnfaoakhaaGreatDoor
namespace Go.Proofs.YtpcoonnfaoakhaaGreatDoor
set_option maxRecDepth 100000
open Go Go.RowKit
set_option linter.unusedVariables false

end Go.Proofs.YtpcoonnfaoakhaaGreatDoor
namespace Go.Proofs.YtpcoonnfaoakhaaGreatDoor
set_option maxRecDepth 100000
open Go Go.RowKit
set_option linter.unusedVariables false

def updM (R : List Pr) (id : ByteArray) (u : NwW) (now : Nat) : Int × List Pr :=
  if aliveE R id = 0 then
    (if wrongE R id (aliveV R id) u now = 0 then
      (match getCs R id u.h.ht with
        | some t => (0, if ((t.tm != u.h.tm) || (!sameB t.rt u.h.rt || !sameB t.nx u.h.nx)) = true then setL (kCli id) (clB ⟨(aliveV R id).ch, (aliveV R id).la, (aliveV R id).pe, true⟩) R else R)
        | none => (0, setL (kCli id) (clB ⟨(aliveV R id).ch, max (aliveV R id).la u.h.ht, (aliveV R id).pe, (aliveV R id).fr⟩) (setL (kCons id u.h.ht) (csB ⟨u.h.tm, u.h.rt, u.h.nx⟩) R)))
    else (wrongE R id (aliveV R id) u now, R))
  else (aliveE R id, R)
end Go.Proofs.YtpcoonnfaoakhaaGreatDoor
namespace Go.Proofs.YtpcoonnfaoakhaaGreatDoor
set_option maxRecDepth 100000
open Go Go.RowKit
set_option linter.unusedVariables false

def hhash (h : HdW) : List UInt8 := shaSum (formB (strBytes headWord) ++ formBs [headL ⟨h.ch, h.ht, h.tm, none, 0, none, 0, none, 0, h.rt, h.va, h.nx⟩])
def misM (R : List Pr) (id : ByteArray) (u v : NwW) (now : Nat) : Int × List Pr :=
  if aliveE R id = 0 then
    (if u.h.ht = v.h.ht then
      (if sameB (hhash u.h) (hhash v.h) = true then (2, R)
      else if wrongE R id (aliveV R id) u now = 0 then
        (if wrongE R id (aliveV R id) v now = 0 then (0, setL (kCli id) (clB ⟨(aliveV R id).ch, (aliveV R id).la, (aliveV R id).pe, true⟩) R)
        else (wrongE R id (aliveV R id) v now, R))
      else (wrongE R id (aliveV R id) u now, R))
    else (104, R))
  else (aliveE R id, R)
end Go.Proofs.YtpcoonnfaoakhaaGreatDoor
namespace Go.Proofs.YtpcoonnfaoakhaaGreatDoor
set_option maxRecDepth 100000
open Go Go.RowKit
set_option linter.unusedVariables false

theorem below_growN (w : World) (k : Nat) (os : Array Obj) : Below w.heap.size w (Go.Sort.grow (w.drewN k) os) := by
  have hd : ∀ k, Below w.heap.size w (w.drewN k) := fun k => by
    induction k with
    | zero => rw [World.drewN_zero]; exact Below.refl _ _
    | succ k ih => exact ⟨ih.os, ih.tape, ih.output, ih.size, ih.block⟩
  have h := hd k
  refine ⟨h.os, h.tape, h.output, ?_, fun i hi => ?_⟩
  · show w.heap.size ≤ ((w.drewN k).heap ++ os).size
    rw [Array.size_append]
    exact Nat.le_trans h.size (Nat.le_add_right _ _)
  · show ((w.drewN k).heap ++ os)[i]? = w.heap[i]?
    rw [Array.getElem?_append_left (Nat.lt_of_lt_of_le hi h.size)]
    exact h.block i hi
theorem fin_posF (w : World) (o : Obj) (dk : Array UInt8) (k : Nat) : ∃ os, (Go.Sort.putRow (fun (b : UInt8) => Value.int .u8 (b.toNat : Int)) (w.alloc o) w.heap.size 0 dk).drewN k = Go.Sort.grow (w.drewN k) os := by
  rw [Go.Sort.alloc_eq_grow]
  obtain ⟨os', _, e⟩ := Go.Sort.putRow_grow_new (fun (b : UInt8) => Value.int .u8 (b.toNat : Int)) w #[o] w.heap.size 0 dk (Nat.le_refl _)
  exact ⟨os', by rw [e]; rfl⟩
theorem holds_zeroF (w : World) (T : TypeId) (nd : Nat) (hs : nd ≤ 24) : Go.Sort.Holds (fun (b : UInt8) => Value.int .u8 (b.toNat : Int)) (w.alloc (.cells Lib.zeros24 T)) w.heap.size 0 (Array.replicate nd (0 : UInt8)) := fun j hj => by
  have hj' : j < nd := by simpa using hj
  refine ⟨?_, World.frozen?_alloc_new _ _ _ _⟩
  rw [World.cell?_alloc_new, Lib.zeros24_at _ (by omega), getElem!_pos _ j hj]
  simp
set_option maxHeartbeats 6400000 in
theorem ifmtu_any (u : Nat) (hu64 : u < 18446744073709551616) (w : World) (htab : Lib.TabIs Tryz.prog w "internal/strconv.uint64pow10" .u64 Lib.pow10Tab) :
    Calls Tryz.prog 142 #[.int .u64 (u : Int), .int .i64 10] w fun e w' => e = .returned (.string (decB u)) ∧ Below w.heap.size w w' := by
  unfold decB
  by_cases hs : u < 100
  · have HS := Lib.hid (fun W => Tryz.internal_strconv_small u hs W)
    have i1 : (u : Int) < 100 := by omega
    have i2 : IntKind.i64.wrap (u : Int) = (u : Int) := by rw [IntKind.wrap_i64]; omega
    go_enter Tryz.func142, Tryz.ntmps142
    go_wp2_with fail
    refine (HS.out _).mono ?_
    rintro e w' ⟨rfl, rfl⟩
    go_wp2_with fail
    go_ret
    exact ⟨rfl, Below.refl _ _⟩
  · have hu1 : 1 ≤ u := by omega
    have i1 : ¬ (u : Int) < 100 := by omega
    have hnd20 : Lib.nDigits u ≤ 20 := by have := Lib.numDigits_eq u hu1 hu64; split at this <;> omega
    have hal : Tryz.prog.arrayLen 248 = 24 := by kernel_rfl
    have hsl1 : ∀ W, (Instr.sliceAt 248 (.pointer (some ⟨w.heap.size, 0, none⟩)) none (some (.int .i64 (Lib.nDigits u : Int))) none).run Tryz.prog W = .ok (.slice (some ⟨w.heap.size, 0, none⟩) (Lib.nDigits u) 24) W := fun W => by
      rw [run_sliceAt_array_h W 248 ⟨w.heap.size, 0, none⟩ Tryz.underlying248 .i64 (Lib.nDigits u : Int) (by omega) (by rw [hal]; omega)]
      go_simp
      first | done | omega | (rw [hal]; simp)
    have hH0 := holds_zeroF w 248 (Lib.nDigits u) (by omega)
    have hfmt := Tryz.internal_strconv_formatBase10 w.heap.size 0 24 u (Array.replicate (Lib.nDigits u) 0) (w.alloc (.cells Lib.zeros24 248)) hH0 (by rw [Array.size_replicate]; exact Lib.lt_pow_nDigits u) hu64 (by rw [Array.size_replicate]; omega)
    rw [Array.size_replicate] at hfmt
    have HF := Lib.hid hfmt
    have HH0 := Lib.hid hH0
    have HND := Lib.hid (fun W h => Tryz.internal_strconv_numDigits u hu1 hu64 W h)
    have HT := Lib.hid (Lib.tabIs_alloc htab (.cells Lib.zeros24 248))
    unfold Lib.zeros24 at HF HT
    clear hH0 hal hfmt htab
    go_enter Tryz.func142, Tryz.ntmps142
    go_wp2_with fail
    refine (HND.out _ HT.out).mono ?_
    rintro e w' ⟨rfl, rfl⟩
    go_wp2_with fail
    refine HF.out.mono ?_
    rintro e w' ⟨rfl, k, v', dk, rfl, hF⟩
    have hcv : (convert 27 9 (.slice (some ⟨w.heap.size, 0, none⟩) (Lib.nDigits u) 24)).run Tryz.prog ((Go.Sort.putRow (fun (b : UInt8) => Value.int .u8 (b.toNat : Int)) (w.alloc (.cells Lib.zeros24 248)) w.heap.size 0 dk).drewN k) = .ok (.string ⟨(Lib.decDigits u).toArray⟩) ((Go.Sort.putRow (fun (b : UInt8) => Value.int .u8 (b.toNat : Int)) (w.alloc (.cells Lib.zeros24 248)) w.heap.size 0 dk).drewN k) := by
      have h := run_convert_bytes_back (P := Tryz.prog) ((Go.Sort.putRow (fun (b : UInt8) => Value.int .u8 (b.toNat : Int)) (w.alloc (.cells Lib.zeros24 248)) w.heap.size 0 dk).drewN k) 27 9 5 ⟨w.heap.size, 0, none⟩ 24 (Lib.decDigits u) Tryz.underlying27 Tryz.underlying5 Tryz.underlying9 (fun j hj => by
        rw [Lib.row_is_numeral hF j hj, Lib.add_plain, World.cell?_drewN]
        exact Go.Sort.cell?_putRow (fun (b : UInt8) => Value.int .u8 (b.toNat : Int)) _ w.heap.size 0 _ dk HH0.out (by rw [hF.size, Array.size_replicate]) j (by rw [hF.size]; rw [Lib.decDigits_length] at hj; exact hj))
      rw [Lib.decDigits_length] at h
      exact h
    obtain ⟨os, eo⟩ := fin_posF w (.cells Lib.zeros24 248) dk k
    have hfin : Below w.heap.size w ((Go.Sort.putRow (fun (b : UInt8) => Value.int .u8 (b.toNat : Int)) (w.alloc (.cells Lib.zeros24 248)) w.heap.size 0 dk).drewN k) := by rw [eo]; exact below_growN w k os
    have HFI := Lib.hid hfin
    unfold Lib.zeros24 at hcv HFI
    clear hF eo hfin
    generalize (Go.Sort.putRow (fun (b : UInt8) => Value.int .u8 (b.toNat : Int)) (w.alloc (.cells _ 248)) w.heap.size 0 dk).drewN k = W2 at *
    go_wp2_with fail
    go_ret
    exact ⟨rfl, HFI.out⟩
theorem fmtu_any (u : Nat) (hu64 : u < 18446744073709551616) (w : World) (htab : Lib.TabIs Tryz.prog w "internal/strconv.uint64pow10" .u64 Lib.pow10Tab) :
    Calls Tryz.prog 75 #[.int .u64 (u : Int), .int .i64 10] w fun e w' => e = .returned (.string (decB u)) ∧ Below w.heap.size w w' := by
  have HI := Lib.hid (ifmtu_any u hu64 w htab)
  clear htab
  go_enter Tryz.func75, Tryz.ntmps75
  go_wp2_with fail
  refine HI.out.mono ?_
  rintro e w' ⟨rfl, hb⟩
  go_wp2_with fail
  go_ret
  exact ⟨rfl, hb⟩
end Go.Proofs.YtpcoonnfaoakhaaGreatDoor
namespace Go.Proofs.YtpcoonnfaoakhaaGreatDoor
set_option maxRecDepth 100000
open Go Go.RowKit
set_option linter.unusedVariables false

theorem tab_kept {w w' : World} {name : String} {k : IntKind} {zs : List Int} (h : Lib.TabIs Tryz.prog w name k zs) (hk : Kept w w') : Lib.TabIs Tryz.prog w' name k zs := by
  unfold Lib.TabIs World.var? at *
  cases hg : Tryz.prog.globalNamed name with
  | none => simp [hg] at h
  | some g =>
    simp only [hg, Option.bind_some] at h ⊢
    cases ho : w.heap[g]? with
    | none => rw [ho] at h; simp at h
    | some o =>
      cases o with
      | cells cs t fr => rw [hk.blockP ho]; rw [ho] at h; exact h
      | _ => rw [ho] at h; simp at h
/-- the table of the powers of ten -/
def Pows (w : World) : Prop := Lib.TabIs Tryz.prog w "internal/strconv.uint64pow10" .u64 Lib.pow10Tab
theorem Pows.kept {w w' : World} (h : Pows w) (hk : Kept w w') : Pows w' := tab_kept h hk
theorem decB_len (n : Nat) (hn : n < 18446744073709551616) : (decB n).size ≤ 20 := by
  have h : (decB n).size = (Lib.decDigits n).length := by unfold decB; simp [ByteArray.size]
  rw [h, Lib.decDigits_length]
  by_cases h1 : 1 ≤ n
  · have := Lib.numDigits_eq n h1 hn
    split at this <;> omega
  · have : n = 0 := by omega
    subst this
    decide +kernel
theorem newidU_any {W w : World} {y : Lyr} {l : List Lyr} {R : List Pr} {k : Nat} (h : At W y l R k w) (hn : y.n + k < maxLen) (kind : ByteArray) (hk : kind.size ≤ 100000000) (hT : Pows w) :
    Calls Tryz.prog 23 #[.pointer (some ⟨y.b, 0, none⟩), .string kind] w fun e w' => e = .returned (.string (newID R kind)) ∧ At W y l (newR R kind) (k + 1) w' ∧ Kept w w' :=
  newid_gen h hn kind hk (by have := decB_len (numN R kind) (rN_ltP _ _); omega) fun Z hz => fmtu_any (numN R kind) (rN_ltP _ _) Z (hT.kept hz)
end Go.Proofs.YtpcoonnfaoakhaaGreatDoor
namespace Go.Proofs.YtpcoonnfaoakhaaGreatDoor
set_option maxRecDepth 100000
open Go Go.RowKit
set_option linter.unusedVariables false

def absentE (R : List Pr) (id : ByteArray) (ht now : Nat) (key : ByteArray) (p : Pf) : Int :=
  if (showM R id ht now).2 = 0 then (if absentB (showM R id ht now).1 key p = true then 0 else 61) else (showM R id ht now).2
/-! ### what a message says -/
theorem LeavesV.form {w : World} {B : Nat} {v : Value} {ls : List Lf} (h : LeavesV w B v ls) : ∃ A c, v = .slice A ls.length c := by obtain ⟨A, c, h, _⟩ := h; exact ⟨A, c, h⟩
theorem OrdsAt.form {w : World} {v : Value} {ls : List OrdV} (h : OrdsAt w v ls) : ∃ A c, v = .slice A ls.length c := by obtain ⟨A, c, h, _⟩ := h; exact ⟨A, c, h⟩
def nwOf (m : MsgV) : NwW := ⟨m.h, m.vs1, m.s1, m.vs3, m.s3, m.vt1, m.t1, m.at_⟩
def nw2Of (m : MsgV) : NwW := ⟨m.o, m.vs2, m.s2, m.vs3, m.s3, m.vt2, m.t2, m.at_⟩
/-! ### two stores, side by side -/
structure Sts (w : World) (b m b' m' : Nat) (R R' : List Pr) (N : Nat) (Z : World) : Prop where
  a : ∃ n f, n ≤ N ∧ PileS Z [⟨b, m, n, f⟩] ∧ SeenL ⟨#[]⟩ [⟨b, m, n, f⟩] R
  c : ∃ n f, n ≤ N ∧ PileS Z [⟨b', m', n, f⟩] ∧ SeenL ⟨#[]⟩ [⟨b', m', n, f⟩] R'
  ne : m ≠ m'
  lo : w.heap.size ≤ m
  lo' : w.heap.size ≤ m'
  bel : Below w.heap.size w Z
section
variable {w Z Z' : World} {b m b' m' N k : Nat} {R R' R2 : List Pr}
theorem Sts.swap (h : Sts w b m b' m' R R' N Z) : Sts w b' m' b m R' R N Z := ⟨h.c, h.a, h.ne.symm, h.lo', h.lo, h.bel⟩
theorem Sts.up (h : Sts w b m b' m' R R' N Z) (hb : Below Z.heap.size Z Z') : Sts w b m b' m' R R' N Z' := by
  obtain ⟨n, f, h1, h2, h3⟩ := h.a
  obtain ⟨n', f', k1, k2, k3⟩ := h.c
  exact ⟨⟨n, f, h1, h2.up hb, h3⟩, ⟨n', f', k1, k2.up hb, k3⟩, h.ne, h.lo, h.lo', h.bel.trans (hb.mono h.bel.size)⟩
theorem Sts.more {N' : Nat} (h : Sts w b m b' m' R R' N Z) (hN : N ≤ N') : Sts w b m b' m' R R' N' Z := by
  obtain ⟨n, f, h1, h2, h3⟩ := h.a
  obtain ⟨n', f', k1, k2, k3⟩ := h.c
  exact ⟨⟨n, f, by omega, h2, h3⟩, ⟨n', f', by omega, k2, k3⟩, h.ne, h.lo, h.lo', h.bel⟩
theorem Sts.at (h : Sts w b m b' m' R R' N Z) : ∃ n f, n ≤ N ∧ At Z ⟨b, m, n, f⟩ [] R 0 Z := by
  obtain ⟨n, f, h1, h2, h3⟩ := h.a
  exact ⟨n, f, h1, BankS.refl h2 h3, h2⟩
theorem Sts.step {n : Nat} {f : LF} (h : Sts w b m b' m' R R' N Z) (hn : n ≤ N) (A : At Z ⟨b, m, n, f⟩ [] R2 k Z') : Sts w b m b' m' R2 R' (N + k) Z' := by
  obtain ⟨n', f', h1, h2, h3, h4⟩ := A.b
  obtain ⟨n2, f2, k1, k2, k3⟩ := h.c
  dsimp only at h1 h2 h3 h4
  refine ⟨⟨n', f', by omega, h1, h2⟩, ⟨n2, f2, by omega, ?_, k3⟩, h.ne, h.lo, h.lo', h.bel.trans (A.below (B := w.heap.size) h.lo h.bel.size)⟩
  exact k2.chg h4 A.p.1.maps fun z hz e => by
    rw [List.mem_singleton.1 hz] at e
    exact h.ne e.symm
theorem Sts.rise (h : Sts w b m b' m' R R' N Z) : Rise R := by obtain ⟨n, f, h1, h2, h3⟩ := h.a; exact h3.rise
end
end Go.Proofs.YtpcoonnfaoakhaaGreatDoor
namespace Go.Proofs.YtpcoonnfaoakhaaGreatDoor
set_option maxRecDepth 100000
open Go Go.RowKit
set_option linter.unusedVariables false

section
variable {w Z Z' : World} {b m b' m' N g : Nat} {R R' : List Pr} {cs : Array Value} {t : TypeId}
theorem Sts.made {w w1 w2 : World} {y1 y2 : Lyr} {ps1 ps2 : List Pr} (hb1 : Below w.heap.size w w1) (hm1 : w.heap.size ≤ y1.m) (hp1 : PileS w1 [y1]) (hl1 : LyrIs ps1 y1) (hr1 : Rise ps1) (hs1 : ∀ p ∈ ps1, p.1.size ≤ maxLen) (e1 : y1.n = ps1.length) (l1 : ps1.length ≤ N)
    (hb2 : Below w1.heap.size w1 w2) (hm2 : w1.heap.size ≤ y2.m) (hp2 : PileS w2 [y2]) (hl2 : LyrIs ps2 y2) (hr2 : Rise ps2) (hs2 : ∀ p ∈ ps2, p.1.size ≤ maxLen) (e2 : y2.n = ps2.length) (l2 : ps2.length ≤ N) : Sts w y1.b y1.m y2.b y2.m ps1 ps2 N w2 := by
  have A1 := At.made hp1 hl1 hr1 hs1
  have A2 := At.made hp2 hl2 hr2 hs2
  obtain ⟨n, f, h1, h2, h3, h4⟩ := A1.b
  obtain ⟨n', f', k1, k2, k3, k4⟩ := A2.b
  have hlt := (hp1.lt y1 (by simp)).2
  exact ⟨⟨n, f, by omega, h1.up hb2, h2⟩, ⟨n', f', by omega, k1, k2⟩, by omega, hm1, Nat.le_trans hb1.size hm2, hb1.trans (hb2.mono hb1.size)⟩
end
end Go.Proofs.YtpcoonnfaoakhaaGreatDoor
namespace Go.Proofs.YtpcoonnfaoakhaaGreatDoor
set_option maxRecDepth 100000
open Go Go.RowKit
set_option linter.unusedVariables false

def hdOf (h : HdW) : HdV := ⟨h.ch, h.ht, h.tm, h.rt, h.va, h.nx⟩
def stepM14 (R : List Pr) (x : StepV) : Int × List Pr :=
  if x.m.kd = 2 then (createE (hdOf x.m.h) x.m.per x.now, if createE (hdOf x.m.h) x.m.per x.now = 0 then createR R (hdOf x.m.h) x.m.per else R)
  else if x.m.kd = 3 then updM R x.m.cl (nwOf x.m) x.now
  else if x.m.kd = 4 then misM R x.m.cl (nwOf x.m) (nw2Of x.m) x.now
  else (83, R)
end Go.Proofs.YtpcoonnfaoakhaaGreatDoor
namespace Go.Proofs.YtpcoonnfaoakhaaGreatDoor
set_option maxRecDepth 100000
open Go Go.RowKit
set_option linter.unusedVariables false

end Go.Proofs.YtpcoonnfaoakhaaGreatDoor
namespace Go.Proofs.YtpcoonnfaoakhaaGreatDoor
set_option maxRecDepth 100000
open Go Go.RowKit
set_option linter.unusedVariables false

/-- every value fits -/
def FitR (R : List Pr) : Prop := ∀ key v, getL R key = some v → v.length ≤ 65535
theorem FitR.cons {R : List Pr} (h : FitR R) (a : ByteArray) (n : Nat) (v : List UInt8) : FitR (setL (kCons a n) v R) := fun key u e => by
  unfold setL at e
  split at e
  · next hp =>
    rw [getL_putL] at e
    split at e
    · injection e with e
      unfold pairB at hp
      simp only [Bool.and_eq_true, decide_eq_true_eq] at hp
      rw [← e]; exact hp.2
    · exact h _ _ e
  · exact h _ _ e
end Go.Proofs.YtpcoonnfaoakhaaGreatDoor
namespace Go.Proofs.YtpcoonnfaoakhaaGreatDoor
set_option maxRecDepth 100000
open Go Go.RowKit
set_option linter.unusedVariables false

/-- two stores in an array's box -/
structure LS (w : World) (b1 m1 b2 m2 g N : Nat) (Z : World) : Prop where
  s : ∃ R1 R2, Sts w b1 m1 b2 m2 R1 R2 N Z
  x : Z.cell? ⟨g, 0, none⟩ = some (.pointer (some ⟨b1, 0, none⟩))
  y : Z.cell? ⟨g, 1, none⟩ = some (.pointer (some ⟨b2, 0, none⟩))
theorem LS.bel {w Z : World} {b1 m1 b2 m2 g N : Nat} (h : LS w b1 m1 b2 m2 g N Z) : Below w.heap.size w Z := by
  obtain ⟨R1, R2, h⟩ := h.s
  exact h.bel
def gotC (o : Option ClV) : ClV := o.getD ClV.none
theorem StepV.one {w : World} (x : StepV) (hm : x.m.rd w) : x.cells.toArray.all (·.oneCell') = true := by
  obtain ⟨x_on, x_self, x_now, x_sg, ⟨m_kd, m_to, m_dn, m_am, m_cl, m_cc, m_cn, m_cd, m_ch, m_ce, m_po, m_pe, m_ve, m_od, ⟨m_h_ch, m_h_ht, m_h_tm, m_h_vr, m_h_vv, m_h_vn, m_h_rt, m_h_va, m_h_nx⟩, ⟨m_o_ch, m_o_ht, m_o_tm, m_o_vr, m_o_vv, m_o_vn, m_o_rt, m_o_va, m_o_nx⟩, m_vs1, m_s1, m_vs2, m_s2, m_vs3, m_s3, m_vt1, m_t1, m_vt2, m_t2, m_ht, m_tm, m_at_, m_per, ⟨m_pk_src, m_pk_dst, m_pk_seq, m_pk_vd, m_pk_da, m_pk_ht, m_pk_tm⟩, m_vak, m_ak, m_vpf, ⟨m_pf_n, m_pf_l⟩, m_nx, ⟨m_pay_d, m_pay_x, m_pay_y, m_pay_z⟩, m_vos, m_os⟩⟩ := x
  dsimp only at hm
  have qm_h_vr : Rd w w.heap.size m_h_vr m_h_rt := hm.r_h.r
  have qm_h_vv : Rd w w.heap.size m_h_vv m_h_va := hm.r_h.v
  have qm_h_vn : Rd w w.heap.size m_h_vn m_h_nx := hm.r_h.n
  have qm_o_vr : Rd w w.heap.size m_o_vr m_o_rt := hm.r_o.r
  have qm_o_vv : Rd w w.heap.size m_o_vv m_o_va := hm.r_o.v
  have qm_o_vn : Rd w w.heap.size m_o_vn m_o_nx := hm.r_o.n
  have qm_vs1 : ValsAt w w.heap.size m_vs1 m_s1 := hm.r_s1
  have qm_vs2 : ValsAt w w.heap.size m_vs2 m_s2 := hm.r_s2
  have qm_vs3 : ValsAt w w.heap.size m_vs3 m_s3 := hm.r_s3
  have qm_vt1 : StrsAt w w.heap.size m_vt1 m_t1 := hm.r_t1
  have qm_vt2 : StrsAt w w.heap.size m_vt2 m_t2 := hm.r_t2
  have qm_pk_vd : Rd w w.heap.size m_pk_vd m_pk_da := hm.r_pk.d
  have qm_vak : Rd w w.heap.size m_vak m_ak := hm.r_ak
  have qm_vpf : LeavesV w w.heap.size m_vpf m_pf_l := hm.r_pf
  have qm_vos : OrdsAt w m_vos m_os := hm.r_os
  obtain ⟨Am_h_vr, Cm_h_vr, rfl⟩ := qm_h_vr.form
  obtain ⟨Am_h_vv, Cm_h_vv, rfl⟩ := qm_h_vv.form
  obtain ⟨Am_h_vn, Cm_h_vn, rfl⟩ := qm_h_vn.form
  obtain ⟨Am_o_vr, Cm_o_vr, rfl⟩ := qm_o_vr.form
  obtain ⟨Am_o_vv, Cm_o_vv, rfl⟩ := qm_o_vv.form
  obtain ⟨Am_o_vn, Cm_o_vn, rfl⟩ := qm_o_vn.form
  obtain ⟨Am_vs1, Cm_vs1, rfl⟩ := qm_vs1.form
  obtain ⟨Am_vs2, Cm_vs2, rfl⟩ := qm_vs2.form
  obtain ⟨Am_vs3, Cm_vs3, rfl⟩ := qm_vs3.form
  obtain ⟨Am_vt1, Cm_vt1, rfl⟩ := qm_vt1.form
  obtain ⟨Am_vt2, Cm_vt2, rfl⟩ := qm_vt2.form
  obtain ⟨Am_pk_vd, Cm_pk_vd, rfl⟩ := qm_pk_vd.form
  obtain ⟨Am_vak, Cm_vak, rfl⟩ := qm_vak.form
  obtain ⟨Am_vpf, Cm_vpf, rfl⟩ := qm_vpf.form
  obtain ⟨Am_vos, Cm_vos, rfl⟩ := qm_vos.form
  clear qm_h_vr qm_h_vv qm_h_vn qm_o_vr qm_o_vv qm_o_vn qm_vs1 qm_vs2 qm_vs3 qm_vt1 qm_vt2 qm_pk_vd qm_vak qm_vpf qm_vos
  simp [StepV.cells, MsgV.cells, Value.oneCell']
end Go.Proofs.YtpcoonnfaoakhaaGreatDoor
namespace Go.Proofs.YtpcoonnfaoakhaaGreatDoor
set_option maxRecDepth 100000
open Go.RowKit
theorem pTabName : Tryz.prog.globalNamed "internal/strconv.uint64pow10" = some 2 := by kernel_rfl
theorem pTabType : (Tryz.prog.globals[2]?).map (·.type) = some 279 := by kernel_rfl
theorem pTabUnd : Tryz.prog.underlying 279 = some (.array 20 23) := by kernel_rfl
theorem pTabElem : Tryz.prog.underlying 23 = some (.int .u64) := by kernel_rfl
theorem pTabCells : Tryz.prog.cellsOf 279 = 20 := by kernel_rfl
theorem pElemCells : Tryz.prog.cellsOf 23 = 1 := by kernel_rfl
theorem powsOf {W : World} (h : laidMetH Tryz.prog [("internal/strconv.uint64pow10", Rows.laid_internal_strconv_uint64pow10)] W) : Pows W :=
  Lib.tabIs_of_head (rest := []) pTabName pTabType pTabUnd pTabElem pElemCells pTabCells h
end Go.Proofs.YtpcoonnfaoakhaaGreatDoor
namespace Go.Proofs.YtpcoonnfaoakhaaGreatDoor
set_option maxRecDepth 100000
open Go.ChangeShapes Go.WideShapes Go.ChangeAt Go.RowKit Go.Deep

section
variable {H : Type} {enc : TypeId × Value → H} {P : Program} {w : World}

theorem bulk_pos (d : DataW H) : 1 ≤ Rows.uptoBulk d := by
  cases d with
  | lit l => cases l <;> simp [Rows.uptoBulk]
  | _ => simp [Rows.uptoBulk]
theorem bulk_len (l : List (DataW H)) : l.length ≤ Rows.uptoBulkAll l := by
  induction l with
  | nil => simp
  | cons x r ih => have := bulk_pos x; simp only [Rows.uptoBulkAll, List.length_cons]; omega
theorem bulk_bound {l : List (DataW H)} (hk : Rows.uptoSmall H l = true) : Rows.uptoBulkAll l ≤ 1048576 := of_decide_eq_true hk

/-- a byte that an integer in range is -/
def byteOf (z : Int) : UInt8 := UInt8.ofNat z.toNat
theorem bval_byteOf {z : Int} (h : (Lit.int .u8 z).wf = true) : bval (byteOf z) = .int .u8 z := by
  have h2 : 0 ≤ z ∧ z ≤ 255 := by simpa [Lit.wf, IntKind.min, IntKind.max, IntKind.signed, IntKind.bits] using h
  unfold bval byteOf
  congr 1
  rw [UInt8.toNat_ofNat']
  omega

theorem addr_add_none (b o i : Nat) : (⟨b, o, none⟩ : Addr).add i = ⟨b, o + i, none⟩ := by unfold Addr.add; split <;> simp_all

theorem open_bytes {t : TypeId} {fuel : Nat} {v : Value} {x : DataW H × List MemPlace} (ht : P.underlying t = some (.slice 5)) (he : P.underlying 5 = some (.int .u8)) (hc : P.cellsOf 5 = 1)
    (h : DataW.trod enc P w 0 (fun _ => true) true fuel t [v] = some x) : ∃ l : List UInt8, Rd w w.heap.size v l ∧ l.length ≤ Rows.uptoBulk x.1 := by
  rcases open_ints ht he hc h with ⟨hcs, rfl⟩ | ⟨a, len, cap, zs, hcs, _, hl, hm, hz, hx, hcell, hwz⟩
  · simp at hcs
    subst hcs
    exact ⟨[], Rd.nil _ _, by simp⟩
  · simp at hcs
    subst hcs
    simp only [if_true] at hz
    have hlen : ((zs.take len).map byteOf).length = len := by simp; omega
    refine ⟨(zs.take len).map byteOf, ⟨some a, cap, by rw [hlen], by rw [hlen]; exact hl, hm, fun h0 => ?_⟩, ?_⟩
    · rw [hlen] at h0
      have hc0 := hcell 0 (by omega)
      obtain ⟨b, o, spot⟩ := a
      have hspot : spot = none := by simpa [Addr.add] using World.cell?_spot hc0
      subst hspot
      refine ⟨b, o, rfl, ?_, fun j hj => ?_⟩
      · have := World.block_lt_of_cell? w _ hc0
        simpa [Addr.add] using this
      · rw [hlen] at hj
        have hcj := hcell j (by omega)
        rw [addr_add_none] at hcj
        rw [hcj]
        have hw := hwz (zs.getD j 0) (by rw [List.getD_eq_getElem?_getD, List.getElem?_eq_getElem (by omega)]; exact List.getElem_mem _)
        rw [List.getElem_map, List.getElem_take, bval_byteOf]
        · simp [List.getD_eq_getElem?_getD, List.getElem?_eq_getElem (show j < zs.length by omega)]
        · simpa [List.getD_eq_getElem?_getD, List.getElem?_eq_getElem (show j < zs.length by omega)] using hw
    · rw [hx, hlen]
      simp only [Rows.uptoBulk]
      have := bulk_len (lits (H := H) .u8 (zs.take len))
      simp [lits] at this ⊢
      omega

end
end Go.Proofs.YtpcoonnfaoakhaaGreatDoor
namespace Go.Proofs.YtpcoonnfaoakhaaGreatDoor
set_option maxRecDepth 100000
open Go.ChangeShapes Go.WideShapes Go.ChangeAt Go.RowKit Go.Deep

theorem str_bulk {H : Type} {d : DataW H} {a : ByteArray} (e : d = .lit (.string a.data.toList)) : a.size ≤ Rows.uptoBulk d := by
  have ea : a.data.toList.length = a.size := by rw [Array.length_toList]; rfl
  rw [e]
  simp only [Rows.uptoBulk, ea]
  omega
end Go.Proofs.YtpcoonnfaoakhaaGreatDoor
namespace Go.Proofs.YtpcoonnfaoakhaaGreatDoor
set_option maxRecDepth 100000
open Go Go.ChangeShapes Go.WideShapes Go.ChangeAt Go.RowKit Go.Deep
set_option linter.unusedVariables false

theorem list2p {α : Type} {l : List α} (h : l.length = 2) : ∃ a b, l = [a, b] := by
  match l, h with
  | [a, b], _ => exact ⟨a, b, rfl⟩
theorem Tryz.pairFields : ∃ f0 f1 : Field, Tryz.prog.underlying 48 = some (.struct #[f0, f1]) ∧ f0.type = 9 ∧ f1.type = 27 ∧ Hid (oneCellFields Tryz.prog #[f0, f1] = true) :=
  ⟨_, _, Tryz.underlying48, rfl, rfl, (by kernel_rfl : oneCellFields Tryz.prog _ = true)⟩
instance : Inhabited (ByteArray × List UInt8) := ⟨(⟨#[]⟩, [])⟩
theorem addP_zero (a : Addr) : a.add 0 = a := by
  obtain ⟨b, o, s⟩ := a
  cases s <;> simp [Addr.add]
theorem addP_none' (b o k : Nat) : ((⟨b, o, none⟩ : Addr).add k) = ⟨b, o + k, none⟩ := by simp [Addr.add]

theorem bulk_sumP {H : Type} (n : Nat) (D : Nat → DataW H) (L : Nat → ByteArray × List UInt8) (h : ∀ i, i < n → (L i).2.length ≤ Rows.uptoBulk (D i)) : (((List.range n).map L).map fun f => f.2.length).sum ≤ Rows.uptoBulkAll ((List.range n).map D) := by
  have : ∀ (l : List Nat), (∀ i ∈ l, (L i).2.length ≤ Rows.uptoBulk (D i)) → ((l.map L).map fun f => f.2.length).sum ≤ Rows.uptoBulkAll (l.map D) := by
    intro l
    induction l with
    | nil => intro _; simp
    | cons x l ih =>
      intro hl
      have h1 := ih fun i hi => hl i (by simp [hi])
      have h2 := hl x (by simp)
      simp only [List.map_cons, List.sum_cons, Rows.uptoBulkAll]
      omega
  exact this _ fun i hi => h i (List.mem_range.1 hi)

theorem open_pairs_arg {H : Type} {enc : TypeId × Value → H} {W : World} {v : Value} {d : DataW H} {p : List MemPlace} {base : Nat} (hv : Value.okWide Tryz.prog W .any base 22 v)
    (h : DataW.Trod enc Tryz.prog W 0 (fun _ => true) true 22 v d p) : ∃ fs : List (ByteArray × List UInt8), RdP W W.heap.size v fs ∧ (fs.map fun f => f.2.length).sum ≤ Rows.uptoBulk d ∧ fs.length ≤ Rows.uptoBulk d ∧ ∀ f ∈ fs, f.1.size ≤ maxLen := by
  obtain ⟨fuel, hf⟩ := h
  obtain ⟨b0, c0, k0, rfl⟩ := okWide_slice Tryz.underlying22 hv
  rcases open_slice Tryz.underlying22 hf with ⟨hcs, hx⟩ | ⟨a, len, cap, m, n, D, Pl, hcs, _, hl, hcm, hm, hx, hi⟩
  · simp [Value.cells] at hcs
    obtain ⟨rfl, rfl, rfl⟩ := hcs
    exact ⟨[], ⟨none, 0, rfl, by simp, by simp [maxLen], fun h => absurd h (by simp)⟩, by simp, by simp, by simp⟩
  · simp [Value.cells] at hcs
    obtain ⟨rfl, rfl, rfl⟩ := hcs
    simp only [if_true] at hm
    obtain rfl : m = k0 := hm
    simp only [Prod.mk.injEq] at hx
    have hall : ∀ i, i < m → ∃ f : ByteArray × List UInt8, ∃ x : Value, W.cell? (a.add (i * 2)) = some (.string f.1) ∧ W.cell? ((a.add (i * 2)).add 1) = some x ∧ Rd W W.heap.size x f.2 ∧ f.2.length ≤ Rows.uptoBulk (D i) ∧ f.1.size ≤ maxLen := fun i hi2 => by
      obtain ⟨cs, hc, ht⟩ := hi i hi2
      have h1 : Tryz.prog.cellsOf 48 = 2 := by kernel_rfl
      rw [h1] at hc
      obtain ⟨_, hcl, hat⟩ := World.cells?_some hc
      obtain ⟨x0, x1, rfl⟩ := list2p hcl
      obtain ⟨f0, f1, hu, e0, e1, ho⟩ := Tryz.pairFields
      obtain ⟨xs, n', _, hy, _, hlen, hg⟩ := DataW.trod_struct hu ht
      obtain ⟨y0, y1, rfl⟩ := list2p hlen
      have fld : ∀ (j : Nat) (f : Field), (#[f0, f1] : Array Field)[j]? = some f → f.offset = j ∧ Tryz.prog.cellsOf f.type = 1 := hone_of ho.out
      have g0 := hg 0 f0 rfl
      have g1 := hg 1 f1 rfl
      rw [(fld 0 f0 rfl).1, (fld 0 f0 rfl).2, e0] at g0
      rw [(fld 1 f1 rfl).1, (fld 1 f1 rfl).2, e1] at g1
      obtain ⟨s, q0, _, hs⟩ := DataW.trod_string Tryz.underlying9 g0
      obtain ⟨l, hr, hb⟩ := open_bytes (x := y1) Tryz.underlying27 Tryz.underlying5 (by kernel_rfl) g1
      simp at q0
      subst q0
      have a0 := hat 0 (by omega)
      have a1 := hat 1 (by omega)
      have ez : ∀ x : Addr, x.add 0 = x := fun x => addP_zero x
      rw [ez] at a0
      simp at a0 a1
      refine ⟨(s, l), x1, a0, a1, hr, ?_, hs⟩
      simp only [Prod.mk.injEq] at hy
      rw [hy.1]
      simp only [List.map_cons, List.map_nil, Rows.uptoBulk, Rows.uptoBulkAll]
      omega
    obtain ⟨L, hL⟩ := choose_lt (α := ByteArray × List UInt8) (p := fun i f => ∃ x : Value, W.cell? (a.add (i * 2)) = some (.string f.1) ∧ W.cell? ((a.add (i * 2)).add 1) = some x ∧ Rd W W.heap.size x f.2 ∧ f.2.length ≤ Rows.uptoBulk (D i) ∧ f.1.size ≤ maxLen) hall
    have hs := bulk_sumP (H := H) c0 D L fun i hi2 => by obtain ⟨_, _, _, _, h, _⟩ := hL i (by omega); exact h
    refine ⟨(List.range c0).map L, ⟨some a, m, by simp, by simpa using hl, hcm, fun h0 => ?_⟩, ?_, ?_, ?_⟩
    · simp at h0
      obtain ⟨x0, q0, _⟩ := hL 0 (by omega)
      obtain ⟨b, o, spot⟩ := a
      have hspot : spot = none := by simpa [Addr.add] using World.cell?_spot q0
      subst hspot
      refine ⟨b, o, rfl, ?_, fun j hj => ?_⟩
      · have := World.block_lt_of_cell? W _ q0
        simpa [Addr.add] using this
      · simp at hj
        obtain ⟨x, qx, qy, hr, _⟩ := hL j (by omega)
        rw [addP_none', addP_none'] at qy
        rw [addP_none'] at qx
        exact ⟨by simpa using qx, x, qy, by simpa using hr⟩
    · rw [hx.1]
      simp only [Rows.uptoBulk]
      omega
    · rw [hx.1]
      have := bulk_len ((List.range c0).map D)
      simp only [Rows.uptoBulk]
      simp at this ⊢
      omega
    · intro f hf
      obtain ⟨i, hi2, rfl⟩ := List.mem_map.1 hf
      obtain ⟨_, _, _, _, _, h⟩ := hL i (by have := List.mem_range.1 hi2; omega)
      exact h
theorem sum_mem {ps : List (ByteArray × List UInt8)} {p : ByteArray × List UInt8} (h : p ∈ ps) : p.2.length ≤ (ps.map fun f => f.2.length).sum := by
  induction ps with
  | nil => cases h
  | cons x l ih =>
    simp only [List.map_cons, List.sum_cons]
    rcases List.mem_cons.1 h with rfl | h
    · omega
    · have := ih h; omega
end Go.Proofs.YtpcoonnfaoakhaaGreatDoor
namespace Go.Proofs.YtpcoonnfaoakhaaGreatDoor
set_option maxRecDepth 100000
open Go Go.ChangeShapes Go.WideShapes Go.ChangeAt Go.RowKit Go.Deep
set_option linter.unusedVariables false

section
variable {H : Type} {enc : TypeId × Value → H} {W : World} {fuel : Nat}
instance : Inhabited Lf := ⟨⟨0, ⟨#[]⟩, [], []⟩⟩
end
end Go.Proofs.YtpcoonnfaoakhaaGreatDoor
namespace Go.Proofs.YtpcoonnfaoakhaaGreatDoor
set_option maxRecDepth 100000
open Go.ChangeShapes Go.WideShapes Go.ChangeAt Go.RowKit

theorem open_u64 {H : Type} {enc : TypeId × Value → H} {W : World} {v : Value} {d : DataW H} {p : List MemPlace} {base : Nat} (hv : Value.okWide Tryz.prog W .any base 23 v)
    (h : DataW.Trod enc Tryz.prog W 0 (fun _ => true) true 23 v d p) : ∃ k : Nat, v = .int .u64 (k : Int) ∧ k < 18446744073709551616 := by
  obtain ⟨z, rfl, _, _, hw⟩ := open_int Tryz.underlying23 hv h
  have h2 : 0 ≤ z ∧ z ≤ 18446744073709551615 := by simpa [Lit.wf, IntKind.min, IntKind.max, IntKind.signed, IntKind.bits] using hw
  obtain ⟨k, rfl⟩ := Int.eq_ofNat_of_zero_le h2.1
  exact ⟨k, rfl, by omega⟩
end Go.Proofs.YtpcoonnfaoakhaaGreatDoor
namespace Go.Proofs.YtpcoonnfaoakhaaGreatDoor
set_option maxRecDepth 100000
open Go Go.ChangeShapes Go.WideShapes Go.ChangeAt Go.RowKit Go.Deep
set_option linter.unusedVariables false

end Go.Proofs.YtpcoonnfaoakhaaGreatDoor
namespace Go.Proofs.YtpcoonnfaoakhaaGreatDoor
set_option maxRecDepth 100000
open Go Go.ChangeShapes Go.WideShapes Go.ChangeAt Go.RowKit Go.Deep
set_option linter.unusedVariables false

end Go.Proofs.YtpcoonnfaoakhaaGreatDoor
namespace Go.Proofs.YtpcoonnfaoakhaaGreatDoor
set_option maxRecDepth 100000
open Go Go.ChangeShapes Go.WideShapes Go.ChangeAt Go.RowKit Go.Deep
set_option linter.unusedVariables false

end Go.Proofs.YtpcoonnfaoakhaaGreatDoor
namespace Go.Proofs.YtpcoonnfaoakhaaGreatDoor
set_option maxRecDepth 100000
open Go Go.ChangeShapes Go.WideShapes Go.ChangeAt Go.RowKit Go.Deep
set_option linter.unusedVariables false

end Go.Proofs.YtpcoonnfaoakhaaGreatDoor
namespace Go.Proofs.YtpcoonnfaoakhaaGreatDoor
set_option maxRecDepth 100000
open Go Go.ChangeShapes Go.WideShapes Go.ChangeAt Go.RowKit Go.Deep
set_option linter.unusedVariables false

end Go.Proofs.YtpcoonnfaoakhaaGreatDoor
namespace Go.Proofs.YtpcoonnfaoakhaaGreatDoor
set_option maxRecDepth 100000
open Go Go.RowKit Go.ChangeShapes Go.WideShapes
set_option linter.unusedVariables false

end Go.Proofs.YtpcoonnfaoakhaaGreatDoor
namespace Go.Proofs.YtpcoonnfaoakhaaGreatDoor
set_option maxRecDepth 100000
open Go Go.ChangeShapes Go.WideShapes Go.ChangeAt Go.RowKit Go.Deep
set_option linter.unusedVariables false

section
variable {H : Type} {enc : TypeId × Value → H} {W : World} {n : Nat} {y : DataW H × List MemPlace}
instance : Inhabited VD := ⟨⟨⟨#[]⟩, 0⟩⟩
end
instance : Inhabited OrdV := ⟨⟨⟨#[]⟩, ⟨#[]⟩, U4.zero⟩⟩
instance : Inhabited StepV := ⟨⟨0, 0, 0, ⟨#[]⟩, ⟨0, ⟨#[]⟩, ⟨#[]⟩, U4.zero, ⟨#[]⟩, ⟨#[]⟩, ⟨#[]⟩, ⟨#[]⟩, ⟨#[]⟩, ⟨#[]⟩, ⟨#[]⟩, ⟨#[]⟩, ⟨#[]⟩, false, ⟨⟨#[]⟩, 0, 0, .slice none 0 0, .slice none 0 0, .slice none 0 0, [], [], []⟩, ⟨⟨#[]⟩, 0, 0, .slice none 0 0, .slice none 0 0, .slice none 0 0, [], [], []⟩, .slice none 0 0, [], .slice none 0 0, [], .slice none 0 0, [], .slice none 0 0, [], .slice none 0 0, [], 0, 0, 0, 0, ⟨⟨#[]⟩, ⟨#[]⟩, 0, .slice none 0 0, [], 0, 0⟩, .slice none 0 0, [], .slice none 0 0, ⟨0, []⟩, 0, ⟨⟨#[]⟩, U4.zero, U4.zero, U4.zero⟩, .slice none 0 0, []⟩⟩⟩
end Go.Proofs.YtpcoonnfaoakhaaGreatDoor
namespace Go.Proofs.YtpcoonnfaoakhaaGreatDoor
set_option maxRecDepth 100000
open Go.RowKit
def kInts : List Int := kTab.map fun x => (x.toNat : Int)
theorem kTabName : Tryz.prog.globalNamed "isthmus/sha.roundTable" = some 0 := by kernel_rfl
theorem kTabType : (Tryz.prog.globals[0]?).map (·.type) = some 227 := by kernel_rfl
theorem kTabUnd : Tryz.prog.underlying 227 = some (.array 64 161) := by kernel_rfl
theorem kTabElem : Tryz.prog.underlying 161 = some (.int .u32) := by kernel_rfl
theorem kTabCells : Tryz.prog.cellsOf 227 = 64 := by kernel_rfl
theorem kElemCells : Tryz.prog.cellsOf 161 = 1 := by kernel_rfl
theorem table_of {W : World} (h : Lib.TabIs Tryz.prog W "isthmus/sha.roundTable" .u32 kInts) : ∃ fr : TypeId × Nat × Nat, W.heap[0]? = some (.cells kVals fr.1 fr.2) := by
  unfold Lib.TabIs World.var? at h
  rw [kTabName] at h
  simp only [Option.bind_some] at h
  split at h
  · next cs t fz hc =>
    injection h with h
    refine ⟨(t, fz), ?_⟩
    rw [hc, h]
    simp [kInts, kVals, w32, Function.comp_def]
  · cases h
theorem table {W : World} (h : laidMetH Tryz.prog [("isthmus/sha.roundTable", Rows.laid_isthmus_sha_roundTable)] W) : ∃ fr : TypeId × Nat × Nat, W.heap[0]? = some (.cells kVals fr.1 fr.2) :=
  table_of (Lib.tabIs_of_head (rest := []) kTabName kTabType kTabUnd kTabElem kElemCells kTabCells h)
end Go.Proofs.YtpcoonnfaoakhaaGreatDoor
namespace Go.Proofs.YtpcoonnfaoakhaaGreatDoor
set_option maxRecDepth 100000
open Go.RowKit
end Go.Proofs.YtpcoonnfaoakhaaGreatDoor
