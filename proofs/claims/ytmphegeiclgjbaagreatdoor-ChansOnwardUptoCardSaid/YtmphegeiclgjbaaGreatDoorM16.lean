/- Texts joined: MsgV, Make3, ClnF0, ValH, RShaG0, ValG. -/
import Derived.Test.YtmphegeiclgjbaaGreatDoorM15
import Derived.Test.YtmphegeiclgjbaaGreatDoorM06
import Derived.Test.YtmphegeiclgjbaaGreatDoorM12
import Derived.Test.YtmphegeiclgjbaaGreatDoorM09
import Derived.Test.YtmphegeiclgjbaaGreatDoorM13
import Derived.Deep.RegionHeldLaw
import Derived.Test.YtmphegeiclgjbaaGreatDoorM02
import Derived.Test.YtmphegeiclgjbaaGreatDoorM03
import Derived.LoopTactic
namespace Go.Proofs.YtmphegeiclgjbaaGreatDoor
set_option maxRecDepth 100000
open Go Go.RowKit
set_option linter.unusedVariables false

section
variable {W W' : World} {v : Value}
theorem Kept.sizeM (h : Kept W W') : W.heap.size ≤ W'.heap.size := by obtain ⟨F, h1, _⟩ := h; exact h1.size
theorem ValsAt.keptM {l : List VD} (h : ValsAt W W.heap.size v l) (hk : Kept W W') : ValsAt W' W'.heap.size v l := by
  obtain ⟨A, c, hv, hc, hm, hf, hp⟩ := h
  refine ⟨A, c, hv, hc, hm, hf, fun h0 => ?_⟩
  obtain ⟨b, o, hA, hb, ha⟩ := hp h0
  exact ⟨b, o, hA, Nat.lt_of_lt_of_le hb hk.sizeM, fun j hj => ⟨hk.cell (ha j hj).1, hk.cell (ha j hj).2⟩⟩
theorem StrsAt.keptM {l : List ByteArray} (h : StrsAt W W.heap.size v l) (hk : Kept W W') : StrsAt W' W'.heap.size v l := by
  obtain ⟨A, c, hv, hc, hm, hf, hp⟩ := h
  refine ⟨A, c, hv, hc, hm, hf, fun h0 => ?_⟩
  obtain ⟨b, o, hA, hb, ha⟩ := hp h0
  exact ⟨b, o, hA, Nat.lt_of_lt_of_le hb hk.sizeM, fun j hj => hk.cell (ha j hj)⟩
theorem PathV.keptM {ps : List (List UInt8)} (h : PathV W W.heap.size v ps) (hk : Kept W W') : PathV W' W'.heap.size v ps := by
  obtain ⟨A, c, rfl, h1, h2, hp⟩ := h
  refine ⟨A, c, rfl, h1, h2, fun h0 => ?_⟩
  obtain ⟨b, o, rfl, hlt, hc⟩ := hp h0
  refine ⟨b, o, rfl, Nat.lt_of_lt_of_le hlt hk.sizeM, fun j hj => ?_⟩
  obtain ⟨x, q2, q3⟩ := hc j hj
  exact ⟨x, hk.cell q2, hk.rd q3⟩
theorem LeafV.keptM {l : Lf} (h : LeafV W W.heap.size v l) (hk : Kept W W') : LeafV W' W'.heap.size v l := by
  obtain ⟨sv, pv, rfl, h1, h2, h3⟩ := h
  exact ⟨sv, pv, rfl, hk.rd h1, h2.keptM hk, h3⟩
theorem LeafAt.keptM {b o : Nat} {l : Lf} (h : LeafAt W W.heap.size b o l) (hk : Kept W W') : LeafAt W' W'.heap.size b o l := by
  obtain ⟨sv, pv, h0, h1, h2, h3, h4⟩ := h
  exact ⟨sv, pv, hk.cell h0, hk.cell h1, hk.cell h2, hk.cell h3, h4.keptM hk⟩
theorem LeavesV.keptM {ls : List Lf} (h : LeavesV W W.heap.size v ls) (hk : Kept W W') : LeavesV W' W'.heap.size v ls := by
  obtain ⟨A, c, rfl, h1, h2, hp⟩ := h
  refine ⟨A, c, rfl, h1, h2, fun h0 => ?_⟩
  obtain ⟨b, o, rfl, hlt, hc⟩ := hp h0
  exact ⟨b, o, rfl, Nat.lt_of_lt_of_le hlt hk.sizeM, fun j hj => (hc j hj).keptM hk⟩
end
/-- a header, with the rows of bytes that it names -/
structure HdW where
  ch : ByteArray
  ht : Nat
  tm : Nat
  vr : Value
  vv : Value
  vn : Value
  rt : List UInt8
  va : List UInt8
  nx : List UInt8
structure HdW.rd (W : World) (h : HdW) : Prop where
  r : Rd W W.heap.size h.vr h.rt
  v : Rd W W.heap.size h.vv h.va
  n : Rd W W.heap.size h.vn h.nx
  ht : h.ht < 18446744073709551616
  tm : h.tm < 18446744073709551616
theorem HdW.rd.keptM {W W' : World} {h : HdW} (k : h.rd W) (hk : Kept W W') : h.rd W' := ⟨hk.rd k.r, hk.rd k.v, hk.rd k.n, k.ht, k.tm⟩
/-- a packet -/
structure PkW where
  src : ByteArray
  dst : ByteArray
  seq : Nat
  vd : Value
  da : List UInt8
  ht : Nat
  tm : Nat
structure PkW.rd (W : World) (p : PkW) : Prop where
  d : Rd W W.heap.size p.vd p.da
  sq : p.seq < 18446744073709551616
  ht : p.ht < 18446744073709551616
  tm : p.tm < 18446744073709551616
theorem PkW.rd.keptM {W W' : World} {p : PkW} (k : p.rd W) (hk : Kept W W') : p.rd W' := ⟨hk.rd k.d, k.sq, k.ht, k.tm⟩
/-- fees -/
structure PyW where
  d : ByteArray
  x : U4
  y : U4
  z : U4
/-- a message -/
structure MsgV where
  kd : Int
  to : ByteArray
  dn : ByteArray
  am : U4
  cl : ByteArray
  cc : ByteArray
  cn : ByteArray
  cd : ByteArray
  ch : ByteArray
  ce : ByteArray
  po : ByteArray
  pe : ByteArray
  ve : ByteArray
  od : Bool
  h : HdW
  o : HdW
  vs1 : Value
  s1 : List VD
  vs2 : Value
  s2 : List VD
  vs3 : Value
  s3 : List VD
  vt1 : Value
  t1 : List ByteArray
  vt2 : Value
  t2 : List ByteArray
  ht : Nat
  tm : Nat
  at_ : Nat
  per : Nat
  pk : PkW
  vak : Value
  ak : List UInt8
  vpf : Value
  pf : Pf
  nx : Nat
  pay : PyW
  vos : Value
  os : List OrdV
def MsgV.cells (m : MsgV) : List Value := [.int .i64 m.kd, .string m.to, .string m.dn, .int .u64 (m.am.a : Int), .int .u64 (m.am.b : Int), .int .u64 (m.am.c : Int), .int .u64 (m.am.d : Int), .string m.cl, .string m.cc, .string m.cn, .string m.cd, .string m.ch, .string m.ce, .string m.po, .string m.pe, .string m.ve, .bool m.od, .string m.h.ch, .int .u64 (m.h.ht : Int), .int .u64 (m.h.tm : Int), m.h.vr, m.h.vv, m.h.vn, .string m.o.ch, .int .u64 (m.o.ht : Int), .int .u64 (m.o.tm : Int), m.o.vr, m.o.vv, m.o.vn, m.vs1, m.vs2, m.vs3, m.vt1, m.vt2, .int .u64 (m.ht : Int), .int .u64 (m.tm : Int), .int .u64 (m.at_ : Int), .int .u64 (m.per : Int), .string m.pk.src, .string m.pk.dst, .int .u64 (m.pk.seq : Int), m.pk.vd, .int .u64 (m.pk.ht : Int), .int .u64 (m.pk.tm : Int), m.vak, .int .i64 m.pf.n, m.vpf, .int .u64 (m.nx : Int), .string m.pay.d, .int .u64 (m.pay.x.a : Int), .int .u64 (m.pay.x.b : Int), .int .u64 (m.pay.x.c : Int), .int .u64 (m.pay.x.d : Int), .int .u64 (m.pay.y.a : Int), .int .u64 (m.pay.y.b : Int), .int .u64 (m.pay.y.c : Int), .int .u64 (m.pay.y.d : Int), .int .u64 (m.pay.z.a : Int), .int .u64 (m.pay.z.b : Int), .int .u64 (m.pay.z.c : Int), .int .u64 (m.pay.z.d : Int), m.vos]
def MsgV.texts (m : MsgV) : List ByteArray := [m.to, m.dn, m.cl, m.cc, m.cn, m.cd, m.ch, m.ce, m.po, m.pe, m.ve, m.h.ch, m.o.ch, m.pk.src, m.pk.dst, m.pay.d]
def MsgV.lens (m : MsgV) : List Nat := [m.h.rt.length, m.h.va.length, m.h.nx.length, m.o.rt.length, m.o.va.length, m.o.nx.length, m.s1.length, m.s2.length, m.s3.length, m.t1.length, m.t2.length, m.pk.da.length, m.ak.length, m.pf.ls.length, m.os.length]
structure MsgV.rd (W : World) (m : MsgV) : Prop where
  in_kd : -9223372036854775808 ≤ m.kd ∧ m.kd ≤ 9223372036854775807
  ok_am : m.am.ok
  r_h : m.h.rd W
  r_o : m.o.rd W
  r_s1 : ValsAt W W.heap.size m.vs1 m.s1
  r_s2 : ValsAt W W.heap.size m.vs2 m.s2
  r_s3 : ValsAt W W.heap.size m.vs3 m.s3
  r_t1 : StrsAt W W.heap.size m.vt1 m.t1
  r_t2 : StrsAt W W.heap.size m.vt2 m.t2
  lt_ht : m.ht < 18446744073709551616
  lt_tm : m.tm < 18446744073709551616
  lt_at_ : m.at_ < 18446744073709551616
  lt_per : m.per < 18446744073709551616
  r_pk : m.pk.rd W
  r_ak : Rd W W.heap.size m.vak m.ak
  r_pf : LeavesV W W.heap.size m.vpf m.pf.ls
  in_pf : -9223372036854775808 ≤ m.pf.n ∧ m.pf.n ≤ 9223372036854775807
  lt_nx : m.nx < 18446744073709551616
  ok_pay : m.pay.x.ok ∧ m.pay.y.ok ∧ m.pay.z.ok
  r_os : OrdsAt W m.vos m.os
  ok_os : ∀ q ∈ m.os, q.x.ok ∧ q.t.size ≤ maxLen ∧ q.d.size ≤ maxLen
theorem MsgV.rd.keptM {W W' : World} {m : MsgV} (k : m.rd W) (hk : Kept W W') : m.rd W' := ⟨k.in_kd, k.ok_am, k.r_h.keptM hk, k.r_o.keptM hk, k.r_s1.keptM hk, k.r_s2.keptM hk, k.r_s3.keptM hk, k.r_t1.keptM hk, k.r_t2.keptM hk, k.lt_ht, k.lt_tm, k.lt_at_, k.lt_per, k.r_pk.keptM hk, hk.rd k.r_ak, k.r_pf.keptM hk, k.in_pf, k.lt_nx, k.ok_pay, k.r_os.keptX hk, k.ok_os⟩
/-- all texts and rows are of at most n bytes or parts -/
structure MsgV.small (n : Nat) (m : MsgV) : Prop where
  t : ∀ s ∈ m.texts, s.size ≤ n
  l : ∀ k ∈ m.lens, k ≤ n
/-- a step -/
structure StepV where
  on : Int
  self : Nat
  now : Nat
  sg : ByteArray
  m : MsgV
def StepV.cells (x : StepV) : List Value := .int .i64 x.on :: .int .u64 (x.self : Int) :: .int .u64 (x.now : Int) :: .string x.sg :: x.m.cells
structure StepV.fine (x : StepV) : Prop where
  on : -9223372036854775808 ≤ x.on ∧ x.on ≤ 9223372036854775807
  self : x.self < 18446744073709551616
  now : x.now < 18446744073709551616
  sg : x.sg.size ≤ 1048576
  m : x.m.small 1048576
theorem MsgV.cells_len (m : MsgV) : m.cells.length = 62 := rfl
theorem StepV.cells_len (x : StepV) : x.cells.length = 66 := rfl
/-- steps handed in -/
def RdSt (W : World) (v : Value) (l : List StepV) : Prop := ∃ A c, v = .slice A l.length c ∧ (∀ x ∈ l, x.m.rd W) ∧ (0 < l.length → ∃ b o, A = some ⟨b, o, none⟩ ∧ b < W.heap.size ∧
  ∀ (j : Nat) (h : j < l.length) (i : Nat) (u : Value), i < 66 → l[j].cells[i]? = some u → W.cell? ⟨b, o + j * 66 + i, none⟩ = some u)
theorem RdSt.keptM {W W' : World} {v : Value} {l : List StepV} (h : RdSt W v l) (hk : Kept W W') : RdSt W' v l := by
  obtain ⟨A, c, rfl, hr, hc⟩ := h
  refine ⟨A, c, rfl, fun x hx => (hr x hx).keptM hk, fun h0 => ?_⟩
  obtain ⟨b, o, rfl, hb1, hcell⟩ := hc h0
  exact ⟨b, o, rfl, Nat.lt_of_lt_of_le hb1 hk.sizeM, fun j hj i u hi hu => hk.cell (hcell j hj i u hi hu)⟩
end Go.Proofs.YtmphegeiclgjbaaGreatDoor
namespace Go.Proofs.YtmphegeiclgjbaaGreatDoor
set_option maxRecDepth 100000
open Go Go.RowKit
set_option linter.unusedVariables false

/-- 32 zero bytes in a block of their own -/
def Zr (W : World) (g : Nat) : Prop := W.heap[g]? = some (.cells (bcells (List.replicate 32 0)).toArray 5 (0, 0))
/-- a struct of six cells in a block of its own -/
def Sx (t : TypeId) (cs : Array Value) (W : World) (g : Nat) : Prop := W.heap[g]? = some (.cells cs t (0, 0))
section
variable {W W' : World} {g g' : Nat} {t : TypeId} {cs : Array Value}
theorem Zr.alloc (h : Zr W g) (o : Obj) : Zr (W.alloc o) g := (Below.heap_alloc W o g (blk_lt h)).trans h
theorem Sx.alloc (h : Sx t cs W g) (o : Obj) : Sx t cs (W.alloc o) g := (Below.heap_alloc W o g (blk_lt h)).trans h
theorem Zr.below (h : Zr W g) (hb : Below W.heap.size W W') : Zr W' g := (hb.block _ (blk_lt h)).trans h
theorem Zr.new (W : World) : Zr (W.alloc (.cells (bcells (List.replicate 32 0)).toArray 5)) W.heap.size := heap_alloc_new W _
theorem Zr.ne (h : Zr W g) (k : Sx t cs W g') (hc : cs.size = 6) : g ≠ g' := fun e => by
  subst e
  unfold Zr at h
  unfold Sx at k
  rw [h] at k
  injection k with k
  injection k with k
  rw [← k] at hc
  simp [bcells] at hc
theorem Zr.set (h : Zr W g) (hne : g ≠ g') (i : Nat) (u : Value) : Zr (W.setCell ⟨g', i, none⟩ u) g := (Below.heap_setCell W ⟨g', i, none⟩ u g hne).trans h
theorem Zr.rd (h : Zr W g) : Rd W W.heap.size (.slice (some ⟨g, 0, none⟩) 32 32) (List.replicate 32 0) := by
  refine ⟨some ⟨g, 0, none⟩, 32, by simp, by simp, by simp [maxLen], fun _ => ⟨g, 0, rfl, blk_lt h, fun j hj => ?_⟩⟩
  rw [Nat.zero_add, blk_cell h, List.getElem?_toArray, bcells_get, List.getElem?_eq_getElem hj]
  rfl
end
end Go.Proofs.YtmphegeiclgjbaaGreatDoor
namespace Go.Proofs.YtmphegeiclgjbaaGreatDoor
set_option maxRecDepth 100000
open Go Go.RowKit
set_option linter.unusedVariables false

theorem dlist (a b : ByteArray) : (a ++ b).data.toList = a.data.toList ++ b.data.toList := by simp
theorem begQ_iff (p s : ByteArray) : begB p s = true ↔ ∃ r, s.data.toList = p.data.toList ++ r := by
  unfold begB
  simp only [Lib.hasPrefix]
  rw [List.isPrefixOf_iff_prefix]
  constructor
  · rintro ⟨t, ht⟩; exact ⟨t, ht.symm⟩
  · rintro ⟨t, ht⟩; exact ⟨t, ht.symm⟩
/-! ### what is written is read back -/
theorem rB_encQ (s : ByteArray) (h : s.size ≤ 65535) (rest : List UInt8) : rB (encS s ++ rest) 0 = (strBytes s, rest, 0) := by
  unfold encS
  rw [rB_enc, List.take_of_length_le (by rw [strBytes_length]; exact h)]
/-! ### keys -/
theorem ident_size {a : ByteArray} (h : identB a = true) : 1 ≤ a.size ∧ a.size ≤ 32 := by
  have e : a.data.toList.length = a.size := by rw [Array.length_toList]; rfl
  unfold identB at h
  cases hl : a.data.toList with
  | nil => rw [hl] at h; cases h
  | cons c r =>
    rw [hl] at h e
    unfold identL at h
    simp only [Bool.and_eq_true, decide_eq_true_eq] at h
    simp only [List.length_cons] at e
    have := h.1.1
    omega
theorem keyB_of {a : ByteArray} (h1 : 1 ≤ a.size) (h2 : a.size ≤ 200) : keyB a = true := by
  unfold keyB
  simp only [Bool.and_eq_true, decide_eq_true_eq]
  omega
theorem getL_setL (key : ByteArray) (v : List UInt8) (R : List Pr) (s : ByteArray) (h : pairB (key, v) = true) : getL (setL key v R) s = if s = key then some v else getL R s := by
  unfold setL
  rw [if_pos h, getL_putL]
theorem getL_setL_ne (key : ByteArray) (v : List UInt8) (R : List Pr) (s : ByteArray) (h : s ≠ key) : getL (setL key v R) s = getL R s := by
  unfold setL
  split
  · rw [getL_putL, if_neg h]
  · rfl
theorem pairB_of {key : ByteArray} {v : List UInt8} (h1 : 1 ≤ key.size) (h2 : key.size ≤ 200) (h3 : v.length ≤ 65535) : pairB (key, v) = true := by
  unfold pairB
  simp only [Bool.and_eq_true, decide_eq_true_eq]
  exact ⟨keyB_of h1 h2, h3⟩
theorem app_inj {p a b : ByteArray} (h : p ++ a = p ++ b) : a = b := by
  have e := congrArg (fun s => s.data.toList) h
  simp only [dlist] at e
  have e2 := List.append_cancel_left e
  exact ByteArray.ext (by simpa using congrArg List.toArray e2)
theorem kCli_list (a : ByteArray) : (kCli a).data.toList = [105, 98, 99, 47, 99, 108] ++ ([105, 101, 110, 116, 47] ++ a.data.toList) := by
  unfold kCli cliP
  rw [dlist]
  rfl
theorem kCons_list (a : ByteArray) (n : Nat) : (kCons a n).data.toList = [105, 98, 99, 47, 99, 111, 110, 115] ++ ([47] ++ (a.data.toList ++ ([47] ++ (hexN n).data.toList))) := by
  unfold kCons consP slB
  rw [dlist, dlist, dlist]
  simp
theorem kNum_list (a : ByteArray) : (kNum a).data.toList = [105, 98, 99, 47, 110] ++ ([47] ++ a.data.toList) := by
  unfold kNum numP
  rw [dlist]
  rfl
theorem cli_ne_num (a b : ByteArray) : kCli a ≠ kNum b := fun e => by
  have e := congrArg (fun s => s.data.toList) e
  simp only [kCli_list, kNum_list] at e
  simp at e
theorem cons_ne_num (a b : ByteArray) (n : Nat) : kCons a n ≠ kNum b := fun e => by
  have e := congrArg (fun s => s.data.toList) e
  simp only [kNum_list, kCons_list] at e
  simp at e
/-! ### how many pairs -/
theorem lenF_no {p : ByteArray → Bool} {key : ByteArray} (hp : p key = false) (v : List UInt8) (R : List Pr) : ((putL (key, some v) R).filter (fun q => p q.1)).length = (R.filter (fun q => p q.1)).length := by
  have h := ((putL_perm key (some v) R).filter (fun q => p q.1)).length_eq
  rw [h]
  simp only [List.filter_append, List.filter_cons, List.filter_nil, hp, Bool.false_eq_true, if_false, List.nil_append, List.filter_filter]
  congr 1
  apply List.filter_congr
  intro q _
  by_cases e : q.1 = key
  · simp [e, hp]
  · simp [e]
theorem lenF_new {p : ByteArray → Bool} {key : ByteArray} (hp : p key = true) {R : List Pr} (hr : Rise R) (hn : getL R key = none) (v : List UInt8) : ((putL (key, some v) R).filter (fun q => p q.1)).length = (R.filter (fun q => p q.1)).length + 1 := by
  have h := ((putL_perm key (some v) R).filter (fun q => p q.1)).length_eq
  rw [h]
  have e : R.filter (fun q => !decide (q.1 = key)) = R := by
    apply List.filter_eq_self.2
    intro q hq
    have : q.1 ≠ key := fun e => by
      have := hr.get hq
      rw [e, hn] at this
      cases this
    simpa using this
  rw [e]
  simp [List.filter_append, hp]
theorem lenF_setNo {p : ByteArray → Bool} {key : ByteArray} (hp : p key = false) (v : List UInt8) (R : List Pr) : ((setL key v R).filter (fun q => p q.1)).length = (R.filter (fun q => p q.1)).length := by
  unfold setL
  split
  · exact lenF_no hp v R
  · rfl
theorem Rise.setL {R : List Pr} (h : Rise R) (key : ByteArray) (v : List UInt8) : Rise (Go.Proofs.YtmphegeiclgjbaaGreatDoor.setL key v R) := by
  unfold Go.Proofs.YtmphegeiclgjbaaGreatDoor.setL
  split
  · exact h.put _
  · exact h
/-! ### a store that no other chain has touched -/
def ibcP : ByteArray := ⟨#[105, 98, 99, 47]⟩
theorem beg_ibc (s : ByteArray) (r : List UInt8) (h : s.data.toList = [105, 98, 99, 47] ++ r) : begB ibcP s = true := (begQ_iff _ _).2 ⟨r, h⟩
theorem ibc_num (a : ByteArray) : begB ibcP (kNum a) = true := beg_ibc _ _ (by rw [kNum_list]; rfl)
theorem untouched {R : List Pr} (hr : Rise R) (h : R.filter (fun p => begB ibcP p.1) = []) {key : ByteArray} (hk : begB ibcP key = true) : getL R key = none := by
  have e := getL_filter R (fun s => begB ibcP s) key
  rw [h, if_pos hk] at e
  exact e.symm
def ClV.cs (v : ClV) : Array Value := #[.string v.ch, .int .u64 (v.la : Int), .int .u64 (v.pe : Int), .bool v.fr]
/-! ### what a client that is made leaves -/
section
variable {R : List Pr} {h : HdV} {pe now : Nat}
theorem numN_of {key : ByteArray} {n : Nat} (hn : n < 18446744073709551616) (e : getL R (kNum key) = some (be n 8)) : numN R key = n := by
  unfold numN
  rw [e]
  have := rN_enc n [] hn
  rw [List.append_nil] at this
  show (rN (be n 8) 0).1 = n
  rw [this]
structure MadeC (R R3 : List Pr) (h : HdV) (pe n : Nat) (id : ByteArray) : Prop where
  num : getL R3 (kNum sClient) = some (be (n + 1) 8)
  cl : getCl R3 id = some ⟨h.ch, h.ht, pe, false⟩
  cs : getCs R3 id h.ht = some ⟨h.tm, h.rt, h.nx⟩
  len : (R3.filter (fun p => begB consP p.1)).length = (R.filter (fun p => begB consP p.1)).length + 1
  rise : Rise R3
  other : ∀ a n, a ≠ id → getL R3 (kCons a n) = getL R (kCons a n)
end
end Go.Proofs.YtmphegeiclgjbaaGreatDoor
namespace Go.Proofs.YtmphegeiclgjbaaGreatDoor
set_option maxRecDepth 100000
open Go Go.RowKit
set_option linter.unusedVariables false

def zR32F : List UInt8 := List.replicate 32 0
def fix4H : HdV := ⟨⟨#[111, 110, 101]⟩, 5, 50, zR32F, zR32F, zR32F⟩
def fix4E : HdV := ⟨⟨#[]⟩, 0, 0, [], [], []⟩
def sCl0F : ByteArray := ⟨#[99, 108, 105, 101, 110, 116, 45, 48]⟩
def fix4R : List Pr := createR [] fix4H 9
end Go.Proofs.YtmphegeiclgjbaaGreatDoor
namespace Go.Proofs.YtmphegeiclgjbaaGreatDoor
set_option maxRecDepth 100000
open Go Go.RowKit

/-- a header as it is handed about -/
structure HV where
  chain : ByteArray
  height : Nat
  time : Nat
  vrA : Option Addr
  vrC : Nat
  vvA : Option Addr
  vvC : Nat
  vnA : Option Addr
  vnC : Nat
  root : List UInt8
  vals : List UInt8
  next : List UInt8
def HV.cells (h : HV) : Array Value := #[.string h.chain, .int .u64 (h.height : Int), .int .u64 (h.time : Int), .slice h.vrA h.root.length h.vrC, .slice h.vvA h.vals.length h.vvC, .slice h.vnA h.next.length h.vnC]
structure HV.at (h : HV) (w : World) : Prop where
  c : h.chain.size ≤ maxLen
  h1 : h.height < 18446744073709551616
  h2 : h.time < 18446744073709551616
  r : Rd w w.heap.size (.slice h.vrA h.root.length h.vrC) h.root
  v : Rd w w.heap.size (.slice h.vvA h.vals.length h.vvC) h.vals
  n : Rd w w.heap.size (.slice h.vnA h.next.length h.vnC) h.next
theorem HV.at.up {h : HV} {w w' : World} (a : h.at w) (hb : Below w.heap.size w w') : h.at w' :=
  ⟨a.c, a.h1, a.h2, a.r.up (Nat.le_refl _) hb, a.v.up (Nat.le_refl _) hb, a.n.up (Nat.le_refl _) hb⟩
def headL1 (h : HV) : List UInt8 := formB (strBytes h.chain) ++ be h.height 8 ++ be h.time 8
def headL (h : HV) : List UInt8 := headL1 h ++ formB h.root ++ formB h.vals ++ formB h.next
theorem headL1_length (h : HV) : (headL1 h).length ≤ 65555 := by
  have := formB_length (strBytes h.chain)
  simp only [headL1, List.length_append, be_length]; omega
/-- the box of a header, and what is known behind each call -/
def HB (g : Nat) (w : World) (h : HV) (w' : World) : Prop :=
  w'.heap[g]? = some (.cells h.cells 34 (0, 0)) ∧ Below w.heap.size w w' ∧ w.heap.size ≤ w'.heap.size
theorem HB.below {g : Nat} {w w' w'' : World} {h : HV} (a : HB g w h w') (hb : Below w'.heap.size w' w'') : HB g w h w'' :=
  ⟨(hb.block g (blk_lt a.1)).trans a.1, below_chain a.2.1 a.2.2 hb, Nat.le_trans a.2.2 hb.size⟩
theorem HB.drew {g : Nat} {w w' : World} {h : HV} (a : HB g w h w') : HB g w h w'.drew := ⟨a.1, a.2.1.drew, a.2.2⟩
theorem HB.r {g : Nat} {w w' : World} {h : HV} (a : HB g w h w') (hh : h.at w) : Rd w' w'.heap.size (.slice h.vrA h.root.length h.vrC) h.root := hh.r.up (Nat.le_refl _) a.2.1
theorem HB.v {g : Nat} {w w' : World} {h : HV} (a : HB g w h w') (hh : h.at w) : Rd w' w'.heap.size (.slice h.vvA h.vals.length h.vvC) h.vals := hh.v.up (Nat.le_refl _) a.2.1
theorem HB.n {g : Nat} {w w' : World} {h : HV} (a : HB g w h w') (hh : h.at w) : Rd w' w'.heap.size (.slice h.vnA h.next.length h.vnC) h.next := hh.n.up (Nat.le_refl _) a.2.1
theorem HB.c {g : Nat} {w w' : World} {h : HV} (a : HB g w h w') :
    w'.cell? ⟨g, 0, none⟩ = some (.string h.chain) ∧ w'.cell? ⟨g, 1, none⟩ = some (.int .u64 (h.height : Int)) ∧ w'.cell? ⟨g, 2, none⟩ = some (.int .u64 (h.time : Int)) ∧ w'.cell? ⟨g, 3, none⟩ = some (.slice h.vrA h.root.length h.vrC) ∧ w'.cell? ⟨g, 4, none⟩ = some (.slice h.vvA h.vals.length h.vvC) ∧ w'.cell? ⟨g, 5, none⟩ = some (.slice h.vnA h.next.length h.vnC) :=
  ⟨blk_cell a.1 0, blk_cell a.1 1, blk_cell a.1 2, blk_cell a.1 3, blk_cell a.1 4, blk_cell a.1 5⟩
theorem HB.new (w : World) (h : HV) : HB w.heap.size w h (w.alloc (.cells h.cells 34)) := ⟨heap_alloc_new w _, (Below.refl _ _).alloc (Nat.le_refl _) _, by simp⟩

set_option maxHeartbeats 4000000 in
set_option maxRecDepth 100000 in
theorem header_any (h : HV) (w : World) (hh : h.at w) :
    Calls Tryz.prog 132 #[.agg #[.string h.chain, .int .u64 (h.height : Int), .int .u64 (h.time : Int), .slice h.vrA h.root.length h.vrC, .slice h.vvA h.vals.length h.vvC, .slice h.vnA h.next.length h.vnC]] w fun e w' => ∃ v', e = .returned v' ∧ Own w' w.heap.size v' (headL h) ∧ Below w.heap.size w w' := by
  have hb0 := HB.new w h
  have hT := Lib.hid (fun W : World => T_any (.slice none 0 0) h.chain [] W (Rd.nil _ _) hh.c (by simp))
  have hh1 := hh.h1
  have hh2 := hh.h2
  have HH := Lib.hid hh
  go_enter Tryz.func132, Tryz.ntmps132
  go_wp2
  generalize hw0 : w.alloc (.cells #[.string h.chain, .int .u64 (h.height : Int), .int .u64 (h.time : Int), .slice h.vrA h.root.length h.vrC, .slice h.vvA h.vals.length h.vvC, .slice h.vnA h.next.length h.vnC] 34) = w0 at *
  have hB0 : HB w.heap.size w h w0 := by rw [← hw0]; exact hb0
  clear hb0 hw0
  obtain ⟨g, hg⟩ : ∃ g, g = w.heap.size := ⟨_, rfl⟩
  rw [← hg] at hB0
  simp only [← hg]
  have HG := Lib.hid hg
  clear hg hh
  go_region_held_law (fun w' => w'.cell? ⟨g, 0, none⟩ = some (.string h.chain) ∧ w'.cell? ⟨g, 1, none⟩ = some (.int .u64 (h.height : Int)) ∧ w'.cell? ⟨g, 2, none⟩ = some (.int .u64 (h.time : Int)) ∧ w'.cell? ⟨g, 3, none⟩ = some (.slice h.vrA h.root.length h.vrC) ∧ w'.cell? ⟨g, 4, none⟩ = some (.slice h.vvA h.vals.length h.vvC) ∧ w'.cell? ⟨g, 5, none⟩ = some (.slice h.vnA h.next.length h.vnC))
    (first | exact hB0.drew.c | exact hB3.c | exact hB5.c | exact hB7.c)
    (first
      | (go_at_call 82; refine (hT.out _).mono ?_; rintro e w3 ⟨v3, rfl, ho3, hb3⟩; have hB3 := hB0.drew.below hb3)
      | (go_at_call 42; first
          | ((with_reducible refine (N_any v3 _ h.height _ ho3.rd hh1 (by simp only [List.length_append, be_length, List.length_take, List.length_nil]; omega)).mono ?_); rintro e w5 ⟨v5, rfl, ho5, hb5⟩; have hB5 := hB3.below hb5)
          | ((with_reducible refine (N_any v5 _ h.time _ ho5.rd hh2 (by simp only [List.length_append, be_length, List.length_take, List.length_nil]; omega)).mono ?_); rintro e w7 ⟨v7, rfl, ho7, hb7⟩; have hB7 := hB5.below hb7)))
  replace ho7 : Own w7 w5.heap.size v7 (headL1 h) := ho7
  have hl7 := headL1_length h
  clear hB0 hB3 hB5 ho3 hb3 ho5 hb5 hb7 hT hh1 hh2
  obtain ⟨L, hL⟩ : ∃ L, L = headL1 h := ⟨_, rfl⟩
  rw [← hL] at ho7 hl7
  have HL := Lib.hid hL
  have hrd7 : Rd w7.drew w7.drew.heap.size v7 L := ho7.rd
  clear hL
  have h9 := formB_length h.root
  have h11 := formB_length h.vals
  go_wp2_with fail
  go_region_held_law (fun w' => w'.cell? ⟨g, 0, none⟩ = some (.string h.chain) ∧ w'.cell? ⟨g, 1, none⟩ = some (.int .u64 (h.height : Int)) ∧ w'.cell? ⟨g, 2, none⟩ = some (.int .u64 (h.time : Int)) ∧ w'.cell? ⟨g, 3, none⟩ = some (.slice h.vrA h.root.length h.vrC) ∧ w'.cell? ⟨g, 4, none⟩ = some (.slice h.vvA h.vals.length h.vvC) ∧ w'.cell? ⟨g, 5, none⟩ = some (.slice h.vnA h.next.length h.vnC))
    (first | assumption | exact hB7.c | exact hB7.drew.c | exact hB9.c | exact hB11.c | exact hB13.c)
    ((go_at_call 106; first
          | ((refine (B_any v11 (.slice h.vnA h.next.length h.vnC) (L ++ formB h.root ++ formB h.vals) _ _ ho11.rd (hB11.n HH.out) (by simp only [List.length_append]; omega)).mono ?_); rintro e w13 ⟨v13, rfl, ho13, hb13⟩; have hB13 := hB11.below hb13)
          | ((refine (B_any v9 (.slice h.vvA h.vals.length h.vvC) (L ++ formB h.root) _ _ ho9.rd (hB9.v HH.out) (by simp only [List.length_append]; omega)).mono ?_); rintro e w11 ⟨v11, rfl, ho11, hb11⟩; rw [List.append_assoc] at ho11; replace ho11 : Own w11 _ v11 ((L ++ formB h.root) ++ formB h.vals) := ho11; have hB11 := hB9.below hb11)
          | ((refine (B_any v7 (.slice h.vrA h.root.length h.vrC) L _ _ hrd7 (hB7.drew.r HH.out) (by omega)).mono ?_); rintro e w9 ⟨v9, rfl, ho9, hb9⟩; rw [List.append_assoc] at ho9; replace ho9 : Own w9 _ v9 (L ++ formB h.root) := ho9; have hB9 := hB7.drew.below hb9)))
  rw [List.append_assoc] at ho13
  replace ho13 : Own w13 w11.heap.size v13 (headL h) := by rw [HL.out] at ho13; exact ho13
  clear HL ho7 ho9 ho11 hB7 hB9 hb9 hb11 hb13 hrd7
  go_wp2_with fail
  go_ret
  have hg := HG.out
  subst hg
  exact ⟨_, rfl, ho13.more hB11.2.2, hB13.2.1⟩

end Go.Proofs.YtmphegeiclgjbaaGreatDoor
namespace Go.Proofs.YtmphegeiclgjbaaGreatDoor
set_option maxRecDepth 100000
open Go.RowKit

end Go.Proofs.YtmphegeiclgjbaaGreatDoor
namespace Go.Proofs.YtmphegeiclgjbaaGreatDoor
set_option maxRecDepth 100000
open Go.RowKit

def padS (M : List UInt8) (F b : Nat) : Nat → List UInt8
  | 0 => M
  | i + 1 => (padS M F b i).set (F - 1 - i) (UInt8.ofNat (b / 2 ^ (8 * i)))
end Go.Proofs.YtmphegeiclgjbaaGreatDoor
namespace Go.Proofs.YtmphegeiclgjbaaGreatDoor
set_option maxRecDepth 100000
open Go.RowKit

end Go.Proofs.YtmphegeiclgjbaaGreatDoor
namespace Go.Proofs.YtmphegeiclgjbaaGreatDoor
set_option maxRecDepth 100000
open Go.RowKit

/-! ### the whole message filled up is its whole blocks and the rest filled up -/
/-- block g holds the state s -/
def RBlk (w : World) (g : Nat) (s : S8) : Prop := w.heap[g]? = some (.cells s.list.toArray 184 (0, 0))

theorem RBlk.cells {w : World} {g : Nat} {s : S8} (h : RBlk w g s) : w.rangeAt g 0 s.list := by
  have := World.rangeAt_of_block h 0 8
  rwa [show (s.list.toArray.extract 0 (0 + 8)).toList = s.list by simp [S8.list]] at this
theorem RBlk.below {w w' : World} {g : Nat} {s : S8} (h : RBlk w g s) (hb : Below w.heap.size w w') : RBlk w' g s := (hb.block g (blk_lt h)).trans h

theorem RBlk.at8 {w : World} {g : Nat} {s : S8} (h : RBlk w g s) : w.cell? ⟨g, 0, none⟩ = some (.int .u32 (s.a.toNat : Int)) ∧ w.cell? ⟨g, 1, none⟩ = some (.int .u32 (s.b.toNat : Int)) ∧ w.cell? ⟨g, 2, none⟩ = some (.int .u32 (s.c.toNat : Int)) ∧ w.cell? ⟨g, 3, none⟩ = some (.int .u32 (s.d.toNat : Int)) ∧
    w.cell? ⟨g, 4, none⟩ = some (.int .u32 (s.e.toNat : Int)) ∧ w.cell? ⟨g, 5, none⟩ = some (.int .u32 (s.f.toNat : Int)) ∧ w.cell? ⟨g, 6, none⟩ = some (.int .u32 (s.g.toNat : Int)) ∧ w.cell? ⟨g, 7, none⟩ = some (.int .u32 (s.h.toNat : Int)) :=
  ⟨blk_cell h 0, blk_cell h 1, blk_cell h 2, blk_cell h 3, blk_cell h 4, blk_cell h 5, blk_cell h 6, blk_cell h 7⟩


theorem RBlk.word {w : World} {g : Nat} {s : S8} (h : RBlk w g s) (t : Nat) (ht : t < 8) : w.cell? ⟨g, t, none⟩ = some (.int .u32 ((s.word t).toNat : Int)) := by
  rw [blk_cell h t]
  have : t = 0 ∨ t = 1 ∨ t = 2 ∨ t = 3 ∨ t = 4 ∨ t = 5 ∨ t = 6 ∨ t = 7 := by omega
  rcases this with rfl | rfl | rfl | rfl | rfl | rfl | rfl | rfl <;> rfl

end Go.Proofs.YtmphegeiclgjbaaGreatDoor
namespace Go.Proofs.YtmphegeiclgjbaaGreatDoor
set_option maxRecDepth 100000
open Go.RowKit

end Go.Proofs.YtmphegeiclgjbaaGreatDoor
namespace Go.Proofs.YtmphegeiclgjbaaGreatDoor
set_option maxRecDepth 100000
open Go Go.RowKit

def headWord : ByteArray := ⟨#[104, 101, 97, 100, 101, 114]⟩
set_option maxHeartbeats 1000000 in
theorem hashOf_any (h : HV) (w : World) (hh : h.at w) (fr : TypeId × Nat × Nat) (hk : w.heap[0]? = some (.cells kVals fr.1 fr.2)) :
    Calls Tryz.prog 103 #[.agg #[.string h.chain, .int .u64 (h.height : Int), .int .u64 (h.time : Int), .slice h.vrA h.root.length h.vrC, .slice h.vvA h.vals.length h.vvC, .slice h.vnA h.next.length h.vnC]] w fun e w' => ∃ v', e = .returned v' ∧ Own w' w.heap.size v' (shaSum (formB (strBytes headWord) ++ formBs [headL h])) ∧ Below w.heap.size w w' := by
  have hn0 := blk_lt hk
  have hb0 := HB.new w h
  have HD := Lib.hid (fun W : World => header_any h W)
  go_enter Tryz.func103, Tryz.ntmps103
  go_wp2_with fail
  have hB0 : HB w.heap.size w h (w.alloc (.cells #[.string h.chain, .int .u64 (h.height : Int), .int .u64 (h.time : Int), .slice h.vrA h.root.length h.vrC, .slice h.vvA h.vals.length h.vvC, .slice h.vnA h.next.length h.vnC] 34)) := hb0
  generalize w.alloc (.cells #[.string h.chain, .int .u64 (h.height : Int), .int .u64 (h.time : Int), .slice h.vrA h.root.length h.vrC, .slice h.vvA h.vals.length h.vvC, .slice h.vnA h.next.length h.vnC] 34) = w0 at *
  refine (HD.out _ (hh.up hB0.2.1)).mono ?_
  rintro e w1 ⟨v1, rfl, ho1, hb1⟩
  have hb1' : Below w.heap.size w w1 := below_chain hB0.2.1 hB0.2.2 hb1
  obtain ⟨L, hL⟩ : ∃ L, L = headL h := ⟨_, rfl⟩
  rw [← hL] at ho1
  have HL := Lib.hid hL
  clear hL hB0 hb0 hb1
  obtain ⟨A1, c1, rfl⟩ := ho1.form
  go_wp2_with fail
  have hp := parts1 w1 _ L 32 ho1.rd
  have hbx : Below w.heap.size w (w1.alloc (.cells #[.slice A1 L.length c1] 32)) := hb1'.alloc hb1'.size _
  generalize w1.alloc (.cells #[.slice A1 L.length c1] 32) = w2 at *
  refine (tagged_any headWord _ [L] w2 hp (by unfold maxLen headWord; decide) (by simp) fr ((hbx.block _ hn0).trans hk)).mono ?_
  rintro e w3 ⟨v3, rfl, ho3, hb3⟩
  go_wp2_with fail
  go_ret
  rw [← HL.out]
  exact ⟨_, rfl, ho3.more hbx.size, below_chain hbx hbx.size hb3⟩

end Go.Proofs.YtmphegeiclgjbaaGreatDoor
