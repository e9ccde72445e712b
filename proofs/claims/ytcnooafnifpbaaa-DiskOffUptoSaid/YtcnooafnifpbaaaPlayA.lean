/- Two disks side by side: the program's and the document's. -/
import Derived.Test.YtcnooafnifpbaaaDiskT
import Derived.Test.YtcnooafnifpbaaaRDiskQ
import Derived.Test.YtcnooafnifpbaaaRDiskF
import Derived.Test.YtcnooafnifpbaaaSameF
import Derived.Test.YtcnooafnifpbaaaDiskQ
import Derived.Test.YtcnooafnifpbaaaDiskO
import Derived.Test.YtcnooafnifpbaaaDiskG
namespace Go.Proofs.Ytcnooafnifpbaaa
open Go Go.RowKit
set_option linter.unusedVariables false

/-- both disks, in blocks apart, all behind B -/
structure Two (w : World) (B : Nat) (F G : Nat → Prop) (d e : Nat) (m n : DM) : Prop where
  one : DiskAt w F d m
  two : RefAt w G e n
  apart : ∀ k, F k → ¬ G k
  f : ∀ k, F k → B ≤ k
  g : ∀ k, G k → B ≤ k
  size : B ≤ w.heap.size

section
variable {w w' : World} {B : Nat} {F G : Nat → Prop} {d e : Nat} {m n m' n' : DM}
theorem Two.left (h : Two w B F G d e m n) (hc : Chg w w' F) (hd : DiskAt w' (Ext F w w') d m') : Two w' B (Ext F w w') G d e m' n :=
  ⟨hd, h.two.keep hc fun k hg hf => h.apart k hf hg, fun k hk hg => hk.elim (fun hf => h.apart k hf hg) fun hk => by have := h.two.lt k hg; omega,
    Ext.ge h.f h.size, h.g, Nat.le_trans h.size hc.size⟩
theorem Two.left' (h : Two w B F G d e m n) (hc : Chg w w' F) (hd : DiskAt w' F d m') : Two w' B F G d e m' n :=
  ⟨hd, h.two.keep hc fun k hg hf => h.apart k hf hg, h.apart, h.f, h.g, Nat.le_trans h.size hc.size⟩
theorem Two.right (h : Two w B F G d e m n) (hc : Chg w w' G) (hd : RefAt w' (Ext G w w') e n') : Two w' B F (Ext G w w') d e m n' :=
  ⟨h.one.keep hc fun k hf hg => h.apart k hf hg, hd, fun k hf hk => hk.elim (fun hg => h.apart k hf hg) fun hk => by have := h.one.lt k hf; omega,
    h.f, Ext.ge h.g h.size, Nat.le_trans h.size hc.size⟩
theorem Two.right' (h : Two w B F G d e m n) (hc : Chg w w' G) (hd : RefAt w' G e n') : Two w' B F G d e m n' :=
  ⟨h.one.keep hc fun k hf hg => h.apart k hf hg, hd, h.apart, h.f, h.g, Nat.le_trans h.size hc.size⟩
theorem Two.below (h : Two w B F G d e m n) (hb : Below w.heap.size w w') : Two w' B F G d e m n :=
  ⟨h.one.below hb, h.two.below hb, h.apart, h.f, h.g, Nat.le_trans h.size hb.size⟩
/-- a block made behind both -/
theorem Two.fresh (h : Two w B F G d e m n) : ¬ F w.heap.size ∧ ¬ G w.heap.size := ⟨fun hk => by have := h.one.lt _ hk; omega, fun hk => by have := h.two.lt _ hk; omega⟩
end
def TwoX (w : World) (B d e : Nat) (m n : DM) : Prop := ∃ F G, Two w B F G d e m n

structure PlayAt (w0 w : World) (B : Nat) (F G : Nat → Prop) (g d e : Nat) (m n : DM) (cs : Array Value) : Prop where
  two : Two w B F G d e m n
  old : Below B w0 w
  box : w.heap[g]? = some (.cells cs 35 (0, 0))
  nf : ¬ F g
  ng : ¬ G g
section
variable {w0 w w' : World} {B : Nat} {F G : Nat → Prop} {g d e : Nat} {m n m' n' : DM} {cs : Array Value}
theorem PlayAt.new (h : Two w B F G d e m n) (cs : Array Value) : PlayAt w (w.alloc (.cells cs 35)) B F G w.heap.size d e m n cs :=
  ⟨h.below ((Below.refl _ _).alloc (Nat.le_refl _) _), (Below.refl _ _).alloc h.size _, heap_alloc_new w _, h.fresh.1, h.fresh.2⟩
theorem PlayAt.drew (h : PlayAt w0 w B F G g d e m n cs) : PlayAt w0 w.drew B F G g d e m n cs :=
  ⟨h.two.below (Below.refl _ _).drew, h.old.drew, h.box, h.nf, h.ng⟩
theorem PlayAt.below (h : PlayAt w0 w B F G g d e m n cs) (hb : Below w.heap.size w w') : PlayAt w0 w' B F G g d e m n cs :=
  ⟨h.two.below hb, below_chain h.old h.two.size hb, (hb.block _ (blk_lt h.box)).trans h.box, h.nf, h.ng⟩
theorem PlayAt.left' (h : PlayAt w0 w B F G g d e m n cs) (hd : DiskAt w' F d m') (hc : Chg w w' F) : PlayAt w0 w' B F G g d e m' n cs :=
  ⟨h.two.left' hc hd, h.old.trans (hc.below h.two.f h.two.size), (hc.block _ (blk_lt h.box) h.nf).trans h.box, h.nf, h.ng⟩
theorem PlayAt.right' (h : PlayAt w0 w B F G g d e m n cs) (hd : RefAt w' G e n') (hc : Chg w w' G) : PlayAt w0 w' B F G g d e m n' cs :=
  ⟨h.two.right' hc hd, h.old.trans (hc.below h.two.g h.two.size), (hc.block _ (blk_lt h.box) h.ng).trans h.box, h.nf, h.ng⟩
theorem PlayAt.left (h : PlayAt w0 w B F G g d e m n cs) (hd : DiskAt w' (Ext F w w') d m') (hc : Chg w w' F) : PlayAt w0 w' B (Ext F w w') G g d e m' n cs :=
  ⟨h.two.left hc hd, h.old.trans (hc.below h.two.f h.two.size), (hc.block _ (blk_lt h.box) h.nf).trans h.box, fun k => k.elim h.nf fun k => by have := blk_lt h.box; omega, h.ng⟩
theorem PlayAt.right (h : PlayAt w0 w B F G g d e m n cs) (hd : RefAt w' (Ext G w w') e n') (hc : Chg w w' G) : PlayAt w0 w' B F (Ext G w w') g d e m n' cs :=
  ⟨h.two.right hc hd, h.old.trans (hc.below h.two.g h.two.size), (hc.block _ (blk_lt h.box) h.ng).trans h.box, h.nf, fun k => k.elim h.ng fun k => by have := blk_lt h.box; omega⟩
theorem PlayAt.rdf (h : PlayAt w0 w B F G g d e m n cs) {v : Value} {l : List UInt8} (hr : Rd w0 B v l) (H : Nat → Prop) (hH : ∀ k, H k → B ≤ k) : RdF w H v l :=
  RdF.old (hr.below h.old) h.two.size hH
theorem PlayAt.c {K x s u v : Value} (h : PlayAt w0 w B F G g d e m n #[K, x, s, u, v]) : w.cell? ⟨g, 1, none⟩ = some x ∧ w.cell? ⟨g, 2, none⟩ = some s ∧ w.cell? ⟨g, 3, none⟩ = some u ∧ w.cell? ⟨g, 4, none⟩ = some v :=
  ⟨blk_cell h.box 1, blk_cell h.box 2, blk_cell h.box 3, blk_cell h.box 4⟩
end
variable {w : World} {B : Nat} {F G : Nat → Prop} {d e : Nat} {m n : DM}

set_option maxHeartbeats 1000000 in
theorem play_sync (h : Two w B F G d e m n) (q : Int) (s : ByteArray) (A1 A2 : Option Addr) (l1 c1 l2 c2 : Nat) :
    Calls Try.prog 16 #[.pointer (some ⟨d, 0, none⟩), .pointer (some ⟨e, 0, none⟩), .agg #[.int .i64 2, .int .i64 q, .string s, .slice A1 l1 c1, .slice A2 l2 c2]] w fun r w' =>
      ∃ b, r = .returned (.bool b) ∧ (m = n → b = true) ∧ TwoX w' B d e (syncM m s).2 (syncM n s).2 ∧ Below B w w' := by
  have hp := PlayAt.new h #[.int .i64 2, .int .i64 q, .string s, .slice A1 l1 c1, .slice A2 l2 c2]
  clear h
  obtain ⟨x, hx⟩ : ∃ x, x = (syncM m s).1 := ⟨_, rfl⟩
  obtain ⟨y, hy⟩ : ∃ y, y = (syncM n s).1 := ⟨_, rfl⟩
  have HXY := Lib.hid (And.intro hx hy)

  clear hx hy
  go_enter Try.func16, Try.ntmps16
  go_wp2_with fail
  generalize w.alloc (.cells #[.int .i64 2, .int .i64 q, .string s, .slice A1 l1 c1, .slice A2 l2 c2] 35) = w1 at *
  obtain ⟨g, hg⟩ : ∃ g, g = w.heap.size := ⟨_, rfl⟩
  rw [← hg] at hp
  simp only [← hg]
  have HP := Lib.hid hp.drew
  clear hg hp
  go_region_held_law (fun W => W.cell? ⟨g, 1, none⟩ = some (.int .i64 q) ∧ W.cell? ⟨g, 2, none⟩ = some (.string s) ∧ W.cell? ⟨g, 3, none⟩ = some (.slice A1 l1 c1) ∧ W.cell? ⟨g, 4, none⟩ = some (.slice A2 l2 c2))
    (first | exact hp3.c | exact hp2.c | exact HP.out.c)
    (first
      | (go_at_call 22; refine (sync_any HP.out.two.one s).mono ?_; rintro e1 w2 ⟨rfl, hd2, hc2⟩; have hp2 := HP.out.left' hd2 hc2; rw [← HXY.out.1])
      | (go_at_call 34; refine (rsync_any hp2.two.two s).mono ?_; rintro e2 w3 ⟨rfl, hd3, hc3⟩; have hp3 := hp2.right' hd3 hc3; rw [← HXY.out.2]))
  go_wp2_with fail
  go_ret
  refine ⟨_, rfl, ?_, ⟨_, _, hp3.two⟩, hp3.old⟩
  intro hmn
  have h1 := HXY.out.1
  have h2 := HXY.out.2
  subst hmn
  rw [h1, h2]
  simp

set_option maxHeartbeats 1000000 in
theorem play_trunc (h : Two w B F G d e m n) (q : Int) (s : ByteArray) (A1 A2 : Option Addr) (l1 c1 l2 c2 : Nat) (hq : -9223372036854775808 ≤ q ∧ q ≤ 9223372036854775807) (hm : ∀ f ∈ m.files, f.data.length ≤ 1000000000) (hn : ∀ f ∈ n.files, f.data.length ≤ 1000000000) :
    Calls Try.prog 16 #[.pointer (some ⟨d, 0, none⟩), .pointer (some ⟨e, 0, none⟩), .agg #[.int .i64 3, .int .i64 q, .string s, .slice A1 l1 c1, .slice A2 l2 c2]] w fun r w' =>
      ∃ b, r = .returned (.bool b) ∧ (m = n → b = true) ∧ TwoX w' B d e (truncM m s q).2 (truncM n s q).2 ∧ Below B w w' := by
  have hp := PlayAt.new h #[.int .i64 3, .int .i64 q, .string s, .slice A1 l1 c1, .slice A2 l2 c2]
  clear h
  obtain ⟨x, hx⟩ : ∃ x, x = (truncM m s q).1 := ⟨_, rfl⟩
  obtain ⟨y, hy⟩ : ∃ y, y = (truncM n s q).1 := ⟨_, rfl⟩
  have HXY := Lib.hid (And.intro hx hy)
  have HM := Lib.hid hm
  have HN := Lib.hid hn
  have HQ := Lib.hid hq
  clear hm hn hq
  clear hx hy
  go_enter Try.func16, Try.ntmps16
  go_wp2_with fail
  generalize w.alloc (.cells #[.int .i64 3, .int .i64 q, .string s, .slice A1 l1 c1, .slice A2 l2 c2] 35) = w1 at *
  obtain ⟨g, hg⟩ : ∃ g, g = w.heap.size := ⟨_, rfl⟩
  rw [← hg] at hp
  simp only [← hg]
  have HP := Lib.hid hp.drew
  clear hg hp
  go_region_held_law (fun W => W.cell? ⟨g, 1, none⟩ = some (.int .i64 q) ∧ W.cell? ⟨g, 2, none⟩ = some (.string s) ∧ W.cell? ⟨g, 3, none⟩ = some (.slice A1 l1 c1) ∧ W.cell? ⟨g, 4, none⟩ = some (.slice A2 l2 c2))
    (first | exact hp3.c | exact hp2.c | exact HP.out.c)
    (first
      | (go_at_call 24; refine (trunc_any HP.out.two.one s q HQ.out HM.out).mono ?_; rintro e1 w2 ⟨rfl, hd2, hc2⟩; have hp2 := HP.out.left' hd2 hc2; rw [← HXY.out.1])
      | (go_at_call 35; refine (rtrunc_any hp2.two.two s q HQ.out HN.out).mono ?_; rintro e2 w3 ⟨rfl, hd3, hc3⟩; have hp3 := hp2.right' hd3 hc3; rw [← HXY.out.2]))
  go_wp2_with fail
  go_ret
  refine ⟨_, rfl, ?_, ⟨_, _, hp3.two⟩, hp3.old⟩
  intro hmn
  have h1 := HXY.out.1
  have h2 := HXY.out.2
  subst hmn
  rw [h1, h2]
  simp

set_option maxHeartbeats 1000000 in
theorem play_append (h : Two w B F G d e m n) (q : Int) (s : ByteArray) (A1 A2 : Option Addr) (l1 c1 l2 c2 : Nat) (hs : s.size ≤ maxLen) (l : List UInt8) (hr : Rd w B (.slice A1 l1 c1) l) (hm : ∀ f ∈ m.files, f.data.length + l.length ≤ 140737488355328) (hn : ∀ f ∈ n.files, f.data.length + l.length ≤ 140737488355328) (hl : l.length ≤ 140737488355328) (hml : m.files.length ≤ 1000) (hnl : n.files.length ≤ 1000) :
    Calls Try.prog 16 #[.pointer (some ⟨d, 0, none⟩), .pointer (some ⟨e, 0, none⟩), .agg #[.int .i64 1, .int .i64 q, .string s, .slice A1 l1 c1, .slice A2 l2 c2]] w fun r w' =>
      ∃ b, r = .returned (.bool b) ∧ (m = n → b = true) ∧ TwoX w' B d e (appendM m s l).2 (appendM n s l).2 ∧ Below B w w' := by
  have hp := PlayAt.new h #[.int .i64 1, .int .i64 q, .string s, .slice A1 l1 c1, .slice A2 l2 c2]
  clear h
  obtain ⟨x, hx⟩ : ∃ x, x = (appendM m s l).1 := ⟨_, rfl⟩
  obtain ⟨y, hy⟩ : ∃ y, y = (appendM n s l).1 := ⟨_, rfl⟩
  have HXY := Lib.hid (And.intro hx hy)
  have HM := Lib.hid hm
  have HN := Lib.hid hn
  have HR := Lib.hid hr
  have HS := Lib.hid hs
  have HL := Lib.hid hl
  have HML := Lib.hid hml
  have HNL := Lib.hid hnl
  clear hm hn hr hs hl hml hnl
  clear hx hy
  go_enter Try.func16, Try.ntmps16
  go_wp2_with fail
  generalize w.alloc (.cells #[.int .i64 1, .int .i64 q, .string s, .slice A1 l1 c1, .slice A2 l2 c2] 35) = w1 at *
  obtain ⟨g, hg⟩ : ∃ g, g = w.heap.size := ⟨_, rfl⟩
  rw [← hg] at hp
  simp only [← hg]
  have HP := Lib.hid hp.drew
  clear hg hp
  go_region_held_law (fun W => W.cell? ⟨g, 1, none⟩ = some (.int .i64 q) ∧ W.cell? ⟨g, 2, none⟩ = some (.string s) ∧ W.cell? ⟨g, 3, none⟩ = some (.slice A1 l1 c1) ∧ W.cell? ⟨g, 4, none⟩ = some (.slice A2 l2 c2))
    (first | exact hp3.c | exact hp2.c | exact HP.out.c)
    (first
      | (go_at_call 21; refine (append_any HP.out.two.one s HS.out l _ (HP.out.rdf HR.out _ HP.out.two.f) HM.out HL.out HML.out).mono ?_; rintro e1 w2 ⟨rfl, hd2, hc2⟩; have hp2 := HP.out.left hd2 hc2; rw [← HXY.out.1])
      | (go_at_call 33; refine (rappend_any hp2.two.two s HS.out l _ (hp2.rdf HR.out _ hp2.two.g) HN.out HL.out HNL.out).mono ?_; rintro e2 w3 ⟨rfl, hd3, hc3⟩; have hp3 := hp2.right hd3 hc3; rw [← HXY.out.2]))
  go_wp2_with fail
  go_ret
  refine ⟨_, rfl, ?_, ⟨_, _, hp3.two⟩, hp3.old⟩
  intro hmn
  have h1 := HXY.out.1
  have h2 := HXY.out.2
  subst hmn
  rw [h1, h2]
  simp
end Go.Proofs.Ytcnooafnifpbaaa
