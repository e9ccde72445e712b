
/- The walks of the steps of Put. The walk of Put. -/
import Derived.Test.YtbbpkenbeenocaaNodeC
import Derived.Test.YtbbpkenbeenocaaDiskG0
import Derived.Test.YtbbpkenbeenocaaWireN
import Derived.Deep.RegionHeldLaw
import Derived.Test.YtbbpkenbeenocaaNodeG
namespace Go.Proofs.Ytbbpkenbeenocaa
set_option maxRecDepth 100000
open Go Go.RowKit
set_option linter.unusedVariables false
variable {w : World} {F : Nat → Prop} {d : Nat} {m : DM}

/-- what a step of Put answers -/
def StepOk (w : World) (F : Nat → Prop) (d : Nat) (r : Int × DM) (e : Ending) (w' : World) : Prop :=
  e = .returned (.int .i64 r.1) ∧ DiskAt w' (Ext F w w') d r.2 ∧ Chg w w' F
theorem NodeIs.c0 {nd cnt : Nat} {bad : Bool} (h : NodeIs w nd d cnt bad) : w.cell? ⟨nd, 0, none⟩ = some (.pointer (some ⟨d, 0, none⟩)) := blk_cell h 0
theorem NodeIs.chg {w' : World} {nd cnt : Nat} {bad : Bool} (h : NodeIs w nd d cnt bad) (hc : Chg w w' F) (hn : ¬ F nd) : NodeIs w' nd d cnt bad := (hc.block nd (blk_lt h) hn).trans h

theorem syncLog_any (h : DiskAt w F d m) {nd cnt : Nat} {bad : Bool} (hn : NodeIs w nd d cnt bad) :
    Calls Try.prog 44 #[.pointer (some ⟨nd, 0, none⟩)] w (StepOk w F d (syncM m sLog)) := by
  have c0 := hn.c0
  have H0 := Lib.hid h
  clear h hn
  go_enter Try.func44, Try.ntmps44
  go_wp2_with fail
  refine (sync_any H0.out sLog).mono ?_
  rintro e w1 ⟨rfl, h1, hc1⟩
  have HX := Lib.hid (And.intro (h1.mono (G := Ext F w w1) (fun _ => .inl) (Ext.lt H0.out.lt hc1.size)) hc1)
  clear h1 hc1
  go_wp2_with fail
  go_ret
  exact ⟨rfl, HX.out⟩
theorem syncMarks_any (h : DiskAt w F d m) {nd cnt : Nat} {bad : Bool} (hn : NodeIs w nd d cnt bad) :
    Calls Try.prog 46 #[.pointer (some ⟨nd, 0, none⟩)] w (StepOk w F d (syncM m sMarks)) := by
  have c0 := hn.c0
  have H0 := Lib.hid h
  clear h hn
  go_enter Try.func46, Try.ntmps46
  go_wp2_with fail
  refine (sync_any H0.out sMarks).mono ?_
  rintro e w1 ⟨rfl, h1, hc1⟩
  have HX := Lib.hid (And.intro (h1.mono (G := Ext F w w1) (fun _ => .inl) (Ext.lt H0.out.lt hc1.size)) hc1)
  clear h1 hc1
  go_wp2_with fail
  go_ret
  exact ⟨rfl, HX.out⟩
theorem addMark_any (h : DiskAt w F d m) {nd cnt : Nat} {bad : Bool} (hn : NodeIs w nd d cnt bad) (hlen : ∀ f ∈ m.files, f.data.length ≤ 1000000000) (hml : m.files.length ≤ 1000) :
    Calls Try.prog 45 #[.pointer (some ⟨nd, 0, none⟩)] w (StepOk w F d (appendM m sMarks [1])) := by
  have c0 := hn.c0
  have hz := h.lt
  have HAL := Lib.hid (Chg.alloc w F (.cells (bcells [1]).toArray 5))
  have H1 := Lib.hid (h.al (.cells (bcells [1]).toArray 5))
  have HRD := Lib.hid (RdF.lit (w := w) hz (bcells [1]).toArray [1] 1 rfl rfl (by unfold maxLen; omega))
  have HZ := Lib.hid hz
  have HLN := Lib.hid hlen
  clear h hn hlen hz
  go_enter Try.func45, Try.ntmps45
  go_wp2_with fail
  refine (append_any H1.out sMarks (by decide) [1] _ HRD.out (fun f hf => by have := HLN.out f hf; simp; omega) (by simp) hml).mono ?_
  rintro e w1 ⟨rfl, h1, hc1⟩
  have HX := Lib.hid (And.intro (h1.mono (G := Ext F w w1) (fun k hk => hk.imp id fun h => ⟨Nat.le_trans HAL.out.size h.1, h.2⟩) (Ext.lt HZ.out (Nat.le_trans HAL.out.size hc1.size))) (HAL.out.trans' hc1))
  clear h1 hc1
  go_wp2_with fail
  go_ret
  exact ⟨rfl, HX.out⟩

theorem addEntry_any (h : DiskAt w F d m) {nd cnt gb ge : Nat} {bad : Bool} (hn : NodeIs w nd d cnt bad) {ev : Value} {en : List UInt8} (hb : w.cell? ⟨gb, 0, none⟩ = some (.pointer (some ⟨nd, 0, none⟩))) (hbl : gb < w.heap.size) (he : w.cell? ⟨ge, 0, none⟩ = some ev) (hel : ge < w.heap.size)
    (hFn : ¬ F nd) (hFb : ¬ F gb) (hFe : ¬ F ge) (hr : RdF w F ev en) (hen : en.length ≤ 1000000000) (hlen : ∀ f ∈ m.files, f.data.length ≤ 1000000000) (hml : m.files.length ≤ 1000) :
    Calls Try.prog 42 #[.pointer (some ⟨gb, 0, none⟩), .pointer (some ⟨ge, 0, none⟩)] w (StepOk w F d (appendM m sLog en)) := by
  have hce : ∀ W : World, Chg w W F → W.cell? ⟨gb, 0, none⟩ = some (.pointer (some ⟨nd, 0, none⟩)) ∧ W.cell? ⟨nd, 0, none⟩ = some (.pointer (some ⟨d, 0, none⟩)) ∧ W.cell? ⟨ge, 0, none⟩ = some ev := fun W hW =>
    ⟨(World.cell?_of_block (hW.block gb hbl hFb)).trans hb, (World.cell?_of_block (hW.block nd (blk_lt hn) hFn)).trans hn.c0, (World.cell?_of_block (hW.block ge hel hFe)).trans he⟩
  have CE := Lib.hid hce
  have HR := Lib.hid (show RdF w.drew F ev en from hr)
  have H0 := Lib.hid (h.below (Below.refl _ _).drew)
  have hd1 : Chg w w.drew F := Chg.drew w F
  have HLN := Lib.hid hlen
  obtain ⟨Ae, ce, rfl⟩ := hr.1.form
  have HML := Lib.hid hml
  have HZ := Lib.hid h.lt
  clear hce hr h hn hb he hbl hel hlen hml
  go_enter Try.func42, Try.ntmps42
  go_wp2_with fail
  go_region_held_law (fun W => W.cell? ⟨gb, 0, none⟩ = some (.pointer (some ⟨nd, 0, none⟩)) ∧ W.cell? ⟨nd, 0, none⟩ = some (.pointer (some ⟨d, 0, none⟩)) ∧ W.cell? ⟨ge, 0, none⟩ = some (.slice Ae en.length ce))
    (first | exact CE.out _ hc1 | exact CE.out _ hd1)
    (first
      | (go_at_call 43; refine (append_any H0.out sLog (by decide) en _ HR.out (fun f hf => by have := HLN.out f hf; omega) (by omega) HML.out).mono ?_; rintro e w1 ⟨rfl, h1, hc1'⟩; have hc1 : Chg w w1 F := hd1.trans' hc1'))
  all_goals
    have HX := Lib.hid (And.intro (show DiskAt w1 (Ext F w w1) d _ from h1) hc1)
    clear h1 hc1 hc1'
    go_wp2_with fail
    go_ret
    exact ⟨rfl, HX.out⟩
end Go.Proofs.Ytbbpkenbeenocaa
namespace Go.Proofs.Ytbbpkenbeenocaa
open Go Go.RowKit
set_option linter.unusedVariables false
variable {w : World} {F : Nat → Prop} {d : Nat} {m : DM}

theorem Ext.ext {w1 w2 : World} (h1 : w.heap.size ≤ w1.heap.size) (h2 : w1.heap.size ≤ w2.heap.size) : ∀ k, Ext (Ext F w w1) w1 w2 k → Ext F w w2 k := fun k h => by
  rcases h with (h | h) | h
  · exact .inl h
  · exact .inr ⟨h.1, by omega⟩
  · exact .inr ⟨by omega, h.2⟩
theorem Ext.up {w1 w2 : World} (h1 : w.heap.size ≤ w1.heap.size) : ∀ k, Ext F w1 w2 k → Ext F w w2 k := fun k h => h.imp id fun h => ⟨by omega, h.2⟩

/-- what Put answers -/
def PutOk (w : World) (F : Nat → Prop) (nd d cnt : Nat) (bad : Bool) (r : List UInt8) (m : DM) (e : Ending) (w' : World) : Prop :=
  if bad = true then e = .returned (.int .i64 52) ∧ Below w.heap.size w w' else
  e = .returned (.int .i64 (putE r m).1) ∧ DiskAt w' (Ext F w w') d (putE r m).2 ∧ Chg w w' (fun k => F k ∨ k = nd) ∧ NodeIs w' nd d (if (putE r m).1 = 0 then cnt + 1 else cnt) (if (putE r m).1 = 0 then false else true)

theorem nput_sick {nd cnt : Nat} (hn : NodeIs w nd d cnt true) (rv : Value) (r : List UInt8) (F : Nat → Prop) (m : DM) :
    Calls Try.prog 14 #[.pointer (some ⟨nd, 0, none⟩), rv] w (PutOk w F nd d cnt true r m) := by
  have c2 : w.cell? ⟨nd, 2, none⟩ = some (.bool true) := blk_cell hn 2
  have hb := (Below.refl w.heap.size w).alloc (Nat.le_refl _) (.cells #[.pointer (some ⟨nd, 0, none⟩)] 32)
  have hlt : nd < w.heap.size := blk_lt hn
  have c2' := (hb.cell (p := ⟨nd, 2, none⟩) hlt).trans c2
  have c0 : (w.alloc (.cells #[.pointer (some ⟨nd, 0, none⟩)] 32)).cell? ⟨w.heap.size, 0, none⟩ = some (.pointer (some ⟨nd, 0, none⟩)) := blk_cell (heap_alloc_new w _) 0
  have HB := Lib.hid hb
  clear hb hn c2
  go_enter Try.func14, Try.ntmps14
  go_wp2_with fail
  go_ret
  unfold PutOk
  rw [if_pos rfl]
  exact ⟨rfl, HB.out⟩

/-- what stands at the head of Put's loop -/
def PutAt (w wl : World) (F : Nat → Prop) (d : Nat) (m : DM) (r : List UInt8) (k : Nat) (wr : World) : Prop :=
  ∃ m', k ≤ 4 ∧ Chg wl wr F ∧ DiskAt wr (Ext F wl wr) d m' ∧ putE r m = putF r (4 - k) k m' ∧ GoodL m'.files ∧ totM m'.files ≤ totM m.files + k * (9 + r.length)
theorem put_fin {wl w' : World} {m2 : DM} {nd : Nat} (hF : ∀ k, F k → k < w.heap.size) (hwl : Below w.heap.size w wl) (hcg : Chg wl w' F) (hd : DiskAt w' (Ext F wl w') d m2) (hlt : nd < w.heap.size) (hFn : ¬ F nd) (i : Nat) (u : Value) :
    DiskAt (w'.setCell ⟨nd, i, none⟩ u) (Ext F w (w'.setCell ⟨nd, i, none⟩ u)) d m2 ∧ Chg w (w'.setCell ⟨nd, i, none⟩ u) (fun k => F k ∨ k = nd) := by
  have hs : (w'.setCell ⟨nd, i, none⟩ u).heap.size = w'.heap.size := by simp [World.setCell]
  have h1 : DiskAt (w'.setCell ⟨nd, i, none⟩ u) (Ext F wl w') d m2 := hd.keep (G := fun k => k = nd) (Chg.set (F := fun k => k = nd) w' (p := ⟨nd, i, none⟩) rfl u) fun k hk e => by
    subst e
    rcases hk with h | h
    · exact hFn h
    · have := hwl.size; omega
  refine ⟨h1.mono (fun k hk => by
      rcases hk with h | h
      · exact .inl h
      · exact .inr ⟨Nat.le_trans hwl.size h.1, by rw [hs]; exact h.2⟩) (fun k hk => by
      rcases hk with h | h
      · have := hF k h; have := hwl.size; have := hcg.size; omega
      · exact h.2), ?_⟩
  exact ((Chg.of_below hwl _).trans' (hcg.mono fun k _ => .inl)).trans' (Chg.set w' (p := ⟨nd, i, none⟩) (.inr rfl) u)
theorem PutAt.zero {wl : World} {r : List UInt8} (h : DiskAt wl F d m) (hg : GoodL m.files) : PutAt w wl F d m r 0 wl :=
  ⟨m, by omega, Chg.refl _ _, h.ext (Nat.le_refl _) h, rfl, hg, by omega⟩
/-- behind a step -/
theorem PutAt.step {wl wr w' : World} {r : List UInt8} {k : Nat} {m' : DM} (hF : ∀ k, F k → k < wl.heap.size) (hk : k < 4) (hcg : Chg wl wr F) (hpe : putE r m = putF r (4 - k) k m') (hgood : GoodL m'.files) (htot : totM m'.files ≤ totM m.files + k * (9 + r.length))
    (hc1 : Chg wr w' (Ext F wl wr)) (h1 : DiskAt w' (Ext (Ext F wl wr) wr w') d (putS r k m').2) :
    Chg wl w' F ∧ DiskAt w' (Ext F wl w') d (putS r k m').2 ∧ ((putS r k m').1 = 0 → PutAt w wl F d m r (k + 1) w') ∧ (¬ (putS r k m').1 = 0 → putE r m = putS r k m') := by
  have q1 := hcg.trans hc1
  have q2 : DiskAt w' (Ext F wl w') d (putS r k m').2 := h1.mono (Ext.ext hcg.size hc1.size) (Ext.lt hF q1.size)
  obtain ⟨j, hj⟩ : ∃ j, 4 - k = j + 1 := ⟨3 - k, by omega⟩
  have hst := putS_files r k m' hgood
  have hadd : addS r k ≤ 9 + r.length := by unfold addS; split <;> (try split) <;> omega
  refine ⟨q1, q2, fun h0 => ⟨(putS r k m').2, by omega, q1, q2, ?_, hst.1, by have := hst.2; rw [Nat.add_mul]; omega⟩, fun h0 => ?_⟩
  · rw [hpe, hj]; conv => lhs; unfold putF
    rw [if_pos h0, show 4 - (k + 1) = j by omega]
  · rw [hpe, hj]; conv => lhs; unfold putF
    rw [if_neg h0]
set_option maxHeartbeats 4000000 in
theorem nput_well (h : DiskAt w F d m) {nd cnt : Nat} (hn : NodeIs w nd d cnt false) (hFn : ¬ F nd) (rv : Value) (r : List UInt8) (hr : Rd w w.heap.size rv r) (hrl : r.length ≤ 10000000) (hg : GoodL m.files) (ht : totM m.files ≤ 100000000) (hc : cnt ≤ 1000000000) :
    Calls Try.prog 14 #[.pointer (some ⟨nd, 0, none⟩), rv] w (PutOk w F nd d cnt false r m) := by
  obtain ⟨i0, hi, hz, hsz, hby⟩ := info_parts Try.infoByte
  have c2 : w.cell? ⟨nd, 2, none⟩ = some (.bool false) := blk_cell hn 2
  have hb := (Below.refl w.heap.size w).alloc (Nat.le_refl _) (.cells #[.pointer (some ⟨nd, 0, none⟩)] 32)
  have hlt : nd < w.heap.size := blk_lt hn
  have c2' := (hb.cell (p := ⟨nd, 2, none⟩) hlt).trans c2
  have hbx : (w.alloc (.cells #[.pointer (some ⟨nd, 0, none⟩)] 32)).heap[w.heap.size]? = some (.cells #[.pointer (some ⟨nd, 0, none⟩)] 32 (0, 0)) := heap_alloc_new w _
  have c0 : (w.alloc (.cells #[.pointer (some ⟨nd, 0, none⟩)] 32)).cell? ⟨w.heap.size, 0, none⟩ = some (.pointer (some ⟨nd, 0, none⟩)) := blk_cell hbx 0
  have hFlt := h.lt
  have HFL := Lib.hid hFlt
  have hs0 : w.heap.size < (w.alloc (.cells #[.pointer (some ⟨nd, 0, none⟩)] 32)).heap.size := by simp
  have hr0 := hr.below hb
  obtain ⟨Ar, cr, rfl⟩ := hr.form
  have k1 : IntKind.u64.wrap (r.length : Int) = (r.length : Int) := by rw [IntKind.wrap_u64]; omega
  have HG := Lib.hid hg
  have HT := Lib.hid ht
  have HM := Lib.hid h
  have HN := Lib.hid hn
  have hmf : ∀ (fn : Fn) (first cap : Array Value) (W : World), (Instr.makeFunc fn first cap).run Try.prog W = .ok (.func fn first cap) W := fun _ _ _ _ => rfl
  clear c2 hr h hn hFlt hg ht
  go_enter Try.func14, Try.ntmps14
  go_wp2_with fail
  obtain ⟨w0, hw0⟩ : ∃ w0, w0 = w.alloc (.cells #[.pointer (some ⟨nd, 0, none⟩)] 32) := ⟨_, rfl⟩
  obtain ⟨gb, hgb⟩ : ∃ gb, gb = w.heap.size := ⟨_, rfl⟩
  rw [← hw0] at hb c2' hbx c0 hs0 hr0 ⊢
  rw [← hgb] at hbx c0
  simp only [← hgb]
  have HW := Lib.hid (And.intro hgb (And.intro hb hs0))
  have HR0 := Lib.hid hr0
  clear hw0 hb hgb c2' hr0 hs0
  refine (N_any (.slice none 0 0) [] r.length _ (Rd.nil _ _) (by omega) (by simp)).mono ?_
  rintro e w1 ⟨v1, rfl, ho1, hb1⟩
  have hr1 := HR0.out.below (hb1.mono (by have := HW.out.2.2; omega))
  have hb1s := hb1.size
  have hl1 : ([] ++ be r.length 8).length + r.length ≤ 140737488355328 := by rw [List.nil_append, be_length]; omega
  go_wp2_with (at_builtin; (refine wpList_append_rd (B := w0.heap.size) rfl (.tmp 19) (.tmp 20) _ rfl i0 Try.underlying40 hi hz hsz hby rfl ho1 rfl hr1 hl1 hb1s ?_; intro v2 w2 ho2 hg2 _; have hb2 : Below w0.heap.size w0 w2 := Own.below_grown hb1 ho1 (Nat.le_refl _) hb1s hg2; (have ho2' : Own w2 w0.heap.size v2 (entryN r) := ho2); obtain ⟨A2, k2, rfl⟩ := ho2'.form' (entryN_length r); (have hx2 : w2.cell? ⟨gb, 0, none⟩ = some (.pointer (some ⟨nd, 0, none⟩)) := (hb2.cell (p := ⟨gb, 0, none⟩) (blk_lt hbx)).trans c0); (have hx3 : (w2.alloc (.cells #[.slice A2 (8 + r.length) k2] 40)).cell? ⟨gb, 0, none⟩ = some (.pointer (some ⟨nd, 0, none⟩)) := (((Below.refl w2.heap.size w2).alloc (Nat.le_refl _) (.cells #[.slice A2 (8 + r.length) k2] 40)).cell (p := ⟨gb, 0, none⟩) (Nat.lt_of_lt_of_le (blk_lt hbx) hb2.size)).trans hx2); (have HB2 := Lib.hid (And.intro hb2 ho2')); clear ho2 ho2' hb2 hg2 ho1 hb1 hr1 hl1 hb1s c0))
  obtain ⟨ge, hge⟩ : ∃ ge, ge = w2.heap.size := ⟨_, rfl⟩
  simp only [← hge]
  have hal0 := (Below.refl w2.heap.size w2).alloc (Nat.le_refl _) (.cells #[.slice A2 (8 + r.length) k2] 40)
  have hbe0 : (w2.alloc (.cells #[.slice A2 (8 + r.length) k2] 40)).heap[w2.heap.size]? = some (.cells #[.slice A2 (8 + r.length) k2] 40 (0, 0)) := heap_alloc_new w2 _
  have hsz3 : (w2.alloc (.cells #[.slice A2 (8 + r.length) k2] 40)).heap.size = w2.heap.size + 1 := by simp
  rw [← hge] at hbe0 hsz3
  obtain ⟨w3, hw3⟩ : ∃ w3, w3 = w2.alloc (.cells #[.slice A2 (8 + r.length) k2] 40) := ⟨_, rfl⟩
  rw [← hw3] at hal0 hbe0 hx3 hsz3 ⊢
  obtain ⟨fs, hfs⟩ : ∃ fs : Array Value, fs = #[.func (.func 42) #[] #[.pointer (some ⟨gb, 0, none⟩), .pointer (some ⟨ge, 0, none⟩)], .func (.func 44) #[.pointer (some ⟨nd, 0, none⟩)] #[], .func (.func 45) #[.pointer (some ⟨nd, 0, none⟩)] #[], .func (.func 46) #[.pointer (some ⟨nd, 0, none⟩)] #[]] := ⟨_, rfl⟩
  rw [← hfs]
  have hal1 := (Below.refl w3.heap.size w3).alloc (Nat.le_refl _) (.cells fs 90)
  have hbs : (w3.alloc (.cells fs 90)).heap[w3.heap.size]? = some (.cells fs 90 (0, 0)) := heap_alloc_new w3 _
  rw [hsz3] at hbs
  obtain ⟨wl, hwl⟩ : ∃ wl, wl = w3.alloc (.cells fs 90) := ⟨_, rfl⟩
  rw [← hwl] at hal1 hbs ⊢
  have hbl : Below w.heap.size w wl := by
    have h1 := HW.out.2.1
    have h2 := h1.trans (HB2.out.1.mono (Nat.le_of_lt HW.out.2.2))
    exact below_chain (below_chain h2 h2.size hal0) (Nat.le_trans h2.size hal0.size) hal1
  have hb2l : Below w2.heap.size w2 wl := below_chain hal0 hal0.size hal1
  have hgbl : gb < wl.heap.size ∧ w.heap.size ≤ gb := ⟨Nat.lt_of_lt_of_le (blk_lt hbx) (Nat.le_trans HB2.out.1.size hb2l.size), Nat.le_of_eq HW.out.1.symm⟩
  have hgel : ge < wl.heap.size ∧ w.heap.size ≤ ge := ⟨by have := hal1.size; omega, by have := HW.out.2.2; have := HB2.out.1.size; omega⟩
  have hbl1 := hal1.block ge (by omega)
  have hbel := hbl1.trans hbe0
  have hbxl := (hb2l.block gb (Nat.lt_of_lt_of_le (blk_lt hbx) HB2.out.1.size)).trans ((HB2.out.1.block gb (blk_lt hbx)).trans hbx)
  have hndl : NodeIs wl nd d cnt false := (hbl.block nd hlt).trans HN.out
  have hown : Own wl w0.heap.size (.slice A2 (8 + r.length) k2) (entryN r) := HB2.out.2.below hb2l
  have hdl : DiskAt wl F d m := HM.out.below hbl
  have HW0 := Lib.hid HW.out.2.2
  have HGE := Lib.hid (And.intro hgbl hgel)
  have HWL := Lib.hid hbl
  have HFL2 : Hid (∀ k, F k → k < wl.heap.size) := Lib.hid fun k hk => Nat.lt_of_lt_of_le (HFL.out k hk) hbl.size
  have CE : Hid (∀ W : World, Chg wl W F → W.cell? ⟨gb, 0, none⟩ = some (.pointer (some ⟨nd, 0, none⟩)) ∧ W.cell? ⟨ge, 0, none⟩ = some (.slice A2 (8 + r.length) k2) ∧ W.cell? ⟨ge + 1, 0, none⟩ = fs[0]? ∧ W.cell? ⟨ge + 1, 1, none⟩ = fs[1]? ∧ W.cell? ⟨ge + 1, 2, none⟩ = fs[2]? ∧ W.cell? ⟨ge + 1, 3, none⟩ = fs[3]? ∧ NodeIs W nd d cnt false) := Lib.hid fun W hW => by
    have f1 : ∀ k, w.heap.size ≤ k → ¬ F k := fun k hk h => by have := HFL.out k h; omega
    have g1 := (hW.block gb hgbl.1 (f1 gb hgbl.2)).trans hbxl
    have g2 := (hW.block ge hgel.1 (f1 ge hgel.2)).trans hbel
    have g3 := (hW.block (ge + 1) (blk_lt hbs) (f1 (ge + 1) (by omega))).trans hbs
    exact ⟨blk_cell g1 0, blk_cell g2 0, blk_cell g3 0, blk_cell g3 1, blk_cell g3 2, blk_cell g3 3, hndl.chg hW hFn⟩
  rw [hfs] at CE
  have HOWN : Hid (∀ W : World, Chg wl W F → RdF W (Ext F wl W) (.slice A2 (8 + r.length) k2) (entryN r)) := Lib.hid fun W hW => by
    have f1 : ∀ k, w.heap.size ≤ k → ¬ F k := fun k hk h => by have := HFL.out k h; omega
    have hb : ∀ k, (Value.slice A2 (8 + r.length) k2).ownBlock = some k → w0.heap.size ≤ k ∧ k < wl.heap.size := hown.lt
    refine ⟨RdF.chg (F := F) ⟨hown.rd, fun k h0 hk => f1 k (by have := hb k hk; have := HW0.out; omega)⟩ hW, fun k h0 hk => ?_⟩
    have h1 := hb k hk
    intro h
    rcases h with h | h
    · exact f1 k (by have := HW0.out; omega) h
    · omega
  have hP0 : PutAt w wl F d m r 0 wl := PutAt.zero hdl HG.out
  clear hal0 hal1 hbe0 hsz3 hw3 hbs hwl hbl hb2l hgbl hgel hbl1 hbel hbxl hndl hown hdl hge hx2 hx3 hbx hfs
  go_loopw [32] (fun i wr => ∃ k : Nat, i = .int .i64 (k : Int) ∧ PutAt w wl F d m r k wr) (fun i _ => 4 - (intOf i).toNat)
  case atStart => exact ⟨0, rfl, hP0⟩
  case round =>
    clear hP0
    obtain ⟨k, rfl, m', hk4, hcg, hdk, hpe, hgood, htot⟩ := hrel
    by_cases hlt4 : k < 4
    · obtain ⟨hcb, hce, hf0, hf1, hf2, hf3, hnd⟩ := CE.out wr hcg
      have hent := HOWN.out wr hcg
      have f1 : ∀ k, w.heap.size ≤ k → k < wl.heap.size → ¬ Ext F wl wr k := fun k hk hk2 h => by
        rcases h with h | h
        · have := HFL.out k h; omega
        · omega
      have hfb : ¬ Ext F wl wr gb := f1 gb HGE.out.1.2 HGE.out.1.1
      have hfe : ¬ Ext F wl wr ge := f1 ge HGE.out.2.2 HGE.out.2.1
      have hfn : ¬ Ext F wl wr nd := fun h => by
        rcases h with h | h
        · exact hFn h
        · have := HWL.out.size; omega
      have hgl : gb < wr.heap.size := Nat.lt_of_lt_of_le HGE.out.1.1 hcg.size
      have hel2 : ge < wr.heap.size := Nat.lt_of_lt_of_le HGE.out.2.1 hcg.size
      have hml : m'.files.length ≤ 1000 := by have := hgood.len; omega
      have hfl : ∀ f ∈ m'.files, f.data.length ≤ 1000000000 := fun f hf => by
        have h1 := totM_mem hf
        have h2 := HT.out
        have h3 : k * (9 + r.length) ≤ 4 * (9 + r.length) := Nat.mul_le_mul_right _ hk4
        omega
      clear f1
      obtain rfl | rfl | rfl | rfl : k = 0 ∨ k = 1 ∨ k = 2 ∨ k = 3 := by omega
      · have hst : putS r 0 m' = appendM m' sLog (entryN r) := (by unfold putS; rw [if_pos rfl])
        have HST : Hid (∀ (W : World), Chg wr W (Ext F wl wr) → DiskAt W (Ext (Ext F wl wr) wr W) d (putS r 0 m').2 → _) := Lib.hid (fun W a b => PutAt.step (w := w) HFL2.out (show 0 < 4 by omega) hcg hpe hgood htot a b)
        have hcall := addEntry_any hdk hnd hcb hgl hce hel2 hfn hfb hfe hent (by rw [entryN_length]; omega) hfl hml
        rw [← hst] at hcall
        have HC := Lib.hid hcall
        clear hcall hst hcg hpe hgood htot hdk hnd hcb hce hent hfl hml
        go_wp2_with fail
        refine HC.out.mono ?_
        rintro e w5 ⟨rfl, h5, hc5⟩
        obtain ⟨q1, q2, q3, q4⟩ := HST.out w5 hc5 h5
        clear h5 hc5 HC HST
        obtain ⟨b0, b1, b2, b3, b4, b5, b6⟩ := CE.out w5 q1
        by_cases hx : (putS r 0 m').1 = 0
        · have HX := Lib.hid (q3 hx)
          rw [hx]
          clear hx q1 q2 q3 q4
          go_wp2_with fail
          exact ⟨⟨1, rfl, HX.out⟩, by simp [intOf]⟩
        · have HX := Lib.hid (q4 hx)
          have j1 : ((putS r 0 m').1 != 0) = true := by simp [hx]
          have HXX := Lib.hid hx
          have HQ := Lib.hid (And.intro q1 q2)
          have n2 : w5.frozen? ⟨nd, 2, none⟩ = false := blk_free b6 2
          have n3 : w5.cell? ⟨nd, 2, none⟩ = some (.bool false) := blk_cell b6 2
          have HB6 := Lib.hid b6
          clear hx q1 q2 q3 q4 b6
          go_wp2_with fail
          go_ret
          obtain ⟨z1, z2⟩ := put_fin HFL.out HWL.out HQ.out.1 HQ.out.2 hlt hFn 2 (.bool true)
          unfold PutOk
          rw [if_neg (by decide), HX.out, if_neg HXX.out, if_neg HXX.out]
          exact ⟨rfl, z1, z2, by unfold NodeIs; rw [blk_set HB6.out]; rfl⟩
      · have hst : putS r 1 m' = syncM m' sLog := (by unfold putS; rw [if_neg (by omega), if_pos rfl])
        have HST : Hid (∀ (W : World), Chg wr W (Ext F wl wr) → DiskAt W (Ext (Ext F wl wr) wr W) d (putS r 1 m').2 → _) := Lib.hid (fun W a b => PutAt.step (w := w) HFL2.out (show 1 < 4 by omega) hcg hpe hgood htot a b)
        have hcall := syncLog_any hdk hnd
        rw [← hst] at hcall
        have HC := Lib.hid hcall
        clear hcall hst hcg hpe hgood htot hdk hnd hcb hce hent hfl hml
        go_wp2_with fail
        refine HC.out.mono ?_
        rintro e w5 ⟨rfl, h5, hc5⟩
        obtain ⟨q1, q2, q3, q4⟩ := HST.out w5 hc5 h5
        clear h5 hc5 HC HST
        obtain ⟨b0, b1, b2, b3, b4, b5, b6⟩ := CE.out w5 q1
        by_cases hx : (putS r 1 m').1 = 0
        · have HX := Lib.hid (q3 hx)
          rw [hx]
          clear hx q1 q2 q3 q4
          go_wp2_with fail
          exact ⟨⟨2, rfl, HX.out⟩, by simp [intOf]⟩
        · have HX := Lib.hid (q4 hx)
          have j1 : ((putS r 1 m').1 != 0) = true := by simp [hx]
          have HXX := Lib.hid hx
          have HQ := Lib.hid (And.intro q1 q2)
          have n2 : w5.frozen? ⟨nd, 2, none⟩ = false := blk_free b6 2
          have n3 : w5.cell? ⟨nd, 2, none⟩ = some (.bool false) := blk_cell b6 2
          have HB6 := Lib.hid b6
          clear hx q1 q2 q3 q4 b6
          go_wp2_with fail
          go_ret
          obtain ⟨z1, z2⟩ := put_fin HFL.out HWL.out HQ.out.1 HQ.out.2 hlt hFn 2 (.bool true)
          unfold PutOk
          rw [if_neg (by decide), HX.out, if_neg HXX.out, if_neg HXX.out]
          exact ⟨rfl, z1, z2, by unfold NodeIs; rw [blk_set HB6.out]; rfl⟩
      · have hst : putS r 2 m' = appendM m' sMarks [1] := (by unfold putS; rw [if_neg (by omega), if_neg (by omega), if_pos rfl])
        have HST : Hid (∀ (W : World), Chg wr W (Ext F wl wr) → DiskAt W (Ext (Ext F wl wr) wr W) d (putS r 2 m').2 → _) := Lib.hid (fun W a b => PutAt.step (w := w) HFL2.out (show 2 < 4 by omega) hcg hpe hgood htot a b)
        have hcall := addMark_any hdk hnd hfl hml
        rw [← hst] at hcall
        have HC := Lib.hid hcall
        clear hcall hst hcg hpe hgood htot hdk hnd hcb hce hent hfl hml
        go_wp2_with fail
        refine HC.out.mono ?_
        rintro e w5 ⟨rfl, h5, hc5⟩
        obtain ⟨q1, q2, q3, q4⟩ := HST.out w5 hc5 h5
        clear h5 hc5 HC HST
        obtain ⟨b0, b1, b2, b3, b4, b5, b6⟩ := CE.out w5 q1
        by_cases hx : (putS r 2 m').1 = 0
        · have HX := Lib.hid (q3 hx)
          rw [hx]
          clear hx q1 q2 q3 q4
          go_wp2_with fail
          exact ⟨⟨3, rfl, HX.out⟩, by simp [intOf]⟩
        · have HX := Lib.hid (q4 hx)
          have j1 : ((putS r 2 m').1 != 0) = true := by simp [hx]
          have HXX := Lib.hid hx
          have HQ := Lib.hid (And.intro q1 q2)
          have n2 : w5.frozen? ⟨nd, 2, none⟩ = false := blk_free b6 2
          have n3 : w5.cell? ⟨nd, 2, none⟩ = some (.bool false) := blk_cell b6 2
          have HB6 := Lib.hid b6
          clear hx q1 q2 q3 q4 b6
          go_wp2_with fail
          go_ret
          obtain ⟨z1, z2⟩ := put_fin HFL.out HWL.out HQ.out.1 HQ.out.2 hlt hFn 2 (.bool true)
          unfold PutOk
          rw [if_neg (by decide), HX.out, if_neg HXX.out, if_neg HXX.out]
          exact ⟨rfl, z1, z2, by unfold NodeIs; rw [blk_set HB6.out]; rfl⟩
      · have hst : putS r 3 m' = syncM m' sMarks := (by unfold putS; rw [if_neg (by omega), if_neg (by omega), if_neg (by omega)])
        have HST : Hid (∀ (W : World), Chg wr W (Ext F wl wr) → DiskAt W (Ext (Ext F wl wr) wr W) d (putS r 3 m').2 → _) := Lib.hid (fun W a b => PutAt.step (w := w) HFL2.out (show 3 < 4 by omega) hcg hpe hgood htot a b)
        have hcall := syncMarks_any hdk hnd
        rw [← hst] at hcall
        have HC := Lib.hid hcall
        clear hcall hst hcg hpe hgood htot hdk hnd hcb hce hent hfl hml
        go_wp2_with fail
        refine HC.out.mono ?_
        rintro e w5 ⟨rfl, h5, hc5⟩
        obtain ⟨q1, q2, q3, q4⟩ := HST.out w5 hc5 h5
        clear h5 hc5 HC HST
        obtain ⟨b0, b1, b2, b3, b4, b5, b6⟩ := CE.out w5 q1
        by_cases hx : (putS r 3 m').1 = 0
        · have HX := Lib.hid (q3 hx)
          rw [hx]
          clear hx q1 q2 q3 q4
          go_wp2_with fail
          exact ⟨⟨4, rfl, HX.out⟩, by simp [intOf]⟩
        · have HX := Lib.hid (q4 hx)
          have j1 : ((putS r 3 m').1 != 0) = true := by simp [hx]
          have HXX := Lib.hid hx
          have HQ := Lib.hid (And.intro q1 q2)
          have n2 : w5.frozen? ⟨nd, 2, none⟩ = false := blk_free b6 2
          have n3 : w5.cell? ⟨nd, 2, none⟩ = some (.bool false) := blk_cell b6 2
          have HB6 := Lib.hid b6
          clear hx q1 q2 q3 q4 b6
          go_wp2_with fail
          go_ret
          obtain ⟨z1, z2⟩ := put_fin HFL.out HWL.out HQ.out.1 HQ.out.2 hlt hFn 2 (.bool true)
          unfold PutOk
          rw [if_neg (by decide), HX.out, if_neg HXX.out, if_neg HXX.out]
          exact ⟨rfl, z1, z2, by unfold NodeIs; rw [blk_set HB6.out]; rfl⟩
    · obtain rfl : k = 4 := by omega
      obtain ⟨b0, b1, b2, b3, b4, b5, b6⟩ := CE.out wr hcg
      have he : putE r m = (0, m') := hpe
      have HX := Lib.hid (And.intro he (And.intro hcg hdk))
      have n1 : wr.cell? ⟨nd, 1, none⟩ = some (.int .i64 (cnt : Int)) := blk_cell b6 1
      have n2 : wr.frozen? ⟨nd, 1, none⟩ = false := blk_free b6 1
      have e1 : IntKind.i64.wrap ((cnt : Int) + 1) = ((cnt + 1 : Nat) : Int) := by rw [IntKind.wrap_i64]; omega
      have HB6 := Lib.hid b6
      clear hcg hdk hpe hgood htot b6 he
      go_wp2_with fail
      go_ret
      obtain ⟨z1, z2⟩ := put_fin HFL.out HWL.out HX.out.2.1 HX.out.2.2 hlt hFn 1 (.int .i64 ((cnt + 1 : Nat) : Int))
      unfold PutOk
      rw [if_neg (by decide), HX.out.1, if_pos rfl, if_pos rfl]
      exact ⟨rfl, z1, z2, by unfold NodeIs; rw [blk_set HB6.out]; rfl⟩
end Go.Proofs.Ytbbpkenbeenocaa
