
/- The walks of the steps of Put. -/
import Derived.Test.YtbbpkenbeenocaaNodeC
import Derived.Test.YtbbpkenbeenocaaDiskG0
import Derived.Test.YtbbpkenbeenocaaWireN
import Derived.Deep.RegionHeldLaw
namespace Go.Proofs.Ytbbpkenbeenocaa
set_option maxRecDepth 100000
open Go Go.RowKit
set_option linter.unusedVariables false
variable {w : World} {F : Nat → Prop} {d : Nat} {m : DM}

/-- what a step of Put answers -/
def StepOk (w : World) (F : Nat → Prop) (d : Nat) (r : Int × DM) (e : Ending) (w' : World) : Prop :=
  e = .returned (.int .i64 r.1) ∧ DiskAt w' (Ext F w w') d r.2 ∧ Chg w w' F
theorem NodeIs.c0 {nd cnt : Nat} {bad : Bool} (h : NodeIs w nd d cnt bad) : w.cell? ⟨nd, 0, none⟩ = some (.pointer (some ⟨d, 0, none⟩)) := blk_cell h 0
theorem NodeIs.chg {w' : World} {nd cnt : Nat} {bad : Bool} (h : NodeIs w nd d cnt bad) (hc : Chg w w' F) (hn : ¬ F nd) : NodeIs w' nd d cnt bad := (hc.block nd (blk_lt h) hn).trans h

theorem syncLog_any (h : DiskAt w F d m) {nd cnt : Nat} {bad : Bool} (hn : NodeIs w nd d cnt bad) :
    Calls Try.prog 44 #[.pointer (some ⟨nd, 0, none⟩)] w (StepOk w F d (syncM m sLog)) := by
  have c0 := hn.c0
  have H0 := Lib.hid h
  clear h hn
  go_enter Try.func44, Try.ntmps44
  go_wp2_with fail
  refine (sync_any H0.out sLog).mono ?_
  rintro e w1 ⟨rfl, h1, hc1⟩
  have HX := Lib.hid (And.intro (h1.mono (G := Ext F w w1) (fun _ => .inl) (Ext.lt H0.out.lt hc1.size)) hc1)
  clear h1 hc1
  go_wp2_with fail
  go_ret
  exact ⟨rfl, HX.out⟩
theorem syncMarks_any (h : DiskAt w F d m) {nd cnt : Nat} {bad : Bool} (hn : NodeIs w nd d cnt bad) :
    Calls Try.prog 46 #[.pointer (some ⟨nd, 0, none⟩)] w (StepOk w F d (syncM m sMarks)) := by
  have c0 := hn.c0
  have H0 := Lib.hid h
  clear h hn
  go_enter Try.func46, Try.ntmps46
  go_wp2_with fail
  refine (sync_any H0.out sMarks).mono ?_
  rintro e w1 ⟨rfl, h1, hc1⟩
  have HX := Lib.hid (And.intro (h1.mono (G := Ext F w w1) (fun _ => .inl) (Ext.lt H0.out.lt hc1.size)) hc1)
  clear h1 hc1
  go_wp2_with fail
  go_ret
  exact ⟨rfl, HX.out⟩
theorem addMark_any (h : DiskAt w F d m) {nd cnt : Nat} {bad : Bool} (hn : NodeIs w nd d cnt bad) (hlen : ∀ f ∈ m.files, f.data.length ≤ 1000000000) (hml : m.files.length ≤ 1000) :
    Calls Try.prog 45 #[.pointer (some ⟨nd, 0, none⟩)] w (StepOk w F d (appendM m sMarks [1])) := by
  have c0 := hn.c0
  have hz := h.lt
  have HAL := Lib.hid (Chg.alloc w F (.cells (bcells [1]).toArray 5))
  have H1 := Lib.hid (h.al (.cells (bcells [1]).toArray 5))
  have HRD := Lib.hid (RdF.lit (w := w) hz (bcells [1]).toArray [1] 1 rfl rfl (by unfold maxLen; omega))
  have HZ := Lib.hid hz
  have HLN := Lib.hid hlen
  clear h hn hlen hz
  go_enter Try.func45, Try.ntmps45
  go_wp2_with fail
  refine (append_any H1.out sMarks (by decide) [1] _ HRD.out (fun f hf => by have := HLN.out f hf; simp; omega) (by simp) hml).mono ?_
  rintro e w1 ⟨rfl, h1, hc1⟩
  have HX := Lib.hid (And.intro (h1.mono (G := Ext F w w1) (fun k hk => hk.imp id fun h => ⟨Nat.le_trans HAL.out.size h.1, h.2⟩) (Ext.lt HZ.out (Nat.le_trans HAL.out.size hc1.size))) (HAL.out.trans' hc1))
  clear h1 hc1
  go_wp2_with fail
  go_ret
  exact ⟨rfl, HX.out⟩

theorem addEntry_any (h : DiskAt w F d m) {nd cnt gb ge : Nat} {bad : Bool} (hn : NodeIs w nd d cnt bad) {ev : Value} {en : List UInt8} (hb : w.cell? ⟨gb, 0, none⟩ = some (.pointer (some ⟨nd, 0, none⟩))) (hbl : gb < w.heap.size) (he : w.cell? ⟨ge, 0, none⟩ = some ev) (hel : ge < w.heap.size)
    (hFn : ¬ F nd) (hFb : ¬ F gb) (hFe : ¬ F ge) (hr : RdF w F ev en) (hen : en.length ≤ 1000000000) (hlen : ∀ f ∈ m.files, f.data.length ≤ 1000000000) (hml : m.files.length ≤ 1000) :
    Calls Try.prog 42 #[.pointer (some ⟨gb, 0, none⟩), .pointer (some ⟨ge, 0, none⟩)] w (StepOk w F d (appendM m sLog en)) := by
  have hce : ∀ W : World, Chg w W F → W.cell? ⟨gb, 0, none⟩ = some (.pointer (some ⟨nd, 0, none⟩)) ∧ W.cell? ⟨nd, 0, none⟩ = some (.pointer (some ⟨d, 0, none⟩)) ∧ W.cell? ⟨ge, 0, none⟩ = some ev := fun W hW =>
    ⟨(World.cell?_of_block (hW.block gb hbl hFb)).trans hb, (World.cell?_of_block (hW.block nd (blk_lt hn) hFn)).trans hn.c0, (World.cell?_of_block (hW.block ge hel hFe)).trans he⟩
  have CE := Lib.hid hce
  have HR := Lib.hid (show RdF w.drew F ev en from hr)
  have H0 := Lib.hid (h.below (Below.refl _ _).drew)
  have hd1 : Chg w w.drew F := Chg.drew w F
  have HLN := Lib.hid hlen
  obtain ⟨Ae, ce, rfl⟩ := hr.1.form
  have HML := Lib.hid hml
  have HZ := Lib.hid h.lt
  clear hce hr h hn hb he hbl hel hlen hml
  go_enter Try.func42, Try.ntmps42
  go_wp2_with fail
  go_region_held_law (fun W => W.cell? ⟨gb, 0, none⟩ = some (.pointer (some ⟨nd, 0, none⟩)) ∧ W.cell? ⟨nd, 0, none⟩ = some (.pointer (some ⟨d, 0, none⟩)) ∧ W.cell? ⟨ge, 0, none⟩ = some (.slice Ae en.length ce))
    (first | exact CE.out _ hc1 | exact CE.out _ hd1)
    (first
      | (go_at_call 43; refine (append_any H0.out sLog (by decide) en _ HR.out (fun f hf => by have := HLN.out f hf; omega) (by omega) HML.out).mono ?_; rintro e w1 ⟨rfl, h1, hc1'⟩; have hc1 : Chg w w1 F := hd1.trans' hc1'))
  all_goals
    have HX := Lib.hid (And.intro (show DiskAt w1 (Ext F w w1) d _ from h1) hc1)
    clear h1 hc1 hc1'
    go_wp2_with fail
    go_ret
    exact ⟨rfl, HX.out⟩
end Go.Proofs.Ytbbpkenbeenocaa
