/- The walk of the law's fixed answers about a disk. -/
import Derived.Test.YtcnooafnifpbaaaDiskF
namespace Go.Proofs.Ytcnooafnifpbaaa
open Go Go.RowKit

theorem RdF.lit {w : World} {F : Nat → Prop} (hF : ∀ k, F k → k < w.heap.size) (cs : Array Value) (l : List UInt8) (n : Nat) (hn : n = l.length) (h : cs = (bcells l).toArray) (hm : n ≤ maxLen) :
    RdF (w.alloc (.cells cs 5)) F (.slice (some ⟨w.heap.size, 0, none⟩) n n) l := by
  refine ⟨(rd_lit w cs l n hn h hm).more (by simp), fun k _ hk hFk => ?_⟩
  simp only [Value.ownBlock, Option.some.injEq] at hk
  have := hF k hFk
  omega

def sA : ByteArray := ⟨#[97]⟩
def sB : ByteArray := ⟨#[98]⟩
def fixM (data : List UInt8) (safe : Nat) : DM := ⟨[⟨sA, data, safe⟩], false, 0⟩
theorem fix1 : appendM ⟨[], false, 0⟩ sA [1, 2] = (0, fixM [1, 2] 0) := rfl
theorem fix2 : syncM (fixM [1, 2] 0) sA = (0, fixM [1, 2] 2) := rfl
theorem fix3 : appendM (fixM [1, 2] 2) sA [3, 4, 5] = (0, fixM [1, 2, 3, 4, 5] 2) := rfl
theorem fix4 : crashM (fixM [1, 2, 3, 4, 5] 2).files [false, true] = [(sA, [1, 2, 0, 4])] := rfl
theorem fix5 : waitM (fixM [1, 2, 3, 4, 5] 2).files = 3 := rfl
theorem fix6 : syncM (fixM [1, 2, 3, 4, 5] 2) sB = (50, fixM [1, 2, 3, 4, 5] 2) := rfl

variable {w w' : World} {F : Nat → Prop} {d : Nat} {m : DM} {B : Nat}
theorem DiskAt.al (h : DiskAt w F d m) (o : Obj) : DiskAt (w.alloc o) F d m := h.below ((Below.refl _ _).alloc (Nat.le_refl _) _)

theorem RdL.lit (w : World) (cs : Array Value) (l : List Bool) (n : Nat) (hn : n = l.length) (h : cs = (l.map Value.bool).toArray) (hm : n ≤ maxLen) : RdL (w.alloc (.cells cs 4)) (w.heap.size + 1) (.slice (some ⟨w.heap.size, 0, none⟩) n n) l := by
  subst hn; subst h
  refine ⟨_, _, rfl, Nat.le_refl _, hm, fun _ => ⟨w.heap.size, 0, rfl, by omega, fun j hj => ?_⟩⟩
  rw [blk_cell (heap_alloc_new w _)]
  simp [List.getElem?_eq_getElem hj]

/-- one call on a disk that lies in blocks from B on, W being the world at the call: where it lies then -/
theorem DiskAt.next {W w0 : World} (hF : ∀ k, F k → B ≤ k) (hb : Below B w0 W) (hB : B ≤ W.heap.size) (hc : Chg W w' F) : (∀ k, Ext F W w' k → B ≤ k) ∧ Below B w0 w' ∧ B ≤ w'.heap.size :=
  ⟨Ext.ge hF hB, hb.trans (hc.below hF hB), Nat.le_trans hB hc.size⟩
set_option maxHeartbeats 1000000 in
theorem fixed_any (w : World) : Calls Try.prog 12 #[] w fun e w' => e = .returned (.bool true) ∧ Below w.heap.size w w' := by
  go_enter Try.func12, Try.ntmps12
  go_wp2_with fail
  refine (new_any _ (fun _ => False)).mono ?_
  rintro e w1 ⟨rfl, h1, hb1⟩
  have hB1 := hb1
  obtain ⟨d, hd⟩ : ∃ d, d = w.heap.size := ⟨_, rfl⟩
  rw [← hd] at h1 hb1 hB1 ⊢
  have HD := Lib.hid hd
  clear hd
  have hs1 : d ≤ w1.heap.size := Nat.le_of_lt (h1.lt d rfl)
  have hF1 : ∀ k, (fun k => k = d) k → d ≤ k := fun k hk => Nat.le_of_eq hk.symm
  generalize (fun k => k = d) = F1 at *
  go_wp2_with fail
  obtain ⟨hz, hs1'⟩ : Below d w (w1.alloc (.cells (bcells [1, 2]).toArray 5)) ∧ d ≤ (w1.alloc (.cells (bcells [1, 2]).toArray 5)).heap.size := ⟨hB1.alloc hs1 _, by simp; omega⟩
  refine (append_any (h1.al _) sA (by decide) [1, 2] _ (RdF.lit h1.lt _ _ 2 rfl rfl (by unfold maxLen; omega)) (by simp) (by simp) (by simp)).mono ?_
  rintro e w2 ⟨rfl, h2, hc2⟩
  rw [fix1] at h2 ⊢
  obtain ⟨hF2, hB2, hs2⟩ := DiskAt.next hF1 hz hs1' hc2
  generalize Ext F1 _ w2 = F2 at *
  clear hc2 hz hs1' h1 hB1 hb1
  go_wp2_with fail
  refine (sync_any h2 sA).mono ?_
  rintro e w3 ⟨rfl, h3, hc3⟩
  rw [fix2] at h3 ⊢
  have hB3 := hB2.trans (hc3.below hF2 hs2)
  have hs3 := Nat.le_trans hs2 hc3.size
  clear hc3 hB2 h2
  go_wp2_with fail
  obtain ⟨hz, hs3'⟩ : Below d w (w3.alloc (.cells (bcells [3, 4, 5]).toArray 5)) ∧ d ≤ (w3.alloc (.cells (bcells [3, 4, 5]).toArray 5)).heap.size := ⟨hB3.alloc hs3 _, by simp; omega⟩
  refine (append_any (h3.al _) sA (by decide) [3, 4, 5] _ (RdF.lit h3.lt _ _ 3 rfl rfl (by unfold maxLen; omega)) (by simp [fixM]) (by simp) (by simp [fixM])).mono ?_
  rintro e w4 ⟨rfl, h4, hc4⟩
  rw [fix3] at h4 ⊢
  obtain ⟨hF4, hB4, hs4⟩ := DiskAt.next hF2 hz hs3' hc4
  generalize Ext F2 _ w4 = F4 at *
  clear hc4 hz hs3' h3 hB3 hs3
  go_wp2_with fail
  have hz : Below d w (w4.alloc (.cells #[.bool false, .bool true] 4)) := hB4.alloc hs4 _
  refine (crash_any (h4.al _) _ [false, true] ((RdL.lit w4 _ [false, true] 2 rfl rfl (by unfold maxLen; omega)).more (by simp)) (by decide) (by simp [fixM])).mono ?_
  rintro e w5 ⟨v5, rfl, ho5, hb5⟩
  rw [fix4] at ho5
  have h5 := (h4.al _).below hb5
  have hB5 := hz.trans (hb5.mono (by simp; omega))
  have hs5 : d ≤ w5.heap.size := Nat.le_trans (by simp; omega) hb5.size
  obtain ⟨A5, c5, rfl⟩ := ho5.form
  clear hb5 hz h4 hB4
  go_wp2_with fail
  refine (waiting_any h5 (by decide)).mono ?_
  rintro e w6 ⟨rfl, hb6⟩
  rw [fix5]
  have h6 := h5.below hb6
  have ho6 := ho5.below hb6
  have hB6 := hB5.trans (hb6.mono hs5)
  have hs6 := Nat.le_trans hs5 hb6.size
  obtain ⟨g, o, dv, rfl, hg, k0, k1, ho⟩ := ho6.at_ 0 (by decide)
  have hstr := fun W B (h : Rd W B dv [1, 2, 0, 4]) => run_str (P := Try.prog) (src := 32) (dst := 9) Try.underlying32 Try.underlying5 Try.isString h
  have hs := hstr w6 _ ho.rd
  clear h5 ho5 hB5 hb6 ho6 hstr
  simp at k0 k1
  change _ = some (Value.string ⟨#[97]⟩) at k0
  go_wp2_with fail
  refine (sync_any h6 sB).mono ?_
  rintro e w7 ⟨rfl, h7, hc7⟩
  rw [fix6]
  have hB7 := hB6.trans (hc7.below hF4 hs6)
  clear hs k0 k1
  go_wp2_with fail
  go_ret
  exact ⟨rfl, by rw [← HD.out]; exact hB7⟩
end Go.Proofs.Ytcnooafnifpbaaa
