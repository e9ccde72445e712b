
/- The walk of package sha: the last bytes of a message. -/
import Derived.Test.YtohnhdandkkonaaDoorShaT
import Derived.Test.YtohnhdandkkonaaDoorPart
import Derived.Test.YtohnhdandkkonaaDoorWireN
import Derived.Test.YtohnhdandkkonaaDoorTac
import Derived.Deep.RegionHeldLaw
namespace Go.Proofs.YtohnhdandkkonaaDoor
set_option maxRecDepth 100000
open Go.RowKit

/-- how long the filled-up rest is -/
def fullOf (n : Nat) : Nat := (n + 72) / 64 * 64
def pad (l : List UInt8) (size : Nat) : List UInt8 := over ((over (List.replicate (fullOf l.length) 0) 0 l).set l.length 128) (fullOf l.length - 8) (be (8 * size % 18446744073709551616) 8)
theorem fullOf_le (n : Nat) : n + 9 ≤ fullOf n ∧ fullOf n ≤ n + 72 := by unfold fullOf; omega
theorem pad_length (l : List UInt8) (size : Nat) : (pad l size).length = fullOf l.length := by
  have := fullOf_le l.length
  unfold pad
  have h1 : (over (List.replicate (fullOf l.length) 0) 0 l).length = fullOf l.length := by rw [over_length (by simp; omega)]; simp
  rw [over_length (by rw [be_length, List.length_set, h1]; omega), List.length_set, h1]

set_option maxHeartbeats 1000000 in
theorem tail_any (v : Value) (l : List UInt8) (size : Nat) (w : World) (hr : Rd w w.heap.size v l) (hl : l.length ≤ 140737488355000) (hs : size < 9223372036854775808) :
    Calls Tryd.prog 61 #[v, .int .i64 (size : Int)] w fun e w' => ∃ v', e = .returned v' ∧ Own w' w.heap.size v' (pad l size) ∧ Below w.heap.size w w' := by
  obtain ⟨i0, hi, hz, hsz, hby⟩ := info_parts Tryd.infoByte
  obtain ⟨A, c, rfl⟩ := hr.form
  go_enter Tryd.func61, Tryd.ntmps61
  go_wp2_with (
    first
      | (
        at_make
        have hF : ((l.length : Int) + 1 + 8 + 64 - 1) / 64 * 64 = (fullOf l.length : Int) := by unfold fullOf; omega
        rw [hF]
        clear hF
        have hfl := fullOf_le l.length
        have HP := Lib.hid (show pad l size = over ((over (List.replicate (fullOf l.length) 0) 0 l).set l.length 128) (fullOf l.length - 8) (be (8 * size % 18446744073709551616) 8) from rfl)
        have HPL := Lib.hid (pad_length l size)
        generalize fullOf l.length = F at *
        refine wpList_make_zero rfl (.tmp 15) (.tmp 15) 29 rfl Tryd.underlying29 i0 hi hz hsz hby F rfl rfl (by omega) ?_
        intro hb0
        have hbw0 : Below w.heap.size w (w.alloc (.cells (bcells (List.replicate F 0)).toArray 5)) := (Below.refl _ _).alloc (Nat.le_refl _) _
        have hr0 : Rd (w.alloc (.cells (bcells (List.replicate F 0)).toArray 5)) w.heap.size _ l := hr.below hbw0
        have hsz0 : (w.alloc (.cells (bcells (List.replicate F 0)).toArray 5)).heap.size = w.heap.size + 1 := by simp
        generalize w.alloc (.cells (bcells (List.replicate F 0)).toArray 5) = w0 at *
        obtain ⟨g, hg⟩ : ∃ g, g = w.heap.size := ⟨_, rfl⟩
        rw [← hg] at hb0 hsz0 hbw0
        simp only [← hg]
        rw [← hg] at hr0
        have HG := Lib.hid hg
        clear hg hr)
      | (
        with_reducible refine at_copy ?_
        refine wpList_copy_part rfl (.tmp 17) (.tmp 18) 29 rfl Tryd.underlying29 Tryd.sizeByte rfl rfl hr0 hb0 (by omega) (by simp; omega) ?_
        intro w1 hb1 hbw1 hsz1 _
        have hbx : Below g w w1 := hbw0.trans (hbw1 g (Nat.le_refl _))
        have hlen : (over (List.replicate F 0) 0 l).length = F := by rw [over_length (by simp; omega)]; simp
        have i1 : (0 : Int) ≤ (l.length : Int) := by omega
        have i2 : (l.length : Int) < (F : Int) := by omega
        have hc := hb1.cell l.length (by omega)
        have hfz := hb1.free l.length
        have hst := hb1.set l.length 128
        clear hbw1 hb0 hr0 hbw0))
  have hbz : Below g w (w1.setCell ⟨g, l.length, none⟩ (.int .u8 128)) := hbx.setCell (Nat.le_refl _) _
  replace hst : Blk (w1.setCell ⟨g, l.length, none⟩ (.int .u8 128)) g ((over (List.replicate F 0) 0 l).set l.length 128) := hst
  have hsz2 : (w1.setCell ⟨g, l.length, none⟩ (.int .u8 128)).heap.size = w1.heap.size := by simp
  generalize w1.setCell ⟨g, l.length, none⟩ (.int .u8 128) = w2 at *
  have hlen2 : ((over (List.replicate F 0) 0 l).set l.length 128).length = F := by rw [List.length_set, hlen]
  generalize (over (List.replicate F 0) 0 l).set l.length 128 = M at *
  clear hc hfz hbx hb1 hlen
  have c8 : IntKind.i64.wrap ((F : Int) - 8) = ((F - 8 : Nat) : Int) := by rw [IntKind.wrap_i64]; omega
  have c11 : IntKind.u64.wrap (size : Int) = (size : Int) := by rw [IntKind.wrap_u64]; omega
  have c12 : IntKind.u64.wrap (8 * (size : Int)) = ((8 * size % 18446744073709551616 : Nat) : Int) := by rw [IntKind.wrap_u64]; omega
  have c13 : (8 * size % 18446744073709551616 : Nat) < 18446744073709551616 := by omega
  generalize hns : (8 * size % 18446744073709551616 : Nat) = ns at *
  clear hns
  have c9 : (0 : Int) ≤ ((F - 8 : Nat) : Int) := by omega
  have c10 : ((F - 8 : Nat) : Int) ≤ (F : Int) := by omega
  have c14 : F - (F - 8) = 8 := by omega
  have c15 : ¬ F = F - 8 := by omega
  have hN := fun W : World => N_any (.slice none 0 0) [] ns W (Rd.nil _ _) c13 (by simp)
  have hbl := be_length
  go_region_held_law (fun _ => True) (trivial)
    (first
      | (go_at_call 51; refine (hN _).mono ?_; rintro e w3 ⟨v3, rfl, ho3, hb3⟩)
      | (rw [if_pos (by rfl)]; refine wp_copy_part (.tmp 27) (.tmp 31) 29 rfl Tryd.underlying29 Tryd.sizeByte rfl rfl (Own.rd' ho3 rfl) (Blk.below (w := w2.drew) hst hb3) (Nat.le_of_eq (be_length _ _)) (by rw [hlen2]; rw [List.nil_append, be_length]; omega) ?_; intro w4 hb4 hbw4 hs4 _))
  go_wp2
  go_ret
  have e : pad l size = over M (F - 8) ([] ++ be ns 8) := HP.out
  have hL := HPL.out
  refine ⟨_, rfl, ?_, ?_⟩
  · rw [e] at hL ⊢
    have h5 := hb4.own (B := w.heap.size) (Nat.le_of_eq HG.out.symm) (by simp only [maxLen]; omega)
    rw [hL] at h5
    exact h5
  · rw [← HG.out]
    exact (below_chain hbz.drew (Nat.le_of_lt hst.lt) hb3).trans (hbw4 g (Nat.le_refl _))
end Go.Proofs.YtohnhdandkkonaaDoor
