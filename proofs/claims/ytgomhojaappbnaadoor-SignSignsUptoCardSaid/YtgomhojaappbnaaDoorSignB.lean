/- The walks of package sign: a leaf out of what is known of each chain; the tree's own closure. -/
import Derived.Test.YtgomhojaappbnaaDoorSignP
namespace Go.Proofs.YtgomhojaappbnaaDoor
open Go Go.RowKit

set_option maxHeartbeats 4000000 in
theorem leafT_any (key : Nat) (p1 p2 : Value) (pl : Nat → Nat) (val : Nat → List UInt8) (w : World) (h1 : key ≤ 1000) (hpl : ∀ c, pl c ≤ 15) (fr : TypeId × Nat × Nat) (hk : w.heap[0]? = some (.cells kVals fr.1 fr.2))
    (hf : ∀ (c : Nat) (W : World), c < 18 → Below w.heap.size w W → Calls Tryd.prog 31 #[.int .i64 (c : Int), p1, p2] W fun e W' => ∃ v', e = .returned (.tuple #[.int .i64 (pl c : Int), v']) ∧ RdS W' w.heap.size v' (val c) ∧ Below W.heap.size W W') :
    Calls Tryd.prog 22 #[.int .i64 (key : Int), .func (.func 31) #[] #[p1, p2]] w fun e w' => ∃ v', e = .returned v' ∧ Own w' w.heap.size v' (leafOf key (rowL (fun c => walkL c (pl c) (15 - pl c) (val c)) 18)) ∧ Below w.heap.size w w' := by
  obtain ⟨i0, hi, hz, hsz, hby⟩ := info_parts Tryd.infoRow
  have hn0 := blk_lt hk
  have HK := Lib.hid hk
  have HF := Lib.hid hf
  have HP := Lib.hid hpl
  clear hk hf hpl
  have N1 := Lib.hid (fun W : World => number_any key W h1)
  go_enter Tryd.func22, Tryd.ntmps22
  go_wp2_with fail
  refine (N1.out _).mono ?_
  rintro e w1 ⟨v1, rfl, ho1, hb1⟩
  obtain ⟨A1, c1, rfl⟩ := ho1.form
  rw [be_length] at *
  have hr1 : RdS w1 w.heap.size (.slice A1 8 c1) (be key 8) := ho1.rdS
  have hO1 := (OwnR.one hr1).more hb1.size
  have hbx : Below w.heap.size w (w1.alloc (.cells #[.slice A1 8 c1] 22)) := hb1.alloc hb1.size _
  clear ho1 hr1
  go_wp2_with fail
  generalize w1.alloc (.cells #[.slice A1 8 c1] 22) = w2 at *
  go_loopw [5, 12] (fun pv i wr => ∃ k : Nat, k ≤ 18 ∧ i = .int .i64 (k : Int) ∧ OwnR wr w.heap.size w.heap.size pv (be key 8 :: rowL (fun c => walkL c (pl c) (15 - pl c) (val c)) k) ∧ Below w.heap.size w wr)
    (fun _ i _ => 18 - (intOf i).toNat)
  case atStart => exact ⟨0, Nat.zero_le _, rfl, hO1, hbx⟩
  case round =>
    clear hO1 hbx
    obtain ⟨k, hk18, rfl, ho, hb⟩ := hrel
    by_cases hlt : k < 18
    · have i1 : (k : Int) < 18 := by omega
      have hl1 : (be key 8 :: rowL (fun c => walkL c (pl c) (15 - pl c) (val c)) k).length ≤ 1000 := by rw [List.length_cons, rowL_length]; omega
      have hS : Hid (be key 8 :: rowL (fun c => walkL c (pl c) (15 - pl c) (val c)) (k + 1) = (be key 8 :: rowL (fun c => walkL c (pl c) (15 - pl c) (val c)) k) ++ [walkL k (pl k) (15 - pl k) (val k)]) := Lib.hid rfl
      generalize be key 8 :: rowL (fun c => walkL c (pl c) (15 - pl c) (val c)) k = L at *
      obtain ⟨Ap, cp, rfl⟩ := ho.form
      go_wp2_with fail
      refine (HF.out k wr hlt hb).mono ?_
      rintro e w3 ⟨v3, rfl, hr3, hb3⟩
      have q := HP.out k
      have hq3 := below_chain hb hb.size hb3
      go_wp2_with fail
      refine (walk_any v3 (val k) k (pl k) 15 w3 w.heap.size hr3 (by omega) (by omega) (by omega) fr ((hq3.block _ hn0).trans HK.out)).mono ?_
      rintro e w4 ⟨v4, rfl, hr4, hb4⟩
      have hq4 := below_chain hq3 hq3.size hb4
      have ho4 := (ho.up hb3).up hb4
      obtain ⟨A4, c4, rfl⟩ := hr4.1.form
      clear ho hb hb3 hb4 hr3 hq3
      generalize walkL k (pl k) (15 - pl k) (val k) = l4 at *
      have hbx : Below w4.heap.size w4 (w4.alloc (.cells #[.slice A4 l4.length c4] 22)) := (Below.refl _ _).alloc (Nat.le_refl _) _
      have hc5 : (w4.alloc (.cells #[.slice A4 l4.length c4] 22)).cell? ⟨w4.heap.size, 0, none⟩ = some (.slice A4 l4.length c4) := blk_cell (heap_alloc_new w4 _) 0
      go_wp2_with (at_builtin; refine wpList_append_row rfl (.tmp 21) (.tmp 26) _ rfl i0 Tryd.underlying34 hi hz hsz hby rfl (ho4.up hbx) rfl hc5 (hr4.up hbx) (Nat.le_refl _) hl1 (Nat.le_trans hq4.size hbx.size) ?_; intro v5 w5 ho5 hg5; have hq5 : Below w.heap.size w w5 := (ho4.up hbx).below (hq4.alloc hq4.size _) (Nat.le_trans hq4.size hbx.size) hg5)
      go_roundw
      case rel => exact ⟨k + 1, by omega, by go_num, by rw [hS.out]; exact ho5, hq5⟩
      case measure => simp [intOf]; omega
    · have i1 : ¬ (k : Int) < 18 := by omega
      obtain rfl : k = 18 := by omega
      have hHL : Hid (leafOf key (rowL (fun c => walkL c (pl c) (15 - pl c) (val c)) 18) = shaSum (formB (strBytes leafWord) ++ formBs (be key 8 :: rowL (fun c => walkL c (pl c) (15 - pl c) (val c)) 18))) := Lib.hid rfl
      have hl1 : (be key 8 :: rowL (fun c => walkL c (pl c) (15 - pl c) (val c)) 18).length ≤ 1000 := by rw [List.length_cons, rowL_length]; omega
      generalize be key 8 :: rowL (fun c => walkL c (pl c) (15 - pl c) (val c)) 18 = L at *
      have hp := ho.rowS.parts
      obtain ⟨Ap, cp, rfl⟩ := ho.form
      clear ho
      go_wp2_with fail
      refine (tagged_any leafWord _ L wr hp (by unfold maxLen leafWord; decide) hl1 fr ((hb.block _ hn0).trans HK.out)).mono ?_
      rintro e w4 ⟨v4, rfl, ho4, hb4⟩
      go_wp2_with fail
      go_ret
      rw [hHL.out]
      exact ⟨_, rfl, ho4.more hb.size, below_chain hb hb.size hb4⟩

set_option maxHeartbeats 1000000 in
theorem treeFn_any (b1 b2 : Nat) (v : Value) (seed : List UInt8) (key c : Nat) (w : World) (hv : Rd w w.heap.size v seed) (h1 : key ≤ 1000) (h2 : c ≤ 1000) (hc1 : w.cell? ⟨b1, 0, none⟩ = some v) (hc2 : w.cell? ⟨b2, 0, none⟩ = some (.int .i64 (key : Int))) (fr : TypeId × Nat × Nat) (hk : w.heap[0]? = some (.cells kVals fr.1 fr.2)) :
    Calls Tryd.prog 31 #[.int .i64 (c : Int), .pointer (some ⟨b1, 0, none⟩), .pointer (some ⟨b2, 0, none⟩)] w fun e w' => ∃ v', e = .returned (.tuple #[.int .i64 ((0 : Nat) : Int), v']) ∧ Own w' w.heap.size v' (secretL seed key c) ∧ Below w.heap.size w w' := by
  have hn0 := blk_lt hk
  have HK := Lib.hid hk
  clear hk
  obtain ⟨A, cc, rfl⟩ := hv.form
  go_enter Tryd.func31, Tryd.ntmps31
  go_wp2_with fail
  refine (secret_any _ seed key c w hv h1 h2 fr HK.out).mono ?_
  rintro e w1 ⟨v1, rfl, ho1, hb1⟩
  go_wp2_with fail
  go_ret2
  exact ⟨_, rfl, ho1, hb1⟩
end Go.Proofs.YtgomhojaappbnaaDoor
