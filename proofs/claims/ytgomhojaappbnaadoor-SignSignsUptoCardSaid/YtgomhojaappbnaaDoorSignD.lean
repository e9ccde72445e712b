/- The walks of the document's leaf, leaves, levels and root. -/
import Derived.Test.YtgomhojaappbnaaDoorSignC
namespace Go.Proofs.YtgomhojaappbnaaDoor
open Go Go.RowKit

set_option maxHeartbeats 4000000 in
theorem rleaf_any (key : Nat) (v : Value) (ls : List (List UInt8)) (B0 : Nat) (w : World) (hv : RowS w B0 v ls) (h1 : key ≤ 1000) (hls : ls.length ≤ 900) (fr : TypeId × Nat × Nat) (hk : w.heap[1]? = some (.cells kVals fr.1 fr.2)) :
    Calls Tryd.prog 29 #[.int .i64 (key : Int), v] w fun e w' => ∃ v', e = .returned v' ∧ Own w' w.heap.size v' (leafOf key ls) ∧ Below w.heap.size w w' := by
  have hn0 := blk_lt hk
  have HK := Lib.hid hk
  clear hk
  have N1 := Lib.hid (fun W : World => rn_any key W h1)
  obtain ⟨A, cc, rfl⟩ := hv.form
  go_enter Tryd.func29, Tryd.ntmps29
  go_wp2_with fail
  refine (refT_any (.slice none 0 0) leafWord [] w (Rd.nil _ _) (by unfold maxLen leafWord; decide) (by simp)).mono ?_
  rintro e w1 ⟨v1, rfl, ho1, hb1⟩
  replace ho1 : Own w1 w.heap.size v1 (formB (strBytes leafWord)) := ho1
  have hL : Hid (leafOf key ls = shaSum ((formB (strBytes leafWord) ++ formB (be key 8)) ++ formBs ls)) := Lib.hid (by rw [leafOf, List.append_assoc]; rfl)
  have hf1 : (formB (strBytes leafWord)).length ≤ 65539 := formB_length _
  have hf2 : (formB (be key 8)).length ≤ 65539 := formB_length _
  generalize formB (strBytes leafWord) = W1 at *
  go_wp2_with fail
  refine (N1.out _).mono ?_
  rintro e w2 ⟨v2, rfl, ho2, hb2⟩
  have hr1 := ho1.rd.up (Nat.le_refl _) hb2
  have hr2 := ho2.rd
  have hq2 := below_chain hb1 hb1.size hb2
  clear ho1 ho2 hb1 hb2
  go_wp2_with fail
  refine (refB_any v1 v2 _ _ w2 hr1 hr2 (by omega)).mono ?_
  rintro e w3 ⟨v3, rfl, ho3, hb3⟩
  have hq3 := below_chain hq2 hq2.size hb3
  replace ho3 : Own w3 w2.heap.size v3 (W1 ++ formB (be key 8)) := by rw [List.append_assoc] at ho3; exact ho3
  have ho4 := ho3.more hq2.size
  clear ho3 hb3 hr1 hr2 hq2
  generalize formB (be key 8) = W2 at *
  go_wp2_with fail
  go_loopw [5, 14] (fun bv i wr => ∃ k : Nat, k ≤ ls.length ∧ i = .int .i64 (k : Int) ∧ Own wr w.heap.size bv ((W1 ++ W2) ++ formBs (ls.take k)) ∧ Below w.heap.size w wr)
    (fun _ i _ => ls.length - (intOf i).toNat)
  case atStart => exact ⟨0, Nat.zero_le _, rfl, by simpa [formBs] using ho4, hq3⟩
  case round =>
    clear ho4 hq3
    obtain ⟨k, hk18, rfl, ho, hb⟩ := hrel
    have hfl := formBs_length (ls.take k)
    rw [List.length_take] at hfl
    have hll : ((W1 ++ W2) ++ formBs (ls.take k)).length ≤ 140737488355328 - 65539 := by rw [List.length_append, List.length_append]; omega
    by_cases hlt : k < ls.length
    · have i1 : (k : Int) < (ls.length : Int) := by omega
      have i0 : (0 : Int) ≤ (k : Int) := by omega
      have hvr := hv.up hb
      obtain ⟨b, o, x, rfl, -, hlb, hcx, hrx⟩ := hvr.at_ k hlt
      have HS := Lib.hid (formBs_succ ls k hlt)
      generalize ls[k] = lx at *
      clear hfl hvr
      generalize hX : (W1 ++ W2) ++ formBs (ls.take k) = X at *
      have HX := Lib.hid hX
      clear hX
      obtain ⟨Ax, kx, rfl⟩ := hrx.1.form
      obtain ⟨Ab, kb, rfl⟩ := ho.form
      go_wp2_with fail
      refine (refB_any _ _ X lx wr ho.rd hrx.1 hll).mono ?_
      rintro e w4 ⟨v4, rfl, ho4, hb4⟩
      have ho5 : Own w4 wr.heap.size v4 ((W1 ++ W2) ++ formBs (ls.take (k + 1))) := by
        rw [HS.out, ← List.append_assoc, HX.out]
        rw [List.append_assoc] at ho4
        exact ho4
      have ho6 := ho5.more hb.size
      have hb5 := below_chain hb hb.size hb4
      clear ho ho4 ho5 hb hb4 hrx hcx
      go_wp2_with fail
      go_roundw
      case rel => exact ⟨k + 1, by omega, by go_num, ho6, hb5⟩
      case measure => simp [intOf]; omega
    · have i1 : ¬ (k : Int) < (ls.length : Int) := by omega
      obtain rfl : k = ls.length := by omega
      rw [List.take_of_length_le (Nat.le_refl _)] at ho hll
      have hll2 : ((W1 ++ W2) ++ formBs ls).length ≤ 140737488355328 - 65539 := hll
      clear hfl hll
      generalize hX : (W1 ++ W2) ++ formBs ls = X at *
      have HX := Lib.hid hX
      clear hX
      obtain ⟨Ab, kb, rfl⟩ := ho.form
      go_wp2_with fail
      refine (rsum_any _ _ wr ho.rd (by omega) fr ((hb.block _ hn0).trans HK.out)).mono ?_
      rintro e w4 ⟨v4, rfl, ho4, hb4⟩
      go_wp2_with fail
      go_ret
      rw [hL.out]
      exact ⟨_, rfl, ho4.more hb.size, below_chain hb hb.size hb4⟩

set_option maxHeartbeats 4000000 in
theorem leaves_any (v : Value) (seed : List UInt8) (w : World) (hv : Rd w w.heap.size v seed) (fr : TypeId × Nat × Nat) (hk : w.heap[1]? = some (.cells kVals fr.1 fr.2)) :
    Calls Tryd.prog 20 #[v] w fun e w' => ∃ v', e = .returned v' ∧ OwnR w' w.heap.size w.heap.size v' (levL seed 0) ∧ Below w.heap.size w w' := by
  obtain ⟨i0, hi, hz, hsz, hby⟩ := info_parts Tryd.infoRow
  have hn0 := blk_lt hk
  have HK := Lib.hid hk
  clear hk
  obtain ⟨A, cc, rfl⟩ := hv.form
  go_enter Tryd.func20, Tryd.ntmps20
  go_wp2_with fail
  go_loopw [3, 4] (fun ov i wr => ∃ k : Nat, k ≤ 8 ∧ i = .int .i64 (k : Int) ∧ OwnR wr w.heap.size w.heap.size ov (rowL (leafS seed) k) ∧ Below w.heap.size w wr)
    (fun _ i _ => 8 - (intOf i).toNat)
  case atStart => exact ⟨0, Nat.zero_le _, rfl, OwnR.nil _ _ _, Below.refl _ _⟩
  case round =>
    rename World => wo
    obtain ⟨k, hk8, rfl, ho, hb⟩ := hrel
    by_cases hlt : k < 8
    · have i1 : (k : Int) < 8 := by omega
      obtain ⟨Ao, co, rfl⟩ := ho.form
      go_wp2_with fail
      go_loopw [5, 6] (fun ev i wr => ∃ c : Nat, c ≤ 18 ∧ i = .int .i64 (c : Int) ∧ OwnR wr w.heap.size wo.heap.size ev (rowL (endL seed k) c) ∧ Below wo.heap.size wo wr)
        (fun _ i _ => 18 - (intOf i).toNat)
      case atStart => exact ⟨0, Nat.zero_le _, rfl, OwnR.nil _ _ _, Below.refl _ _⟩
      case round =>
        obtain ⟨c, hc18, rfl, hoe, hbe⟩ := hrel
        have hq := below_chain hb hb.size hbe
        by_cases hltc : c < 18
        · have i2 : (c : Int) < 18 := by omega
          have hl1 : (rowL (endL seed k) c).length ≤ 1000 := by rw [rowL_length]; omega
          have hS : Hid (rowL (endL seed k) (c + 1) = rowL (endL seed k) c ++ [endL seed k c]) := Lib.hid rfl
          generalize rowL (endL seed k) c = L at *
          obtain ⟨Ae, ce, rfl⟩ := hoe.form
          go_wp2_with fail
          refine (rsecret_any _ seed k c wr (hv.up (Nat.le_refl _) hq) (by omega) (by omega) fr ((hq.block _ hn0).trans HK.out)).mono ?_
          rintro e w1 ⟨v1, rfl, ho1, hb1⟩
          have hq1 := below_chain hq hq.size hb1
          have hr1 : RdS w1 w.heap.size v1 (secretL seed k c) := ho1.rdS
          go_wp2_with fail
          refine (along_any v1 (secretL seed k c) c 0 15 w1 w.heap.size hr1 (by omega) (by omega) (by omega) fr ((hq1.block _ hn0).trans HK.out)).mono ?_
          rintro e w2 ⟨v2, rfl, hr2, hb2⟩
          replace hr2 : RdS w2 w.heap.size v2 (endL seed k c) := hr2
          have hq2 := below_chain hq1 hq1.size hb2
          have hw2 := below_chain (below_chain hbe hbe.size hb1) (Nat.le_trans hbe.size hb1.size) hb2
          have hoe2 := (hoe.up hb1).up hb2
          obtain ⟨A4, c4, rfl⟩ := hr2.1.form
          clear hoe hbe hb1 hb2 hq1 hq hr1 ho1
          generalize endL seed k c = l4 at *
          have hbx : Below w2.heap.size w2 (w2.alloc (.cells #[.slice A4 l4.length c4] 22)) := (Below.refl _ _).alloc (Nat.le_refl _) _
          have hc5 : (w2.alloc (.cells #[.slice A4 l4.length c4] 22)).cell? ⟨w2.heap.size, 0, none⟩ = some (.slice A4 l4.length c4) := blk_cell (heap_alloc_new w2 _) 0
          have hw3 := below_chain hw2 hw2.size hbx
          go_wp2_with (at_builtin; refine wpList_append_row rfl (.tmp 15) (.tmp 22) _ rfl i0 Tryd.underlying34 hi hz hsz hby rfl (hoe2.up hbx) rfl hc5 (hr2.up hbx) hb.size hl1 hw3.size ?_; intro v5 w5 ho5 hg5; have hq5 : Below wo.heap.size wo w5 := (hoe2.up hbx).below hw3 hw3.size hg5)
          go_roundw
          case rel => exact ⟨c + 1, by omega, by go_num, by rw [hS.out]; exact ho5, hq5⟩
          case measure => simp [intOf]; omega
        · have i2 : ¬ (c : Int) < 18 := by omega
          obtain rfl : c = 18 := by omega
          have hS : Hid (rowL (leafS seed) (k + 1) = rowL (leafS seed) k ++ [leafOf k (rowL (endL seed k) 18)]) := Lib.hid rfl
          have hl0 : (rowL (endL seed k) 18).length ≤ 900 := by rw [rowL_length]; omega
          have hl1 : (rowL (leafS seed) k).length ≤ 1000 := by rw [rowL_length]; omega
          have hrs := hoe.rowS
          generalize rowL (endL seed k) 18 = L at *
          generalize rowL (leafS seed) k = M at *
          obtain ⟨Ae, ce, rfl⟩ := hrs.form
          have ho2 := ho.up hbe
          clear hoe
          go_wp2_with fail
          refine (rleaf_any k _ L w.heap.size wr hrs (by omega) hl0 fr ((hq.block _ hn0).trans HK.out)).mono ?_
          rintro e w2 ⟨v2, rfl, hol, hb2⟩
          obtain ⟨A4, c4, rfl⟩ := hol.form' (leafOf_length k L)
          have hr2 : RdS w2 w.heap.size (.slice A4 32 c4) (leafOf k L) := hol.rdS
          have ho3 := ho2.up hb2
          have hq2 := below_chain hq hq.size hb2
          clear hol ho2 ho hrs hbe hb2 hq
          have hbx : Below w2.heap.size w2 (w2.alloc (.cells #[.slice A4 32 c4] 22)) := (Below.refl _ _).alloc (Nat.le_refl _) _
          have hc5 : (w2.alloc (.cells #[.slice A4 32 c4] 22)).cell? ⟨w2.heap.size, 0, none⟩ = some (.slice A4 32 c4) := blk_cell (heap_alloc_new w2 _) 0
          have hw3 := below_chain hq2 hq2.size hbx
          generalize leafOf k L = l4 at *
          go_wp2_with (at_builtin; refine wpList_append_row rfl (.tmp 24) (.tmp 28) _ rfl i0 Tryd.underlying34 hi hz hsz hby rfl (ho3.up hbx) rfl hc5 (hr2.up hbx) (Nat.le_refl _) hl1 hw3.size ?_; intro v5 w5 ho5 hg5; have hq5 : Below w.heap.size w w5 := (ho3.up hbx).below hw3 hw3.size hg5)
          go_roundw
          case rel => exact ⟨k + 1, by omega, by go_num, by rw [hS.out]; exact ho5, hq5⟩
          case measure => simp [intOf]; omega
    · have i1 : ¬ (k : Int) < 8 := by omega
      obtain rfl : k = 8 := by omega
      replace ho : OwnR wo w.heap.size w.heap.size u3 (levL seed 0) := ho
      obtain ⟨Ao, co, rfl⟩ := ho.form
      go_wp2_with fail
      go_ret
      exact ⟨_, rfl, ho, hb⟩
end Go.Proofs.YtgomhojaappbnaaDoor
