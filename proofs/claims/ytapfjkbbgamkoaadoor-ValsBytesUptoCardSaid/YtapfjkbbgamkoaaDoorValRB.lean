/- The walks of the document's bytes and hash of a list. -/
import Derived.Test.YtapfjkbbgamkoaaDoorValB
import Derived.Test.YtapfjkbbgamkoaaDoorRefN
import Derived.Test.YtapfjkbbgamkoaaDoorRShaG
import Derived.LoopTactic
import Derived.Deep.RegionHeldLaw
namespace Go.Proofs.YtapfjkbbgamkoaaDoor
open Go Go.RowKit

set_option maxHeartbeats 4000000 in
set_option maxRecDepth 100000 in
theorem rbytesV_any (v : Value) (l : List VD) (w : World) (hv : ValsAt w w.heap.size v l) (hl : l.length ≤ 1048576) :
    Calls Tryd.prog 22 #[v] w fun e w' => ∃ v', e = .returned v' ∧ Own w' w.heap.size v' (bytesV l) ∧ Below w.heap.size w w' := by
  obtain ⟨i0, hi, hz, hsz, hby⟩ := info_parts Tryd.infoByte
  obtain ⟨A, c, rfl, hc, hcm, hf, hp⟩ := hv
  unfold maxLen at hcm
  have HP := Lib.hid hp
  have HF := Lib.hid hf
  clear hp hf
  unfold bytesV
  obtain ⟨n, hn⟩ : ∃ n, n = l.length := ⟨_, rfl⟩
  have HN := Lib.hid hn
  rw [← hn] at hc hl ⊢
  clear hn
  have hbl := be_length n 8
  obtain ⟨W, hW⟩ : ∃ W, W = be n 8 := ⟨_, rfl⟩
  rw [← hW] at hbl ⊢
  have HW := Lib.hid hW
  clear hW
  go_enter Tryd.func22, Tryd.ntmps22
  go_wp2_with fail
  refine (refN_any (.slice none 0 0) [] n w (Rd.nil _ _) (by omega) (by simp)).mono ?_
  rintro e w1 ⟨v1, rfl, ho1, hb1⟩
  replace ho1 : Own w1 w.heap.size v1 (be n 8) := ho1
  rw [← HW.out] at ho1
  go_wp2
  go_loopw [3, 12] (fun v3 i wr => ∃ k : Nat, k ≤ n ∧ i = .int .i64 (k : Int) ∧ Own wr w.heap.size v3 (W ++ formVs (l.take k)) ∧ Below w.heap.size w wr)
    (fun _ i _ => n - (intOf i).toNat)
  case atStart => exact ⟨0, Nat.zero_le _, rfl, by simpa [formVs] using ho1, hb1⟩
  case round =>
    clear ho1 hb1
    obtain ⟨k, hk, rfl, ho, hb⟩ := hrel
    have hfl := formVs_length (l.take k)
    rw [List.length_take] at hfl
    by_cases hlt : k < n
    · obtain ⟨b, o, rfl, hbl2, hcell⟩ := HP.out (by have := HN.out; omega)
      have hkl : k < l.length := by have := HN.out; omega
      have hat := hcell k hkl
      have c0 := (hb.cell (p := ⟨b, o + k * 2, none⟩) hbl2).trans hat.1
      have c1 := (hb.cell (p := ⟨b, o + k * 2 + 1, none⟩) hbl2).trans hat.2
      have hfit := HF.out _ (List.getElem_mem hkl)
      have HS := Lib.hid (formVs_succ l k hkl)
      have hsx := hfit.1
      have hpw := hfit.2
      have hll : (W ++ formVs (l.take k)).length ≤ 8 + k * 65547 := by rw [List.length_append, hbl]; omega
      clear hcell HP hat hfit hfl
      generalize l[k] = x at *
      obtain ⟨L, hL⟩ : ∃ L, L = W ++ formVs (l.take k) := ⟨_, rfl⟩
      rw [← hL] at ho hll
      have HL := Lib.hid hL
      clear hL
      have i1 : (0 : Int) ≤ (k : Int) := by omega
      have i2 : (k : Int) < (n : Int) := by omega
      go_wp2
      have hBx : BoxS wr.heap.size w.heap.size w x u3 L (wr.alloc (.cells #[.string x.name, .int .u64 (x.power : Int)] 40)) :=
        ⟨⟨blk_cell (heap_alloc_new wr _) 0, blk_cell (heap_alloc_new wr _) 1⟩, by simp, ho.alloc _, val_box hb x, by have := hb.size; simp; omega, fun e => Nat.lt_irrefl _ (ho.lt _ e).2⟩
      generalize wr.alloc (.cells #[.string x.name, .int .u64 (x.power : Int)] 40) = wb at *
      generalize wr.heap.size = g at *
      clear c0 c1 ho hb
      have hrx : Rd wb.drew wb.drew.heap.size u3 L := hBx.drew.2.2.1.rd
      go_region_held_law (fun w' => w'.cell? ⟨g, 0, none⟩ = some (.string x.name) ∧ w'.cell? ⟨g, 1, none⟩ = some (.int .u64 (x.power : Int)))
        (first | exact hBx.drew.c | exact hB3.c | exact hB5.c)
        (first
          | (go_at_call 36; refine (refT_any u3 x.name L _ hrx hsx (by omega)).mono ?_; rintro e w3 ⟨v3, rfl, ho3, hb3⟩; have hB3 := BoxS.below hBx.drew hb3)
          | (go_at_call 35; refine (refN_any v3 _ x.power _ ho3.rd hpw (by simp only [List.length_append, be_length, List.length_take]; omega)).mono ?_; rintro e w5 ⟨v5, rfl, ho5, hb5⟩; have hB5 := BoxS.below hB3 hb5))
      all_goals
        have hb6 : Below w.heap.size w w5 := hB5.2.2.2.1
        have ho6 := ho5.more hB3.2.2.2.2.1
        rw [show L ++ be ((strBytes x.name).take 65535).length 4 ++ (strBytes x.name).take 65535 ++ be x.power 8 = W ++ formVs (l.take (k + 1)) from by rw [HL.out, HS.out]; simp only [formV, List.append_assoc]] at ho6
        clear hB5 hB3 hBx ho5 ho3
        go_wp2
        go_roundw
        case rel => exact ⟨k + 1, by omega, by go_num, ho6, hb6⟩
        case measure => simp [intOf]; omega
    · have i2 : ¬ (k : Int) < (n : Int) := by omega
      have he : l.take k = l := List.take_of_length_le (by have := HN.out; omega)
      rw [he] at ho
      clear he
      go_wp2
      go_ret
      exact ⟨_, rfl, ho, hb⟩

set_option maxHeartbeats 1000000 in
theorem rhashV_any (v : Value) (l : List VD) (w : World) (hv : ValsAt w w.heap.size v l) (hl : l.length ≤ 1048576) (fr : TypeId × Nat × Nat) (hk : w.heap[1]? = some (.cells kVals fr.1 fr.2)) :
    Calls Tryd.prog 24 #[v] w fun e w' => ∃ v', e = .returned v' ∧ Own w' w.heap.size v' (shaSum (formB (strBytes valsWord) ++ formBs [bytesV l])) ∧ Below w.heap.size w w' := by
  have hn0 := blk_lt hk
  obtain ⟨L, hL⟩ : ∃ L, L = bytesV l := ⟨_, rfl⟩
  have hB := rbytesV_any v l w hv hl
  rw [← hL] at hB ⊢
  clear hL
  have HB := Lib.hid hB
  clear hB
  obtain ⟨A, c, rfl⟩ := hv.form
  go_enter Tryd.func24, Tryd.ntmps24
  go_wp2_with fail
  refine HB.out.mono ?_
  rintro e w1 ⟨v1, rfl, ho1, hb1⟩
  obtain ⟨A1, c1, rfl⟩ := ho1.form
  go_wp2_with fail
  have hp := parts1 w1 _ L 30 ho1.rd
  have hbx : Below w.heap.size w (w1.alloc (.cells #[.slice A1 L.length c1] 30)) := hb1.alloc hb1.size _
  generalize w1.alloc (.cells #[.slice A1 L.length c1] 30) = w2 at *
  refine (rtagged_any valsWord _ [L] w2 hp (by unfold maxLen valsWord; decide) (by simp) fr ((hbx.block _ hn0).trans hk)).mono ?_
  rintro e w3 ⟨v3, rfl, ho3, hb3⟩
  go_wp2_with fail
  go_ret
  exact ⟨_, rfl, ho3.more hbx.size, below_chain hbx hbx.size hb3⟩
end Go.Proofs.YtapfjkbbgamkoaaDoor
