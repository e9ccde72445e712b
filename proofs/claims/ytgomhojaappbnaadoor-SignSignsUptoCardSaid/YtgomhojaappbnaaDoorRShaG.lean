/- The walk of the document's sum of a word and parts. -/
import Derived.Test.YtgomhojaappbnaaDoorShaG
import Derived.Test.YtgomhojaappbnaaDoorRShaM
import Derived.Test.YtgomhojaappbnaaDoorRefB
namespace Go.Proofs.YtgomhojaappbnaaDoor
open Go.RowKit

set_option maxHeartbeats 1000000 in
theorem rtagged_any (word : ByteArray) (v : Value) (ps : List (List UInt8)) (w : World) (hv : Parts w w.heap.size v ps) (hsm : word.size ≤ maxLen) (hn : ps.length ≤ 1000) (fr : TypeId × Nat × Nat) (hk : w.heap[1]? = some (.cells kVals fr.1 fr.2)) :
    Calls Tryd.prog 30 #[.string word, v] w fun e w' => ∃ v', e = .returned v' ∧ Own w' w.heap.size v' (shaSum (formB (strBytes word) ++ formBs ps)) ∧ Below w.heap.size w w' := by
  have hn0 := blk_lt hk
  obtain ⟨A, c, rfl, hp⟩ := hv
  go_enter Tryd.func30, Tryd.ntmps30
  go_wp2_with fail
  refine (refT_any (.slice none 0 0) word [] w (Rd.nil _ _) hsm (by simp)).mono ?_
  rintro e w1 ⟨v1, rfl, ho1, hb1⟩
  replace ho1 : Own w1 w.heap.size v1 (formB (strBytes word)) := ho1
  have HP := Lib.hid hp
  clear hp
  generalize hW : formB (strBytes word) = W at *
  have hWl : W.length ≤ 65539 := by rw [← hW]; exact formB_length _
  have HW := Lib.hid hW
  clear hW
  go_wp2
  go_loopw [5, 12] (fun v5 i wr => ∃ t : Nat, t ≤ ps.length ∧ i = .int .i64 (t : Int) ∧ Own wr w.heap.size v5 (W ++ formBs (ps.take t)) ∧ Below w.heap.size w wr)
    (fun _ i _ => ps.length - (intOf i).toNat)
  case atStart => exact ⟨0, Nat.zero_le _, rfl, by simpa [formBs] using ho1, hb1⟩
  case round =>
    clear ho1 hb1
    obtain ⟨t, ht, rfl, ho, hb⟩ := hrel
    have hfl := formBs_length (ps.take t)
    rw [List.length_take] at hfl
    by_cases hlt : t < ps.length
    · obtain ⟨b, o, rfl, hbl, hcell⟩ := HP.out (by omega)
      obtain ⟨x, e, hx⟩ := hcell t hlt
      have e2 := (hb.cell (p := ⟨b, o + t, none⟩) hbl).trans e
      have hx2 : Rd wr wr.heap.size x ps[t] := (hx.below hb).more hb.size
      have HN := Lib.hid (formBs_succ ps t hlt)
      clear hcell HP e hx
      generalize ps[t] = p at *
      have hrd := ho.rd
      have i1 : (0 : Int) ≤ (t : Int) := by omega
      have i2 : (t : Int) < (ps.length : Int) := by omega
      go_wp2_with fail
      refine (refB_any u5 x _ p wr hrd hx2 (by rw [List.length_append]; omega)).mono ?_
      rintro e w3 ⟨v3, rfl, ho3, hb3⟩
      have ho4 : Own w3 wr.heap.size v3 (W ++ formBs (ps.take (t + 1))) := by
        rw [HN.out, ← List.append_assoc]
        rw [List.append_assoc] at ho3
        exact ho3
      have ho5 := ho4.more hb.size
      have hb5 := below_chain hb hb.size hb3
      clear ho ho3 ho4 hb hb3 hrd
      go_wp2
      go_roundw
      case rel => exact ⟨t + 1, by omega, by go_num, ho5, hb5⟩
      case measure => simp [intOf]; omega
    · have hte : t = ps.length := by omega
      have i2 : ¬ (t : Int) < (ps.length : Int) := by omega
      rw [hte, List.take_of_length_le (Nat.le_refl _)] at ho
      have hrd := ho.rd
      clear hte HP
      go_wp2_with fail
      refine (rsum_any u5 _ wr hrd (by rw [List.length_append]; have := formBs_length ps; omega) fr ((hb.block _ hn0).trans hk)).mono ?_
      rintro e w3 ⟨v3, rfl, ho3, hb3⟩
      go_wp2_with fail
      go_ret
      rw [HW.out]
      exact ⟨v3, rfl, ho3.more hb.size, below_chain hb hb.size hb3⟩
end Go.Proofs.YtgomhojaappbnaaDoor
