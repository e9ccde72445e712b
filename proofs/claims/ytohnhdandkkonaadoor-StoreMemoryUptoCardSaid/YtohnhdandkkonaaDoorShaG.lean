
/- The walk of package sha: the sum of a word and parts. -/
import Derived.Test.YtohnhdandkkonaaDoorShaM
import Derived.Test.YtohnhdandkkonaaDoorWireT
import Derived.Test.YtohnhdandkkonaaDoorWireB
namespace Go.Proofs.YtohnhdandkkonaaDoor
set_option maxRecDepth 100000
open Go.RowKit

/-- bytes with their length ahead -/
def formB (m : List UInt8) : List UInt8 := be (m.take 65535).length 4 ++ m.take 65535
def formBs (ps : List (List UInt8)) : List UInt8 := ps.flatMap formB
theorem formB_length (m : List UInt8) : (formB m).length ≤ 65539 := by simp [formB, be_length]; omega
theorem formBs_length (ps : List (List UInt8)) : (formBs ps).length ≤ 65539 * ps.length := by
  induction ps with
  | nil => simp [formBs]
  | cons p ps ih => have := formB_length p; simp only [formBs, List.flatMap_cons, List.length_append, List.length_cons] at *; omega
theorem formBs_succ (ps : List (List UInt8)) (t : Nat) (h : t < ps.length) : formBs (ps.take (t + 1)) = formBs (ps.take t) ++ formB ps[t] := by
  unfold formBs
  rw [List.take_add_one, List.flatMap_append, List.getElem?_eq_getElem h]
  simp

/-- the slice value v holds slices that read as the rows ps -/
def Parts (w : World) (B : Nat) (v : Value) (ps : List (List UInt8)) : Prop :=
  ∃ A c, v = .slice A ps.length c ∧ (0 < ps.length → ∃ b o, A = some ⟨b, o, none⟩ ∧ b < B ∧ ∀ j (h : j < ps.length), ∃ x, w.cell? ⟨b, o + j, none⟩ = some x ∧ Rd w B x ps[j])

set_option maxHeartbeats 1000000 in
theorem tagged_any (word : ByteArray) (v : Value) (ps : List (List UInt8)) (w : World) (hv : Parts w w.heap.size v ps) (hsm : word.size ≤ maxLen) (hn : ps.length ≤ 1000) (fr : TypeId × Nat × Nat) (hk : w.heap[2]? = some (.cells kVals fr.1 fr.2)) :
    Calls Tryd.prog 37 #[.string word, v] w fun e w' => ∃ v', e = .returned v' ∧ Own w' w.heap.size v' (shaSum (formB (strBytes word) ++ formBs ps)) ∧ Below w.heap.size w w' := by
  have hn0 := blk_lt hk
  obtain ⟨i0, hi, hz, hsz, hby⟩ := info_parts Tryd.infoByte
  obtain ⟨A, c, rfl, hp⟩ := hv
  go_enter Tryd.func37, Tryd.ntmps37
  go_wp2_with fail
  refine (T_any (.slice none 0 0) word [] w (Rd.nil _ _) hsm (by simp)).mono ?_
  rintro e w1 ⟨v1, rfl, ho1, hb1⟩
  replace ho1 : Own w1 w.heap.size v1 (formB (strBytes word)) := ho1
  have HP := Lib.hid hp
  clear hp
  generalize hW : formB (strBytes word) = W at *
  have hWl : W.length ≤ 65539 := by rw [← hW]; exact formB_length _
  have HW := Lib.hid hW
  clear hW
  go_wp2
  go_loopw [5, 12] (fun v5 i wr => ∃ t : Nat, t ≤ ps.length ∧ i = .int .i64 (t : Int) ∧ Own wr w.heap.size v5 (W ++ formBs (ps.take t)) ∧ Below w.heap.size w wr)
    (fun _ i _ => ps.length - (intOf i).toNat)
  case atStart => exact ⟨0, Nat.zero_le _, rfl, by simpa [formBs] using ho1, hb1⟩
  case round =>
    clear ho1 hb1
    obtain ⟨t, ht, rfl, ho, hb⟩ := hrel
    have hfl := formBs_length (ps.take t)
    by_cases hlt : t < ps.length
    · obtain ⟨b, o, rfl, hbl, hcell⟩ := HP.out (by omega)
      obtain ⟨x, e, hx⟩ := hcell t hlt
      have e2 := (hb.cell (p := ⟨b, o + t, none⟩) hbl).trans e
      have hx2 : Rd wr wr.heap.size x ps[t] := (hx.below hb).more hb.size
      have HN := Lib.hid (formBs_succ ps t hlt)
      clear hcell HP e hx
      generalize ps[t] = p at *
      have i1 : (0 : Int) ≤ (t : Int) := by omega
      have i2 : (t : Int) < (ps.length : Int) := by omega
      go_wp2_with fail
      refine (B_any (.slice none 0 0) x [] p wr (Rd.nil _ _) hx2 (by simp)).mono ?_
      rintro e w3 ⟨v3, rfl, ho3, hb3⟩
      replace ho3 : Own w3 wr.heap.size v3 (formB p) := ho3
      have ho4 := ho.below hb3
      have hb4 : Below w.heap.size w w3 := below_chain hb hb.size hb3
      have hfp := formB_length p
      rw [List.length_take] at hfl
      clear ho hb hb3
      go_wp2_with (at_builtin; refine wpList_append_rd rfl (.tmp 16) (.tmp 18) _ rfl i0 Tryd.underlying29 hi hz hsz hby rfl ho4 rfl ho3.rd (by rw [List.length_append]; omega) hb4.size ?_; intro v5 w5 ho5 hg5 _)
      have hb5 : Below w.heap.size w w5 := Own.below_grown hb4 ho4 (Nat.le_refl _) hb4.size hg5
      rw [List.append_assoc, ← HN.out] at ho5
      clear hg5 ho4 ho3
      go_roundw
      case rel => exact ⟨t + 1, by omega, by go_num, ho5, hb5⟩
      case measure => simp [intOf]; omega
    · have hte : t = ps.length := by omega
      have i2 : ¬ (t : Int) < (ps.length : Int) := by omega
      rw [List.length_take] at hfl
      rw [hte, List.take_of_length_le (Nat.le_refl _)] at ho hfl
      have hrd := ho.rd
      clear hte HP
      go_wp2_with fail
      refine (sum_any u5 _ wr hrd (by rw [List.length_append]; omega) fr ((hb.block _ hn0).trans hk)).mono ?_
      rintro e w3 ⟨v3, rfl, ho3, hb3⟩
      go_wp2_with fail
      go_ret
      rw [HW.out]
      exact ⟨v3, rfl, ho3.more hb.size, below_chain hb hb.size hb3⟩
end Go.Proofs.YtohnhdandkkonaaDoor
