/- The walk of the law: all of a set together are a quorum and more than a third; nobody is neither. -/
import Derived.Test.YtapfjkbbgamkoaaDoorValF
import Derived.Test.YtapfjkbbgamkoaaDoorValS
import Derived.Test.YtapfjkbbgamkoaaDoorValK
import Derived.LoopTactic
namespace Go.Proofs.YtapfjkbbgamkoaaDoor
open Go Go.RowKit

theorem keys_names (l : List VD) : keysOf (l.map VD.name) = l.map VD.key := by simp [keysOf, VD.key, Function.comp_def]

set_option maxHeartbeats 4000000 in
set_option maxRecDepth 100000 in
theorem full_walk (v : Value) (l : List VD) (w : World) (hv : ValsAt w w.heap.size v l) (hl : l.length ≤ 1048576) (fr : TypeId × Nat × Nat) (hk : w.heap[0]? = some (.cells kVals fr.1 fr.2)) :
    Calls Tryd.prog 9 #[v] w fun e w' => e = .returned (.bool true) ∧ Below w.heap.size w w' := by
  have hn0 := blk_lt hk
  obtain ⟨i0, hi, hz, hsz, hby⟩ := info_parts Tryd.infoStr
  have h0 := hv
  obtain ⟨A, c, rfl, hc, hcm, hf, hp⟩ := h0
  unfold maxLen at hcm
  have HP := Lib.hid hp
  have HF := Lib.hid hf
  clear hp hf
  obtain ⟨b, hbr⟩ : ∃ b, b = rightB l := ⟨_, rfl⟩
  have hR : ∀ v W, ValsAt W W.heap.size v l → Calls Tryd.prog 11 #[v] W fun e w' => e = .returned (.bool b) ∧ Below W.heap.size W w' := by
    rw [hbr]; exact fun v W h => right_any v l W h
  have hQ : ∀ v vs W, ValsAt W W.heap.size v l → StrsAt W W.heap.size vs (l.map VD.name) → Calls Tryd.prog 17 #[v, vs] W fun e w' => e = .returned (.bool b) ∧ Below W.heap.size W w' := by
    rw [hbr, ← quorum_all l, ← keys_names]; exact fun v vs W h hs => quorum_any v vs l (l.map VD.name) W h hs
  have hT : ∀ v vs W, ValsAt W W.heap.size v l → StrsAt W W.heap.size vs (l.map VD.name) → Calls Tryd.prog 19 #[v, vs] W fun e w' => e = .returned (.bool b) ∧ Below W.heap.size W w' := by
    rw [hbr, ← third_all l, ← keys_names]; exact fun v vs W h hs => third_any v vs l (l.map VD.name) W h hs
  have hQ0 : ∀ v W, ValsAt W W.heap.size v l → Calls Tryd.prog 17 #[v, .slice none 0 0] W fun e w' => e = .returned (.bool false) ∧ Below W.heap.size W w' := by
    rw [← quorum_nil l]; exact fun v W h => quorum_any v (.slice none 0 0) l [] W h (StrsAt.nil _ _)
  have hT0 : ∀ v W, ValsAt W W.heap.size v l → Calls Tryd.prog 19 #[v, .slice none 0 0] W fun e w' => e = .returned (.bool false) ∧ Below W.heap.size W w' := by
    rw [← third_nil l]; exact fun v W h => third_any v (.slice none 0 0) l [] W h (StrsAt.nil _ _)
  have hV0 : ∀ v W, ValsAt W W.heap.size v l → Calls Tryd.prog 15 #[v, .slice none 0 0] W fun e w' => e = .returned (.int .u64 0) ∧ Below W.heap.size W w' := by
    intro v W h
    have := voted_any v (.slice none 0 0) l [] W h (StrsAt.nil _ _)
    rw [show votedN l (keysOf []) = 0 from voted_nil l] at this
    exact this
  have HR := Lib.hid hR
  have HQ := Lib.hid hQ
  have HT := Lib.hid hT
  have HQ0 := Lib.hid hQ0
  have HT0 := Lib.hid hT0
  have HV0 := Lib.hid hV0
  clear hR hQ hT hQ0 hT0 hV0
  have hl' := hl
  obtain ⟨n, hn⟩ : ∃ n, n = l.length := ⟨_, rfl⟩
  have HN := Lib.hid hn
  rw [← hn] at hc hl' hv ⊢
  clear hn hbr
  go_enter Tryd.func9, Tryd.ntmps9
  go_wp2
  go_loopw [3, 8] (fun v3 i wr => ∃ k : Nat, k ≤ n ∧ i = .int .i64 (k : Int) ∧ OwnS wr w.heap.size v3 ((l.take k).map VD.name) ∧ Below w.heap.size w wr)
    (fun _ i _ => n - (intOf i).toNat)
  case atStart => exact ⟨0, Nat.zero_le _, rfl, OwnS.nil _ _, Below.refl _ _⟩
  case round =>
    obtain ⟨k, hk2, rfl, ho, hb⟩ := hrel
    by_cases hlt : k < n
    · obtain ⟨b', o, rfl, hbl, hcell⟩ := HP.out (by have := HN.out; omega)
      have hkl : k < l.length := by have := HN.out; omega
      have hat := hcell k hkl
      have c0 := (hb.cell (p := ⟨b', o + k * 2, none⟩) hbl).trans hat.1
      have c1 := (hb.cell (p := ⟨b', o + k * 2 + 1, none⟩) hbl).trans hat.2
      have hsx := (HF.out _ (List.getElem_mem hkl)).1
      have hpw := (HF.out _ (List.getElem_mem hkl)).2
      have HS := Lib.hid (show (l.take (k + 1)).map VD.name = (l.take k).map VD.name ++ [l[k].name] from by rw [List.take_succ_eq_append_getElem hkl, List.map_append]; rfl)
      have hlen : ((l.take k).map VD.name).length ≤ k := by rw [List.length_map, List.length_take]; omega
      have hbx := val_box hb l[k]
      have hz1 : (wr.alloc (.cells #[.string l[k].name, .int .u64 (l[k].power : Int)] 40)).heap.size = wr.heap.size + 1 := by simp
      have hst := strs_one (wr.alloc (.cells #[.string l[k].name, .int .u64 (l[k].power : Int)] 40)) l[k].name hsx
      have hox := (ho.alloc (.cells #[.string l[k].name, .int .u64 (l[k].power : Int)] 40)).alloc (.cells #[.string l[k].name] 9)
      have hby2 := hbx.alloc hbx.size (.cells #[.string l[k].name] 9)
      rw [hz1] at hst
      have HST := Lib.hid hst
      clear hcell HP hat hz1 hst ho hb hbx
      generalize l[k] = x at *
      generalize (l.take k).map VD.name = L at *
      have i1 : (0 : Int) ≤ (k : Int) := by omega
      have i2 : (k : Int) < (n : Int) := by omega
      go_wp2_with (at_builtin; refine wpList_append_strs rfl (.tmp 12) (.tmp 15) 23 rfl i0 Tryd.underlying23 hi hz hsz hby rfl hox rfl HST.out (by simp only [List.length_cons, List.length_nil]; omega) hby2.size ?_; intro v4 w4 ho4 hg4 _)
      have hb4 : Below w.heap.size w w4 := OwnS.below_grown hby2 hox (Nat.le_refl _) hby2.size hg4
      rw [← HS.out] at ho4
      clear hg4 hox hby2 HST
      go_roundw
      case rel => exact ⟨k + 1, by omega, by go_num, ho4, hb4⟩
      case measure => simp [intOf]; omega
    · have i2 : ¬ (k : Int) < (n : Int) := by omega
      have he : l.take k = l := List.take_of_length_le (by have := HN.out; omega)
      rw [he] at ho
      clear he HP HF
      have hs0 := ho.strs
      obtain ⟨A3, c3, hu3⟩ := ho.form
      rw [List.length_map, ← HN.out] at hu3
      subst hu3
      clear ho

      go_wp2_with fail
      refine (fixed_any wr fr ((hb.block 0 hn0).trans hk)).mono ?_
      rintro e wc1 ⟨rfl, hc1⟩
      have hq1 := below_chain hb hb.size hc1
      have hs1x := hs0.up (Nat.le_refl _) hc1
      clear hc1 hb hs0
      go_wp2_with fail
      refine (HQ.out _ _ _ (hv.up (Nat.le_refl _) hq1) hs1x).mono ?_
      rintro e wc2 ⟨rfl, hc2⟩
      have hq2 := below_chain hq1 hq1.size hc2
      have hs2x := hs1x.up (Nat.le_refl _) hc2
      clear hc2 hq1 hs1x
      go_wp2_with fail
      refine (HR.out _ _ (hv.up (Nat.le_refl _) hq2)).mono ?_
      rintro e wc3 ⟨rfl, hc3⟩
      have hq3 := below_chain hq2 hq2.size hc3
      have hs3x := hs2x.up (Nat.le_refl _) hc3
      clear hc3 hq2 hs2x
      go_wp2_with fail
      refine (HT.out _ _ _ (hv.up (Nat.le_refl _) hq3) hs3x).mono ?_
      rintro e wc4 ⟨rfl, hc4⟩
      have hq4 := below_chain hq3 hq3.size hc4
      have hs4x := hs3x.up (Nat.le_refl _) hc4
      clear hc4 hq3 hs3x
      go_wp2_with fail
      refine (HR.out _ _ (hv.up (Nat.le_refl _) hq4)).mono ?_
      rintro e wc5 ⟨rfl, hc5⟩
      have hq5 := below_chain hq4 hq4.size hc5
      have hs5x := hs4x.up (Nat.le_refl _) hc5
      clear hc5 hq4 hs4x
      go_wp2_with fail
      refine (HQ0.out _ _ (hv.up (Nat.le_refl _) hq5)).mono ?_
      rintro e wc6 ⟨rfl, hc6⟩
      have hq6 := below_chain hq5 hq5.size hc6
      have hs6x := hs5x.up (Nat.le_refl _) hc6
      clear hc6 hq5 hs5x
      go_wp2_with fail
      refine (HT0.out _ _ (hv.up (Nat.le_refl _) hq6)).mono ?_
      rintro e wc7 ⟨rfl, hc7⟩
      have hq7 := below_chain hq6 hq6.size hc7
      have hs7x := hs6x.up (Nat.le_refl _) hc7
      clear hc7 hq6 hs6x
      go_wp2_with fail
      refine (HV0.out _ _ (hv.up (Nat.le_refl _) hq7)).mono ?_
      rintro e wc8 ⟨rfl, hc8⟩
      have hq8 := below_chain hq7 hq7.size hc8
      have hs8x := hs7x.up (Nat.le_refl _) hc8
      clear hc8 hq7 hs7x
      go_wp2_with fail
      go_ret
      exact ⟨by simp, hq8⟩
end Go.Proofs.YtapfjkbbgamkoaaDoor
