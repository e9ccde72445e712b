/- The walk of the law: the sum of any bytes; what was handed in stays; the sum is new memory. -/
import Derived.Test.YtcopllgfcdiheaaDoorShaF
import Derived.Test.YtcopllgfcdiheaaDoorRShaM
import Derived.Test.YtcopllgfcdiheaaDoorSame
import Derived.LoopTactic
namespace Go.Proofs.YtcopllgfcdiheaaDoor
open Go.RowKit

theorem grown_set (w : World) (g i : Nat) (u : Value) : w.grownBy (w.setCell ⟨g, i, none⟩ u) (some g) :=
  ⟨rfl, rfl, rfl, by simp, fun k _ hk => Below.heap_setCell w _ _ k (by rintro rfl; exact hk rfl)⟩
theorem Rd.first {w : World} {B n c : Nat} {A : Option Addr} {l : List UInt8} (h : Rd w B (.slice A n c) l) (k : Nat) (hk : k ≤ n) : Rd w B (.slice A k c) (l.take k) := by
  obtain ⟨A', c', hv, hlc, hcm, hp⟩ := h
  injection hv with h1 h2 h3
  subst h1; subst h2; subst h3
  have hl : (l.take k).length = k := by rw [List.length_take]; omega
  refine ⟨A, c, by rw [hl], by omega, hcm, fun h0 => ?_⟩
  obtain ⟨b, o, e, hb, hcell⟩ := hp (by omega)
  refine ⟨b, o, e, hb, fun j hj => ?_⟩
  rw [hcell j (by omega)]
  simp

set_option maxHeartbeats 4000000 in
set_option maxRecDepth 100000 in
theorem sums_walk (v : Value) (b : List UInt8) (w : World) (hb : Rd w w.heap.size v b) (hl : b.length ≤ 1048576)
    (fr : TypeId × Nat × Nat) (hk : w.heap[0]? = some (.cells kVals fr.1 fr.2)) (fr2 : TypeId × Nat × Nat) (hk2 : w.heap[1]? = some (.cells kVals fr2.1 fr2.2)) :
    Calls Tryd.prog 3 #[v] w fun e w' => e = .returned (.bool true) ∧ Below w.heap.size w w' := by
  have hn0 := blk_lt hk
  have hn1 := blk_lt hk2
  obtain ⟨i0, hi, hz, hsz, hby⟩ := info_parts Tryd.infoByte
  obtain ⟨A, c, rfl⟩ := hb.form
  have hbe : Below w.heap.size w (w.alloc (.cells #[] 5)) := (Below.refl _ _).alloc (Nat.le_refl _) _
  have hemp := own_empty w (Nat.le_refl _)
  obtain ⟨W, hW⟩ : ∃ W, W = b ++ [91, 92, 93] := ⟨_, rfl⟩
  have hWl : W.length = b.length + 3 := by rw [hW]; simp
  have hWt : W.take b.length = b := by rw [hW]; simp
  have HW := Lib.hid hW
  have HWT := Lib.hid hWt
  obtain ⟨S, hS⟩ : ∃ S, S = shaSum b := ⟨_, rfl⟩
  have hSl : S.length = 32 := by rw [hS]; exact shaSum_length b
  have HS := Lib.hid hS
  clear hW hWt hS
  go_enter Tryd.func3, Tryd.ntmps3
  go_wp2_with (at_builtin; first
    | (refine wpList_append_rd rfl (.tmp 10) (.tmp 11) _ rfl i0 Tryd.underlying22 hi hz hsz hby rfl hemp rfl (hb.below hbe) (by simp; omega) hbe.size ?_; intro v1 w1 ho1 hg1 _
       have hb1 : Below w.heap.size w w1 := Own.below_grown hbe hemp (Nat.le_refl _) hbe.size hg1
       rw [List.nil_append] at ho1
       clear hg1 hbe hemp)
    | (refine wpList_append_rd rfl (.tmp 12) (.tmp 13) _ rfl i0 Tryd.underlying22 hi hz hsz hby rfl (ho1.alloc _) rfl (rd_lit w1 _ [91, 92, 93] 3 rfl (by simp [bcells, bval]) (by simp [maxLen])) (by simp; omega) (by have := hb1.size; simp; omega) ?_; intro v2 w2 ho2 hg2 _
       have hb2 : Below w.heap.size w w2 := Own.below_grown (hb1.alloc hb1.size _) (ho1.alloc _) (Nat.le_refl _) (by have := hb1.size; simp; omega) hg2
       rw [← HW.out] at ho2
       have hemp2 := own_empty w2 (Nat.le_refl _)
       have hbe2 : Below w2.heap.size w2 (w2.alloc (.cells #[] 5)) := (Below.refl _ _).alloc (Nat.le_refl _) _
       have hr2 := ho2.rd
       obtain ⟨A2, c2, rfl⟩ := hr2.form
       have hc2 : (b.length : Int) ≤ (c2 : Int) := by
         obtain ⟨A', c', e, h1, _⟩ := id hr2
         injection e with _ _ e3
         omega
       rw [hWl] at hr2 ho2 ⊢
       clear hg2 ho1 hb1 ho2)
    | (refine wpList_append_rd rfl (.tmp 15) (.tmp 16) _ rfl i0 Tryd.underlying22 hi hz hsz hby rfl hemp2 rfl (hr2.below hbe2) (by simp; omega) hbe2.size ?_; intro v3 w3 ho3 hg3 _
       have hb23 : Below w2.heap.size w2 w3 := Own.below_grown hbe2 hemp2 (Nat.le_refl _) hbe2.size hg3
       rw [List.nil_append] at ho3
       have hr3 := ho3.rd
       have hq3 := hr2.up (Nat.le_refl _) hb23
       have hb3 := below_chain hb2 hb2.size hb23
       clear hg3 ho3 hr2 hemp2 hbe2 hb2 hb23))
  have hf3 : Rd w3 w3.heap.size (.slice A2 b.length c2) b := by have := hq3.first b.length (by omega); rwa [HWT.out] at this
  refine (sum_any _ b w3 hf3 (by omega) fr ((hb3.block 0 hn0).trans hk)).mono ?_
  rintro e w4 ⟨vx, rfl, hox, hc4⟩
  rw [← HS.out] at hox
  obtain ⟨Ax, cx, rfl⟩ := hox.form' hSl
  have hb4 := below_chain hb3 hb3.size hc4
  have hr4 := hr3.up (Nat.le_refl _) hc4
  have hq4 := hq3.up (Nat.le_refl _) hc4
  have hltx := hox.lt
  clear hc4 hr3 hq3 hf3
  go_wp2_with fail
  refine (sum_any _ b w4 (hb.up (Nat.le_refl _) hb4) (by omega) fr ((hb4.block 0 hn0).trans hk)).mono ?_
  rintro e w5 ⟨vy, rfl, hoy, hc5⟩
  rw [← HS.out] at hoy
  have hb5 := below_chain hb4 hb4.size hc5
  have hr5 := hr4.up (Nat.le_refl _) hc5
  have hq5 := hq4.up (Nat.le_refl _) hc5
  have hox5 := hox.below hc5
  have hs45 := hc5.size
  clear hc5 hr4 hq4 hox
  go_wp2_with fail
  refine (rsum_any _ b w5 (hb.up (Nat.le_refl _) hb5) (by omega) fr2 ((hb5.block _ hn1).trans hk2)).mono ?_
  rintro e w6 ⟨vw, rfl, how, hc6⟩
  rw [← HS.out] at how
  have hb6 := below_chain hb5 hb5.size hc6
  have hr6 := hr5.up (Nat.le_refl _) hc6
  have hq6 := hq5.up (Nat.le_refl _) hc6
  have hox6 := hox5.below hc6
  have hoy6 := hoy.below hc6
  clear hc6 hr5 hq5 hox5 hoy
  go_wp2_with fail
  refine (fixed_any w6 fr ((hb6.block 0 hn0).trans hk)).mono ?_
  rintro e w7 ⟨rfl, hc7⟩
  have hb7 := below_chain hb6 hb6.size hc7
  have hr7 := hr6.up (Nat.le_refl _) hc7
  have hq7 := hq6.up (Nat.le_refl _) hc7
  have hox7 := hox6.below hc7
  have hoy7 := hoy6.below hc7
  have how7 := how.below hc7
  clear hc7 hr6 hq6 hox6 hoy6 how
  go_wp2_with fail
  refine (same_any _ _ S S w7 hox7.rd how7.rd).mono ?_
  rintro e w8 ⟨rfl, hc8⟩
  rw [sameB_refl]
  have hb8 := below_chain hb7 hb7.size hc8
  have hr8 := hr7.up (Nat.le_refl _) hc8
  have hq8 := hq7.up (Nat.le_refl _) hc8
  have hox8 := hox7.below hc8
  have hoy8 := hoy7.below hc8
  have how8 := how7.below hc8
  clear hc8 hr7 hq7 hox7 hoy7 how7
  go_wp2_with fail
  refine (same_any _ _ S S w8 hoy8.rd how8.rd).mono ?_
  rintro e w9 ⟨rfl, hc9⟩
  rw [sameB_refl]
  have hb9 := below_chain hb8 hb8.size hc9
  have hr9 := hr8.up (Nat.le_refl _) hc9
  have hq9 := hq8.up (Nat.le_refl _) hc9
  have hox9 := hox8.below hc9
  have hoy9 := hoy8.below hc9
  have how9 := how8.below hc9
  clear hc9 hr8 hq8 hox8 hoy8 how8
  go_wp2_with fail
  refine (same_any _ _ W W w9 hq9 hr9).mono ?_
  rintro e wa ⟨rfl, hca⟩
  rw [sameB_refl]
  have hba := below_chain hb9 hb9.size hca
  have hoxa := hox9.below hca
  have hoya := hoy9.below hca
  have howa := how9.below hca
  clear hca hr9 hq9 hox9 hoy9 how9
  have hsx3 := hb3.size
  obtain ⟨BX, hBX⟩ : ∃ B, B = w3.heap.size := ⟨_, rfl⟩
  obtain ⟨BY, hBY⟩ : ∃ B, B = w4.heap.size := ⟨_, rfl⟩
  obtain ⟨BW, hBW⟩ : ∃ B, B = w5.heap.size := ⟨_, rfl⟩
  rw [← hBX] at hoxa hltx hsx3
  rw [← hBY] at hoya hltx hs45
  rw [← hBW] at howa hs45
  clear hBX hBY hBW hb4 hb5 hb6 hb7 hb8 hb9 hb3
  go_wp2
  go_loopw [49] (fun i wr => ∃ (k : Nat) (l' : List UInt8), k ≤ 32 ∧ i = .int .i64 (k : Int) ∧ l'.length = 32 ∧ Own wr BX (.slice Ax 32 cx) l' ∧ Own wr BY vy S ∧ Own wr BW vw S ∧ Below w.heap.size w wr)
    (fun i _ => 32 - (intOf i).toNat)
  case atStart => exact ⟨0, S, Nat.zero_le _, rfl, hSl, hoxa, hoya, howa, hba⟩
  case round =>
    clear hoxa hoya howa hba
    obtain ⟨k, l', hk32, rfl, hl', hox, hoy, how, hbw⟩ := hrel
    have HL := Lib.hid hl'
    by_cases hlt : k < 32
    · obtain ⟨gA, rfl, _, hgs, hcell, hfz, hput⟩ := hox.at_ hlt (by omega)
      have hgA := hltx gA rfl
      have i1 : (0 : Int) ≤ (k : Int) := by omega
      have i2 : (k : Int) < 32 := by omega
      have hx := bits_xor_byte (l'[k]'(by have := HL.out; omega)) 1
      rw [show ((1 : UInt8).toNat : Int) = 1 from rfl] at hx
      have hput' := hput ((l'[k]'(by have := HL.out; omega)) ^^^ 1)
      unfold bval at hput'
      have HP := Lib.hid hput'
      have hny : vy.ownBlock ≠ some gA := by intro e; have := hoy.lt _ e; omega
      have hnw : vw.ownBlock ≠ some gA := by intro e; have := how.lt _ e; omega
      clear hput hput'
      go_wp2
      go_roundw
      case rel => exact ⟨k + 1, _, by omega, by go_num, by rw [List.length_set]; exact HL.out, HP.out, hoy.grown (grown_set _ _ _ _) (.inr hny), how.grown (grown_set _ _ _ _) (.inr hnw), hbw.setCell (by show w.heap.size ≤ gA; omega) _⟩
      case measure => simp [intOf]; omega
    · have hk2 : ¬ (k : Int) < 32 := by omega
      have hny : vy.ownBlock = none ∨ vy.ownBlock ≠ (Value.slice Ax 32 cx).ownBlock := by
        rcases h : vy.ownBlock with _ | g
        · exact .inl rfl
        · refine .inr ?_
          intro e
          have h1 := hoy.lt g h
          have h2 := hltx g e.symm
          omega
      have hnw : vw.ownBlock = none ∨ vw.ownBlock ≠ (Value.slice Ax 32 cx).ownBlock := by
        rcases h : vw.ownBlock with _ | g
        · exact .inl rfl
        · refine .inr ?_
          intro e
          have h1 := how.lt g h
          have h2 := hltx g e.symm
          omega
      go_wp2_with (
        at_builtin
        refine wpList_append_rd rfl (.tmp 59) (.tmp 60) _ rfl i0 Tryd.underlying22 hi hz hsz hby rfl ((hox.more hsx3).alloc _) rfl (rd_lit wr _ [1, 1] 2 rfl (by simp [bcells, bval]) (by simp [maxLen])) (by simp; omega) (by have := hbw.size; simp; omega) ?_
        intro vl wl hol hgl _
        have hyl := (hoy.alloc (.cells #[.int .u8 1, .int .u8 1] 5)).grown hgl hny
        have hwl := (how.alloc (.cells #[.int .u8 1, .int .u8 1] 5)).grown hgl hnw
        have hbl : Below w.heap.size w wl := Own.below_grown (hbw.alloc hbw.size _) ((hox.more hsx3).alloc _) (Nat.le_refl _) (by have := hbw.size; simp; omega) hgl
        obtain ⟨Al, cl, rfl⟩ := hol.form' (n := 34) (by simp; omega)
        clear hgl hox hoy how hbw hol)
      refine (same_any _ _ S S wl hyl.rd hwl.rd).mono ?_
      rintro e wz ⟨rfl, hcz⟩
      rw [sameB_refl]
      have hbz := below_chain hbl hbl.size hcz
      go_wp2_with fail
      go_ret
      exact ⟨by rfl, hbz⟩
end Go.Proofs.YtcopllgfcdiheaaDoor
