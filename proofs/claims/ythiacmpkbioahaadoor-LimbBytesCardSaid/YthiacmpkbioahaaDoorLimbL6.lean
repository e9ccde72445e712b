/- The walk of the law: numbers as bytes, and back. -/
import Derived.Test.YthiacmpkbioahaaDoorLimbM
import Derived.Test.YthiacmpkbioahaaDoorLimbO
import Derived.Test.YthiacmpkbioahaaDoorLimbL1
import Derived.Test.YthiacmpkbioahaaDoorSame
namespace Go.Proofs.YthiacmpkbioahaaDoor
open Go Go.RowKit

theorem grown_setB (w : World) (g i : Nat) (u : Value) : w.grownBy (w.setCell ⟨g, i, none⟩ u) (some g) :=
  ⟨rfl, rfl, rfl, by simp, fun k _ hk => Below.heap_setCell w _ _ k (by rintro rfl; exact hk rfl)⟩
theorem sameT (a b : Value) (l : List UInt8) (w : World) (ha : Rd w w.heap.size a l) (hb : Rd w w.heap.size b l) :
    Calls Tryd.prog 31 #[a, b] w fun e w' => e = .returned (.bool true) ∧ Below w.heap.size w w' := by
  have h := same_any a b l l w ha hb
  rw [sameB_refl] at h
  exact h
theorem fromU_ok (l : List UInt8) : (fromU l).1.ok := by
  unfold fromU
  split
  · exact ofN_ok _
  · exact zero_ok
theorem fromU_cases (l : List UInt8) : ((fromU l).2 = 0 ∧ be (fromU l).1.nat 32 = l) ∨ (fromU l).2 = 21 := by
  unfold fromU
  by_cases h : l.length = 32
  · left
    rw [if_pos h]
    have hb := be_valB l
    rw [h] at hb
    have hlt : valB l < top := by
      have h1 := valB_be (valB l) 32
      rw [hb] at h1
      rw [top_pow, h1]
      exact Nat.mod_lt _ (Nat.pow_pos (by decide))
    refine ⟨rfl, ?_⟩
    show be (ofN (valB l)).nat 32 = l
    rw [nat_ofN hlt]
    exact hb
  · right
    rw [if_neg h]
theorem fromU_be {a : U4} (ha : a.ok) : fromU (be a.nat 32) = (a, 0) := by
  unfold fromU
  rw [if_pos (be_length _ _), valB_be, Nat.mod_eq_of_lt (by rw [← top_pow]; exact nat_lt ha), ofN_nat ha]

set_option maxHeartbeats 8000000 in
set_option maxRecDepth 100000 in
theorem bytes_walk (a : U4) (v : Value) (l : List UInt8) (w : World) (ha : a.ok) (hr : Rd w w.heap.size v l) : Calls Tryd.prog 6 #[a.val, v] w fun e w' => e = .returned (.bool true) ∧ Below w.heap.size w w' := by
  obtain ⟨i0, hi, hz, hsz, hby⟩ := info_parts Tryd.infoByte
  have k1 := (bytes_any a · ha)
  have k2 := (rbytes_any a · ha)
  have k3 := (bytes_any (fromU l).1 · (fromU_ok l))
  have k4 := fun W h => from_any v l W h
  have k5 := fun W h => rfrom_any v l W h
  have k6 := fun v' W h => from_any v' (be a.nat 32) W h
  rw [fromU_be ha] at k6
  have hE := fromU_cases l
  have hblk := Blk.new w a.cells
  have hbw : Below w.heap.size w (w.alloc (.cells a.cells 24)) := (Below.refl _ _).alloc (Nat.le_refl _) _
  obtain ⟨F, hF⟩ : ∃ F, F = (fromU l).1 := ⟨_, rfl⟩
  obtain ⟨E, hE'⟩ : ∃ E, E = (fromU l).2 := ⟨_, rfl⟩
  rw [← hF, ← hE'] at k4 k5 hE
  rw [← hF] at k3
  have hLl := be_length a.nat 32
  obtain ⟨LA, hLA⟩ : ∃ L, L = be a.nat 32 := ⟨_, rfl⟩
  rw [← hLA] at k1 k2 k6 hLl
  obtain ⟨LF, hLF⟩ : ∃ L, L = be F.nat 32 := ⟨_, rfl⟩
  rw [← hLF] at k3 hE
  have q1 : ∀ W, (binOp .neq 24 (.agg F.cells) (.agg F.cells)).run Tryd.prog W = .ok (.bool false) W := fun W => by have := neq4 F F W; rw [eqB_refl] at this; exact this
  have q2 : ∀ W, (binOp .eql 24 (.agg a.cells) (.agg a.cells)).run Tryd.prog W = .ok (.bool true) W := fun W => by have := eql4 a a W; rw [eqB_refl] at this; exact this
  unfold U4.val at *
  unfold U4.cells at k1 k2 k3 k4 k5 k6 q1 q2 hblk hbw ⊢
  have K1 := Lib.hid k1
  have K2 := Lib.hid k2
  have K3 := Lib.hid k3
  have K4 := Lib.hid k4
  have K5 := Lib.hid k5
  have K6 := Lib.hid k6
  have Q1 := Lib.hid q1
  have Q2 := Lib.hid q2
  have HR := Lib.hid hr
  have HLL := Lib.hid hLl
  have HE := Lib.hid hE
  clear k1 k2 k3 k4 k5 k6 q1 q2 hF hE' hLA hLF hr ha hLl hE
  go_enter Tryd.func6, Tryd.ntmps6
  go_wp2_with fail
  generalize w.alloc (.cells #[.int .u64 (a.a : Int), .int .u64 (a.b : Int), .int .u64 (a.c : Int), .int .u64 (a.d : Int)] 24) = w0 at *
  have h0 := hblk
  have HPS : Hid (∀ W : World, Below w0.heap.size w0 W → (W.cell? ⟨w.heap.size, 0, none⟩ = some (.int .u64 (a.a : Int)) ∧ W.cell? ⟨w.heap.size, 1, none⟩ = some (.int .u64 (a.b : Int)) ∧ W.cell? ⟨w.heap.size, 2, none⟩ = some (.int .u64 (a.c : Int)) ∧ W.cell? ⟨w.heap.size, 3, none⟩ = some (.int .u64 (a.d : Int)))) := Lib.hid (fun W hW => Blk.all (s := a) (Blk.below (cs := a.cells) h0 hW (blk_lt h0)))
  have hd0 : Below w0.heap.size w0 w0.drew := (Below.refl _ _).drew
  have HB0 := Lib.hid hblk
  clear h0 hblk
  go_region_held_law (fun W => (W.cell? ⟨w.heap.size, 0, none⟩ = some (.int .u64 (a.a : Int)) ∧ W.cell? ⟨w.heap.size, 1, none⟩ = some (.int .u64 (a.b : Int)) ∧ W.cell? ⟨w.heap.size, 2, none⟩ = some (.int .u64 (a.c : Int)) ∧ W.cell? ⟨w.heap.size, 3, none⟩ = some (.int .u64 (a.d : Int))))
    (first | exact HPS.out _ hy2 | exact HPS.out _ hy1 | exact HPS.out _ hd0)
    (first
      | (go_at_call 28; have hq := hy1; refine (K1.out _).mono ?_; rintro e w2 ⟨v2, rfl, ho2, hb2⟩; have hy2 := below_chain hy1 hy1.size hb2)
      | (go_at_call 28; refine (K1.out _).mono ?_; rintro e w1 ⟨v1, rfl, ho1, hb1⟩; have hy1 := below_chain hd0 hd0.size hb1))
  have h0 : Blk w2 w.heap.size a.cells := Blk.below (cs := a.cells) HB0.out hy2 (blk_lt HB0.out)
  have HBW := Lib.hid hbw
  have hbe := hy2
  have hx := ho1.below hb2
  replace hx : Own w2 w0.heap.size v1 LA := hx
  have hltx : ∀ k, v1.ownBlock = some k → w0.heap.size ≤ k ∧ k < w1.heap.size := ho1.lt
  have hyo := ho2
  have hr2 := HR.out.up (Nat.le_refl _) (below_chain HBW.out HBW.out.size hbe)
  obtain ⟨A1, c1, rfl⟩ := hx.form' HLL.out
  clear ho1 ho2 hb1 hb2 hq hy1 hd0 HPS
  go_wp2_with fail
  refine (K4.out _ hr2).mono ?_
  rintro e w3 ⟨rfl, hb3⟩
  have hbF : Below w3.heap.size w3 (w3.alloc (.cells F.cells 24)) := (Below.refl _ _).alloc (Nat.le_refl _) _
  have h0' := step_new (x := a) h0 hb3 F
  have hn' : Blk (w3.alloc (.cells F.cells 24)) w3.heap.size F.cells := Blk.new w3 _
  have hy3 := below_chain hb3 hb3.size hbF
  have hx3 := (hx.below hb3).alloc (.cells F.cells 24)
  have hyo3 := (hyo.below hb3).alloc (.cells F.cells 24)
  have hbe3 := below_chain hbe hbe.size hy3
  have hr3 := HR.out.up (Nat.le_refl _) (below_chain HBW.out HBW.out.size hbe3)
  unfold U4.cells at h0' hn' hy3 hx3 hyo3 hbe3 hr3
  clear h0 hx hyo hbe hr2 hb3 hbF
  have h0 := h0'
  have hn := hn'
  clear h0' hn'
  go_wp2_with fail
  generalize w3.alloc (.cells #[.int .u64 (F.a : Int), .int .u64 (F.b : Int), .int .u64 (F.c : Int), .int .u64 (F.d : Int)] 24) = v3 at *
  generalize w3.heap.size = gn at *
  refine (K5.out _ hr3).mono ?_
  rintro e w4 ⟨rfl, hb4⟩
  have hbF : Below w4.heap.size w4 (w4.alloc (.cells F.cells 24)) := (Below.refl _ _).alloc (Nat.le_refl _) _
  have h0' := step_new (x := a) h0 hb4 F
  have hn' := step_new (x := F) hn hb4 F
  have hm' : Blk (w4.alloc (.cells F.cells 24)) w4.heap.size F.cells := Blk.new w4 _
  have hy4 := below_chain hb4 hb4.size hbF
  have hx4 := (hx3.below hb4).alloc (.cells F.cells 24)
  have hyo4 := (hyo3.below hb4).alloc (.cells F.cells 24)
  have hbe4 := below_chain hbe3 hbe3.size hy4
  unfold U4.cells at h0' hn' hm' hy4 hx4 hyo4 hbe4
  clear h0 hn hx3 hyo3 hbe3 hr3 hb4 hbF hy3 hy4 hy2
  have h0 := h0'
  have hn := hn'
  have hm := hm'
  clear h0' hn' hm'
  go_wp2_with fail
  generalize w4.alloc (.cells #[.int .u64 (F.a : Int), .int .u64 (F.b : Int), .int .u64 (F.c : Int), .int .u64 (F.d : Int)] 24) = v4 at *
  generalize w4.heap.size = gm at *
  have HPS : Hid (∀ W : World, Below v4.heap.size v4 W → (W.cell? ⟨w.heap.size, 0, none⟩ = some (.int .u64 (a.a : Int)) ∧ W.cell? ⟨w.heap.size, 1, none⟩ = some (.int .u64 (a.b : Int)) ∧ W.cell? ⟨w.heap.size, 2, none⟩ = some (.int .u64 (a.c : Int)) ∧ W.cell? ⟨w.heap.size, 3, none⟩ = some (.int .u64 (a.d : Int))) ∧ (W.cell? ⟨gn, 0, none⟩ = some (.int .u64 (F.a : Int)) ∧ W.cell? ⟨gn, 1, none⟩ = some (.int .u64 (F.b : Int)) ∧ W.cell? ⟨gn, 2, none⟩ = some (.int .u64 (F.c : Int)) ∧ W.cell? ⟨gn, 3, none⟩ = some (.int .u64 (F.d : Int))) ∧ (W.cell? ⟨gm, 0, none⟩ = some (.int .u64 (F.a : Int)) ∧ W.cell? ⟨gm, 1, none⟩ = some (.int .u64 (F.b : Int)) ∧ W.cell? ⟨gm, 2, none⟩ = some (.int .u64 (F.c : Int)) ∧ W.cell? ⟨gm, 3, none⟩ = some (.int .u64 (F.d : Int)))) := Lib.hid (fun W hW => ⟨Blk.all (s := a) (Blk.below (cs := a.cells) h0 hW (blk_lt h0)), Blk.all (s := F) (Blk.below (cs := F.cells) hn hW (blk_lt hn)), Blk.all (s := F) (Blk.below (cs := F.cells) hm hW (blk_lt hm))⟩)
  have HB4 := Lib.hid hbe4
  have HX4 := Lib.hid hx4
  have HY4 := Lib.hid hyo4
  have HA4 := Lib.hid h0
  have HLTX := Lib.hid hltx
  have hgB : w.heap.size < w0.heap.size := blk_lt HB0.out
  clear h0 hn hm hx4 hyo4 hbe4 hbw hltx
  rcases HE.out with ⟨rfl, hlf⟩ | rfl
  all_goals
    try have HLF := Lib.hid hlf
    try clear hlf
    have q1 := Q1.out
    clear HE
    go_wp2_with (first
      | (go_at_call 15; refine (fixed_any _).mono ?_; rintro e w5 ⟨rfl, hb5⟩; obtain ⟨⟨x0, x1, x2, x3⟩, ⟨x4, x5, x6, x7⟩, ⟨x8, x9, x10, x11⟩⟩ := HPS.out _ hb5)
      | (go_at_call 32; refine (K2.out _).mono ?_; rintro e w6 ⟨v6, rfl, ho6, hb6⟩; have hy6 := below_chain hb5 hb5.size hb6)
      | (go_at_call 31; have hq := hy8; refine (sameT v8 v l _ (by rw [← HLF.out]; exact ho8.rd) (HR.out.up (Nat.le_refl _) (below_chain HBW.out HBW.out.size (below_chain HB4.out HB4.out.size hy8)))).mono ?_; rintro e w9 ⟨rfl, hb9⟩; have hy9 := below_chain hy8 hy8.size hb9)
      | (go_at_call 31; have hq := hy6; refine (sameT _ v6 LA _ ((HX4.out.below hy6).rd) ho6.rd).mono ?_; rintro e w7 ⟨rfl, hb7⟩; have hy7 := below_chain hy6 hy6.size hb7; clear x0 x1 x2 x3 x4 x5 x6 x7 x8 x9 x10 x11; obtain ⟨⟨x0, x1, x2, x3⟩, ⟨x4, x5, x6, x7⟩, ⟨x8, x9, x10, x11⟩⟩ := HPS.out _ hy7)
      | (go_at_call 28; have hq := hy7; refine (K3.out _).mono ?_; rintro e w8 ⟨v8, rfl, ho8, hb8⟩; have hy8 := below_chain hy7 hy7.size hb8))
    obtain ⟨wz, hwz, hyz⟩ : ∃ W, W = (by first | exact w9 | exact w7) ∧ Below v4.heap.size v4 W := ⟨_, rfl, by first | exact hy9 | exact hy7⟩
    subst hwz
    have hox0 := HX4.out.below hyz
    have hoy0 := HY4.out.below hyz
    have hbz := below_chain HB4.out HB4.out.size hyz
    have hLA := HLL.out
    clear hyz q1
    go_loopw [61] (fun i wr => ∃ (k : Nat) (l' : List UInt8), k ≤ 32 ∧ i = .int .i64 (k : Int) ∧ l'.length = 32 ∧ Own wr w0.heap.size (.slice A1 32 c1) l' ∧ Own wr w1.heap.size v2 LA ∧ Below w0.heap.size w0 wr)
      (fun i _ => 32 - (intOf i).toNat)
    case atStart => exact ⟨0, LA, Nat.zero_le _, rfl, hLA, hox0, hoy0, hbz⟩
    case round =>
      clear hox0 hoy0 hbz hLA
      obtain ⟨k, l', hk32, rfl, hl', hox, hoy, hbw⟩ := hrel
      have HL := Lib.hid hl'
      by_cases hlt : k < 32
      · obtain ⟨gA, rfl, _, hgs, hcell, hfz, hput⟩ := hox.at_ hlt (by omega)
        have hgA := HLTX.out gA rfl
        have i1 : (0 : Int) ≤ (k : Int) := by omega
        have i2 : (k : Int) < 32 := by omega
        have hx := bits_xor_byte (l'[k]'(by have := HL.out; omega)) 1
        rw [show ((1 : UInt8).toNat : Int) = 1 from rfl] at hx
        have hput' := hput ((l'[k]'(by have := HL.out; omega)) ^^^ 1)
        unfold bval at hput'
        have HP := Lib.hid hput'
        have hny : v2.ownBlock ≠ some gA := by intro e; have := hoy.lt _ e; omega
        clear hput hput'
        go_wp2_with fail
        go_roundw
        case rel => exact ⟨k + 1, _, by omega, by go_num, by rw [List.length_set]; exact HL.out, HP.out, hoy.grown (grown_setB _ _ _ _) (.inr hny), hbw.setCell (by show w0.heap.size ≤ gA; omega) _⟩
        case measure => simp [intOf]; omega
      · have hk2 : ¬ (k : Int) < 32 := by omega
        obtain rfl : k = 32 := by omega
        have hny : v2.ownBlock = none ∨ v2.ownBlock ≠ (Value.slice A1 32 c1).ownBlock := by
          rcases h : v2.ownBlock with _ | g
          · exact .inl rfl
          · refine .inr ?_
            intro e
            have h1 := hoy.lt g h
            have h2 := HLTX.out g e.symm
            omega
        have hszx : w0.heap.size ≤ wr.heap.size := hbw.size
        clear hl'
        go_wp2_with (
          at_builtin
          refine wpList_append_rd rfl (.tmp 71) (.tmp 72) _ rfl i0 Tryd.underlying41 hi hz hsz hby rfl (hox.alloc _) rfl (rd_lit wr _ [1, 2, 3] 3 rfl (by simp [bcells, bval]) (by simp [maxLen])) (by have := HL.out; simp; omega) (by simp; omega) ?_
          intro vl wl hol hgl _
          have hyl := (hoy.alloc (.cells #[.int .u8 1, .int .u8 2, .int .u8 3] 5)).grown hgl hny
          have hbl : Below w0.heap.size w0 wl := Own.below_grown (hbw.alloc hszx _) (hox.alloc _) (Nat.le_refl _) (by simp; omega) hgl
          obtain ⟨Al, cl, rfl⟩ := hol.form' (n := 35) (by have := HL.out; simp; omega)
          clear hgl hox hoy hbw hol)
        have hbk : Blk wl w.heap.size a.cells := Blk.below (cs := a.cells) HB0.out hbl hgB
        refine (K6.out v2 wl hyl.rd).mono ?_
        rintro e w10 ⟨rfl, hb10⟩
        have h0' := step_new (x := a) hbk hb10 a
        have hn' : Blk (w10.alloc (.cells a.cells 24)) w10.heap.size a.cells := Blk.new w10 _
        have hfin := (below_chain hbl hbl.size hb10)
        replace hfin := hfin.alloc hfin.size (.cells a.cells 24)
        replace hfin := below_chain HBW.out HBW.out.size hfin
        unfold U4.cells at h0' hn' hfin
        obtain ⟨x0, x1, x2, x3⟩ := Blk.all (s := a) h0'
        obtain ⟨x4, x5, x6, x7⟩ := Blk.all (s := a) hn'
        clear hyl hbl hbk hb10 h0' hn'
        have q2 := Q2.out
        go_wp2_with fail
        go_ret
        exact ⟨by rfl, hfin⟩
end Go.Proofs.YthiacmpkbioahaaDoor
