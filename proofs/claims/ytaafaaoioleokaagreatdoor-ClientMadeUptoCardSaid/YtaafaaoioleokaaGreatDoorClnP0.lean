
/- The walks of a client being put, and of what it trusts; of times that are ahead or over; of a header's form. The walk of what a client trusts being kept. The walk of a client that is made. -/
import Derived.Test.YtaafaaoioleokaaGreatDoorClnA0
import Derived.Test.YtaafaaoioleokaaGreatDoorHeldBy
import Derived.Test.YtaafaaoioleokaaGreatDoorIcaG0
namespace Go.Proofs.YtaafaaoioleokaaGreatDoor
set_option maxRecDepth 100000
open Go Go.RowKit
set_option linter.unusedVariables false

set_option maxHeartbeats 8000000 in
theorem clput_any {W w : World} {y : Lyr} {l : List Lyr} {R : List Pr} {k : Nat} (h : At W y l R k w) (hn : y.n + k < maxLen) (id : ByteArray) (hid : id.size ≤ 100000000) (c : ClV) (h_ch : c.ch.size ≤ maxLen) (h_la : c.la < 18446744073709551616) (h_pe : c.pe < 18446744073709551616) :
    Calls Tryz.prog 68 #[.pointer (some ⟨y.b, 0, none⟩), .string id, c.val] w fun e w' => e = .returned (.tuple #[]) ∧ At W y l (setL (kCli id) (clB c) R) (k + 1) w' ∧ Kept w w' := by
  have z1 := kCli_size id
  have HK : Hid (∀ Z : World, Calls Tryz.prog 70 #[.string id] Z fun e w' => e = .returned (.string (kCli id)) ∧ Z = w') := Lib.hid fun Z => clkey_any id Z hid
  obtain ⟨ch, la, pe, fr⟩ := c
  dsimp only at h_ch h_la h_pe
  unfold ClV.val clB
  dsimp only
  have hbox := heap_alloc_new w (.cells #[.string ch, .int .u64 (la : Int), .int .u64 (pe : Int), .bool fr] 55)
  have ha0 : Below w.heap.size w (w.alloc (.cells #[.string ch, .int .u64 (la : Int), .int .u64 (pe : Int), .bool fr] 55)) := (Below.refl _ _).alloc (Nat.le_refl _) _
  have A0 := h.up ha0
  generalize hW0 : w.alloc (.cells #[.string ch, .int .u64 (la : Int), .int .u64 (pe : Int), .bool fr] 55) = W0 at *
  have hgl := blk_lt hbox
  have l_ch : (encS ch).length ≤ 65539 := encB_lenP (strBytes ch)
  have H1 : Hid (∀ (Z : World), Calls Tryz.prog 92 #[.slice none 0 0, .string ch] Z fun e w' => ∃ v', e = .returned v' ∧ Own w' Z.heap.size v' (encS ch) ∧ Below Z.heap.size Z w') := Lib.hid fun Z => by
    have := TS0 (.slice none 0 0) ch [] Z (Rd.nil _ _) h_ch (by simp)
    rwa [List.nil_append] at this
  have H2 : Hid (∀ (v : Value) (Z : World) (B : Nat), Own Z B v (encS ch) → Calls Tryz.prog 80 #[v, .int .u64 (la : Int)] Z fun e w' => ∃ v', e = .returned v' ∧ Own w' Z.heap.size v' (encS ch ++ be la 8) ∧ Below Z.heap.size Z w') :=
    Lib.hid fun v Z B ho => N_any v _ la Z ho.rd h_la (by omega)
  have H3 : Hid (∀ (v : Value) (Z : World) (B : Nat), Own Z B v (encS ch ++ be la 8) → Calls Tryz.prog 80 #[v, .int .u64 (pe : Int)] Z fun e w' => ∃ v', e = .returned v' ∧ Own w' Z.heap.size v' ((encS ch ++ be la 8) ++ be pe 8) ∧ Below Z.heap.size Z w') :=
    Lib.hid fun v Z B ho => N_any v _ pe Z ho.rd h_pe (by simp [be_length]; omega)
  have H4 : Hid (∀ (v : Value) (Z : World) (B : Nat), Own Z B v ((encS ch ++ be la 8) ++ be pe 8) → Calls Tryz.prog 104 #[v, .bool fr] Z fun e w' => ∃ v', e = .returned v' ∧ Own w' Z.heap.size v' (((encS ch ++ be la 8) ++ be pe 8) ++ [fb fr]) ∧ Below Z.heap.size Z w') :=
    Lib.hid fun v Z B ho => F_any v fr _ Z ho.rd (by simp [be_length]; omega)
  have HS : Hid (∀ (Z : World) (hz : Below W0.heap.size W0 Z) (v : Value) (B : Nat) (ho : Own Z B v (((encS ch ++ be la 8) ++ be pe 8) ++ [fb fr])), Calls Tryz.prog 13 #[.pointer (some ⟨y.b, 0, none⟩), .string (kCli id), v] Z fun e w' => (∃ c, e = .returned (.int .i64 c)) ∧ At W y l (setL (kCli id) (((encS ch ++ be la 8) ++ be pe 8) ++ [fb fr]) R) (k + 1) w' ∧ Kept Z w') :=
    Lib.hid fun Z hz v B ho => ((A0.up hz).set hn (kCli id) (by rw [z1]; unfold maxLen; omega) v _ ho.rd).mono fun e w' ⟨h1, h2, h3⟩ => ⟨⟨_, h1⟩, h2, h3⟩
  have hkW : Kept w W0 := Kept.of_belowX ha0
  generalize hgg : w.heap.size = g0 at *
  have HC : Hid (∀ Z, Kept W0 Z → Z.cell? ⟨g0, 0, none⟩ = some (.string ch) ∧ Z.cell? ⟨g0, 1, none⟩ = some (.int .u64 (la : Int)) ∧ Z.cell? ⟨g0, 2, none⟩ = some (.int .u64 (pe : Int)) ∧ Z.cell? ⟨g0, 3, none⟩ = some (.bool fr)) := Lib.hid fun Z hz => ⟨hz.cell (blk_cell hbox 0), hz.cell (blk_cell hbox 1), hz.cell (blk_cell hbox 2), hz.cell (blk_cell hbox 3)⟩
  have hkD : Below W0.heap.size W0 W0.drew := Below.drew (Below.refl _ _)
  generalize setL (kCli id) (((encS ch ++ be la 8) ++ be pe 8) ++ [fb fr]) R = R2 at *
  generalize ((encS ch ++ be la 8) ++ be pe 8) ++ [fb fr] = L4 at *
  generalize (encS ch ++ be la 8) ++ be pe 8 = L3 at *
  generalize encS ch ++ be la 8 = L2 at *
  generalize encS ch = L1 at *
  generalize kCli id = key at *
  clear hbox h A0 z1 l_ch h_ch h_la h_pe
  go_enter Tryz.func68, Tryz.ntmps68
  go_wp2_with fail
  try rw [hW0]
  clear hW0
  try rw [hgg]
  go_region_held_law (fun Z => Z.cell? ⟨g0, 0, none⟩ = some (.string ch) ∧ Z.cell? ⟨g0, 1, none⟩ = some (.int .u64 (la : Int)) ∧ Z.cell? ⟨g0, 2, none⟩ = some (.int .u64 (pe : Int)) ∧ Z.cell? ⟨g0, 3, none⟩ = some (.bool fr))
    (with_reducible first | exact HC.out _ hkF | exact HC.out _ (Kept.of_belowX hk4) | exact HC.out _ (Kept.of_belowX hk3) | exact HC.out _ (Kept.of_belowX hk2) | exact HC.out _ (Kept.of_belowX hk1) | exact HC.out _ (Kept.of_belowX hkD))
    ((first
      | (go_at_call 70; refine (HK.out _).mono ?_; rintro e w9 ⟨rfl, rfl⟩)
      | (go_at_call 92; refine (H1.out _).mono ?_; rintro e w1 ⟨v1, rfl, ho1, hb1⟩; have hk1 := below_chain hkD hkD.size hb1)
      | (go_at_call 80; first
          | (refine (H3.out _ _ _ ho2).mono ?_; rintro e w3 ⟨v3, rfl, ho3, hb3⟩; have hk3 := below_chain hk2 hk2.size hb3)
          | (refine (H2.out _ _ _ ho1).mono ?_; rintro e w2 ⟨v2, rfl, ho2, hb2⟩; have hk2 := below_chain hk1 hk1.size hb2))
      | (go_at_call 104; refine (H4.out _ _ _ ho3).mono ?_; rintro e w4 ⟨v4, rfl, ho4, hb4⟩; have hk4 := below_chain hk3 hk3.size hb4)
      | (go_at_call 13; refine (HS.out _ hk4 _ _ ho4).mono ?_; rintro e w5 ⟨⟨c2, rfl⟩, AS, hkS⟩; have hkF := (Kept.of_belowX hk4).transX hkS)))
  all_goals
    have hfin := hkW.transX hkF
    go_wp2_with fail
    go_end0
    exact ⟨rfl, AS, hfin⟩
end Go.Proofs.YtaafaaoioleokaaGreatDoor
namespace Go.Proofs.YtaafaaoioleokaaGreatDoor
set_option maxRecDepth 100000
open Go Go.RowKit
set_option linter.unusedVariables false

set_option maxHeartbeats 8000000 in
theorem cltrust_any {W w : World} {y : Lyr} {l : List Lyr} {R : List Pr} {k : Nat} (h : At W y l R k w) (hn : y.n + k < maxLen) (id : ByteArray) (hid : id.size ≤ 100000000) (ch : ByteArray) (ht tm : Nat) (vr vv vn : Value) (rt va nx : List UInt8) (hr : Rd w w.heap.size vr rt) (hv : Rd w w.heap.size vv va) (hx : Rd w w.heap.size vn nx) (h_ht : ht < 18446744073709551616) (h_tm : tm < 18446744073709551616) :
    Calls Tryz.prog 69 #[.pointer (some ⟨y.b, 0, none⟩), .string id, .agg #[.string ch, .int .u64 (ht : Int), .int .u64 (tm : Int), vr, vv, vn]] w fun e w' => e = .returned (.tuple #[]) ∧ At W y l (setL (kCons id ht) (csB ⟨tm, rt, nx⟩) R) (k + 1) w' ∧ Kept w w' := by
  have z1 := kCons_size id ht
  have HK : Hid (∀ Z : World, Calls Tryz.prog 76 #[.string id, .int .u64 (ht : Int)] Z fun e w' => e = .returned (.string (kCons id ht)) ∧ Below Z.heap.size Z w') := Lib.hid fun Z => cskey_any id ht Z h_ht hid
  have HR1 := Lib.hid hr
  have HR2 := Lib.hid hx
  obtain ⟨Ar, cr, rfl⟩ := hr.form
  obtain ⟨Av, cv, rfl⟩ := hv.form
  obtain ⟨An, cn, rfl⟩ := hx.form
  obtain ⟨nr, hnr⟩ : ∃ n, n = rt.length := ⟨_, rfl⟩
  obtain ⟨nv, hnv⟩ : ∃ n, n = va.length := ⟨_, rfl⟩
  obtain ⟨nn, hnn⟩ : ∃ n, n = nx.length := ⟨_, rfl⟩
  rw [← hnr] at HR1 ⊢
  rw [← hnv]
  rw [← hnn] at HR2 ⊢
  clear hnr hnv hnn hr hv hx
  unfold csB
  dsimp only
  have hbox := heap_alloc_new w (.cells #[.string ch, .int .u64 (ht : Int), .int .u64 (tm : Int), .slice Ar nr cr, .slice Av nv cv, .slice An nn cn] 48)
  have ha0 : Below w.heap.size w (w.alloc (.cells #[.string ch, .int .u64 (ht : Int), .int .u64 (tm : Int), .slice Ar nr cr, .slice Av nv cv, .slice An nn cn] 48)) := (Below.refl _ _).alloc (Nat.le_refl _) _
  have A0 := h.up ha0
  generalize hW0 : w.alloc (.cells #[.string ch, .int .u64 (ht : Int), .int .u64 (tm : Int), .slice Ar nr cr, .slice Av nv cv, .slice An nn cn] 48) = W0 at *
  have hgl := blk_lt hbox
  have HRr : Hid (∀ Z, Below W0.heap.size W0 Z → Rd Z Z.heap.size (.slice Ar nr cr) rt) := Lib.hid fun Z hz => HR1.out.up (Nat.le_refl _) (below_chain ha0 ha0.size hz)
  have HRn : Hid (∀ Z, Below W0.heap.size W0 Z → Rd Z Z.heap.size (.slice An nn cn) nx) := Lib.hid fun Z hz => HR2.out.up (Nat.le_refl _) (below_chain ha0 ha0.size hz)
  have l_rt := encB_lenP rt
  have H1 : Hid (∀ (Z : World), Calls Tryz.prog 80 #[.slice none 0 0, .int .u64 (tm : Int)] Z fun e w' => ∃ v', e = .returned v' ∧ Own w' Z.heap.size v' (be tm 8) ∧ Below Z.heap.size Z w') := Lib.hid fun Z => by
    have := N_any (.slice none 0 0) [] tm Z (Rd.nil _ _) h_tm (by simp)
    rwa [List.nil_append] at this
  have H2 : Hid (∀ (v : Value) (Z : World) (B : Nat), Below W0.heap.size W0 Z → Own Z B v (be tm 8) → Calls Tryz.prog 126 #[v, .slice Ar nr cr] Z fun e w' => ∃ v', e = .returned v' ∧ Own w' Z.heap.size v' (be tm 8 ++ encB rt) ∧ Below Z.heap.size Z w') :=
    Lib.hid fun v Z B hz ho => BS0 v _ _ rt Z ho.rd (HRr.out _ hz) (by simp [be_length])
  have H3 : Hid (∀ (v : Value) (Z : World) (B : Nat), Below W0.heap.size W0 Z → Own Z B v (be tm 8 ++ encB rt) → Calls Tryz.prog 126 #[v, .slice An nn cn] Z fun e w' => ∃ v', e = .returned v' ∧ Own w' Z.heap.size v' ((be tm 8 ++ encB rt) ++ encB nx) ∧ Below Z.heap.size Z w') :=
    Lib.hid fun v Z B hz ho => BS0 v _ _ nx Z ho.rd (HRn.out _ hz) (by simp [be_length]; omega)
  have HS : Hid (∀ (Z : World) (hz : Below W0.heap.size W0 Z) (v : Value) (B : Nat) (ho : Own Z B v ((be tm 8 ++ encB rt) ++ encB nx)), Calls Tryz.prog 13 #[.pointer (some ⟨y.b, 0, none⟩), .string (kCons id ht), v] Z fun e w' => (∃ c, e = .returned (.int .i64 c)) ∧ At W y l (setL (kCons id ht) ((be tm 8 ++ encB rt) ++ encB nx) R) (k + 1) w' ∧ Kept Z w') :=
    Lib.hid fun Z hz v B ho => ((A0.up hz).set hn (kCons id ht) (by rw [z1]; unfold maxLen; omega) v _ ho.rd).mono fun e w' ⟨h1, h2, h3⟩ => ⟨⟨_, h1⟩, h2, h3⟩
  have hkW : Kept w W0 := Kept.of_belowX ha0
  generalize hgg : w.heap.size = g0 at *
  have HC : Hid (∀ Z, Kept W0 Z → Z.cell? ⟨g0, 0, none⟩ = some (.string ch) ∧ Z.cell? ⟨g0, 1, none⟩ = some (.int .u64 (ht : Int)) ∧ Z.cell? ⟨g0, 2, none⟩ = some (.int .u64 (tm : Int)) ∧ Z.cell? ⟨g0, 3, none⟩ = some (.slice Ar nr cr) ∧ Z.cell? ⟨g0, 4, none⟩ = some (.slice Av nv cv) ∧ Z.cell? ⟨g0, 5, none⟩ = some (.slice An nn cn)) := Lib.hid fun Z hz => ⟨hz.cell (blk_cell hbox 0), hz.cell (blk_cell hbox 1), hz.cell (blk_cell hbox 2), hz.cell (blk_cell hbox 3), hz.cell (blk_cell hbox 4), hz.cell (blk_cell hbox 5)⟩
  have hz : Below W0.heap.size W0 W0.drew := Below.drew (Below.refl _ _)
  generalize setL (kCons id ht) ((be tm 8 ++ encB rt) ++ encB nx) R = R2 at *
  generalize (be tm 8 ++ encB rt) ++ encB nx = L3 at *
  generalize be tm 8 ++ encB rt = L2 at *
  generalize be tm 8 = L1 at *
  generalize kCons id ht = key at *
  clear hbox h A0 z1 l_rt h_ht h_tm HR1 HR2 HRr HRn hid
  go_enter Tryz.func69, Tryz.ntmps69
  go_wp2_with fail
  try rw [hW0]
  clear hW0
  try rw [hgg]
  refine wp_region_held_drew (S := fun Z => Z.cell? ⟨g0, 0, none⟩ = some (.string ch) ∧ Z.cell? ⟨g0, 1, none⟩ = some (.int .u64 (ht : Int)) ∧ Z.cell? ⟨g0, 2, none⟩ = some (.int .u64 (tm : Int)) ∧ Z.cell? ⟨g0, 3, none⟩ = some (.slice Ar nr cr) ∧ Z.cell? ⟨g0, 4, none⟩ = some (.slice Av nv cv) ∧ Z.cell? ⟨g0, 5, none⟩ = some (.slice An nn cn)) (by kernel_rfl) (HC.out _ (Kept.of_belowX hz)) (fun hS => ?_)
  refine wpAnyH_take (i := 0) (oi := _) (v := ?_) rfl (by kernel_rfl) (by kernel_rfl) (by kernel_rfl) (fun _ _ _ h => h) (Or.inl ⟨by rfl, ?_⟩) hS ?_
  rotate_left
  · intro W hSW
    obtain ⟨c0, c1, c2, c3, c4, c5⟩ := hSW
    try go_simp
    all_goals with_reducible rfl
  simp only [Act.put, List.setIfInBounds_toArray, List.set_cons_zero, List.set_cons_succ, List.getElem_toArray, List.getElem_cons_zero, List.getElem_cons_succ]
  refine wpAnyH_take (i := 1) (oi := _) (v := ?_) rfl (by kernel_rfl) (by kernel_rfl) (by kernel_rfl) (fun _ _ _ h => h) (Or.inl ⟨by rfl, ?_⟩) hS ?_
  rotate_left
  · intro W hSW
    obtain ⟨c0, c1, c2, c3, c4, c5⟩ := hSW
    try go_simp
    all_goals with_reducible rfl
  simp only [Act.put, List.setIfInBounds_toArray, List.set_cons_zero, List.set_cons_succ, List.getElem_toArray, List.getElem_cons_zero, List.getElem_cons_succ]
  refine wpAnyH_take (i := 2) (oi := _) (v := ?_) rfl (by kernel_rfl) (by kernel_rfl) (by kernel_rfl) (fun _ _ _ h => h) (Or.inl ⟨by rfl, ?_⟩) hS ?_
  rotate_left
  · intro W hSW
    obtain ⟨c0, c1, c2, c3, c4, c5⟩ := hSW
    try go_simp
    all_goals with_reducible rfl
  simp only [Act.put, List.setIfInBounds_toArray, List.set_cons_zero, List.set_cons_succ, List.getElem_toArray, List.getElem_cons_zero, List.getElem_cons_succ]
  refine wpAnyH_take (i := 3) (oi := _) (v := ?_) rfl (by kernel_rfl) (by kernel_rfl) (by kernel_rfl) (fun _ _ _ h => h) (Or.inl ⟨by rfl, ?_⟩) hS ?_
  rotate_left
  · intro W hSW
    obtain ⟨c0, c1, c2, c3, c4, c5⟩ := hSW
    try go_simp
    all_goals with_reducible rfl
  simp only [Act.put, List.setIfInBounds_toArray, List.set_cons_zero, List.set_cons_succ, List.getElem_toArray, List.getElem_cons_zero, List.getElem_cons_succ]
  refine wpAnyH_take (i := 5) (oi := _) (v := ?_) rfl (by kernel_rfl) (by kernel_rfl) (by kernel_rfl) (fun _ _ _ h => h) (Or.inl ⟨by rfl, ?_⟩) hS ?_
  rotate_left
  · intro W hSW
    obtain ⟨c0, c1, c2, c3, c4, c5⟩ := hSW
    try go_simp
    all_goals with_reducible rfl
  simp only [Act.put, List.setIfInBounds_toArray, List.set_cons_zero, List.set_cons_succ, List.getElem_toArray, List.getElem_cons_zero, List.getElem_cons_succ]
  refine wpAnyH_take (i := 6) (oi := _) (v := ?_) rfl (by kernel_rfl) (by kernel_rfl) (by kernel_rfl) (fun _ _ _ h => h) (Or.inl ⟨by rfl, ?_⟩) hS ?_
  rotate_left
  · intro W hSW
    obtain ⟨c0, c1, c2, c3, c4, c5⟩ := hSW
    try go_simp
    all_goals with_reducible rfl
  simp only [Act.put, List.setIfInBounds_toArray, List.set_cons_zero, List.set_cons_succ, List.getElem_toArray, List.getElem_cons_zero, List.getElem_cons_succ]
  refine wpAnyH_take (i := 8) (oi := _) (v := ?_) rfl (by kernel_rfl) (by kernel_rfl) (by kernel_rfl) (fun _ _ _ h => h) (Or.inl ⟨by rfl, ?_⟩) hS ?_
  rotate_left
  · intro W hSW
    obtain ⟨c0, c1, c2, c3, c4, c5⟩ := hSW
    try go_simp
    all_goals with_reducible rfl
  simp only [Act.put, List.setIfInBounds_toArray, List.set_cons_zero, List.set_cons_succ, List.getElem_toArray, List.getElem_cons_zero, List.getElem_cons_succ]
  refine wpAnyH_take (i := 9) (oi := _) (v := ?_) rfl (by kernel_rfl) (by kernel_rfl) (by kernel_rfl) (fun _ _ _ h => h) (Or.inl ⟨by rfl, ?_⟩) hS ?_
  rotate_left
  · intro W hSW
    obtain ⟨c0, c1, c2, c3, c4, c5⟩ := hSW
    try go_simp
    all_goals with_reducible rfl
  simp only [Act.put, List.setIfInBounds_toArray, List.set_cons_zero, List.set_cons_succ, List.getElem_toArray, List.getElem_cons_zero, List.getElem_cons_succ]
  refine wpAnyH_take (i := 11) (oi := _) (v := ?_) rfl (by kernel_rfl) (by kernel_rfl) (by kernel_rfl) (fun _ _ _ h => h) (Or.inl ⟨by rfl, ?_⟩) hS ?_
  rotate_left
  · intro W hSW
    obtain ⟨c0, c1, c2, c3, c4, c5⟩ := hSW
    try go_simp
    all_goals with_reducible rfl
  simp only [Act.put, List.setIfInBounds_toArray, List.set_cons_zero, List.set_cons_succ, List.getElem_toArray, List.getElem_cons_zero, List.getElem_cons_succ]
  refine wpAnyH_take (i := 12) (oi := _) (v := ?_) rfl (by kernel_rfl) (by kernel_rfl) (by kernel_rfl) (fun _ _ _ h => h) (Or.inl ⟨by rfl, ?_⟩) hS ?_
  rotate_left
  · intro W hSW
    obtain ⟨c0, c1, c2, c3, c4, c5⟩ := hSW
    try go_simp
    all_goals with_reducible rfl
  simp only [Act.put, List.setIfInBounds_toArray, List.set_cons_zero, List.set_cons_succ, List.getElem_toArray, List.getElem_cons_zero, List.getElem_cons_succ]
  refine wpAnyH_ready (rs := [4]) (by kernel_rfl) (by simp) ?_
  refine AllReadyH.cons rfl (fun K hK => ?_) ?_
  · go_simp
    go_wp2_with ((go_at_call 76; (with_reducible refine (HK.out _).mono ?_); rintro e wn ⟨rfl, hbn⟩))
    have hz := below_chain hz hz.size hbn
    refine hK.out _ _ (HC.out _ (Kept.of_belowX hz)) (fun hS => ?_)
    clear hK K
    refine wpAnyH_ready (rs := [7]) (by kernel_rfl) (by simp) ?_
    refine AllReadyH.cons rfl (fun K hK => ?_) ?_
    · go_simp
      go_wp2_with ((go_at_call 80; (with_reducible refine (H1.out _).mono ?_); rintro e wn ⟨vn, rfl, ho, hbn⟩))
      have hz := below_chain hz hz.size hbn
      refine hK.out _ _ (HC.out _ (Kept.of_belowX hz)) (fun hS => ?_)
      clear hK K
      refine wpAnyH_ready (rs := [10]) (by kernel_rfl) (by simp) ?_
      refine AllReadyH.cons rfl (fun K hK => ?_) ?_
      · go_simp
        go_wp2_with ((go_at_call 126; (with_reducible refine (H2.out _ _ _ hz ho).mono ?_); rintro e wn ⟨vn, rfl, ho, hbn⟩))
        have hz := below_chain hz hz.size hbn
        refine hK.out _ _ (HC.out _ (Kept.of_belowX hz)) (fun hS => ?_)
        clear hK K
        refine wpAnyH_ready (rs := [13]) (by kernel_rfl) (by simp) ?_
        refine AllReadyH.cons rfl (fun K hK => ?_) ?_
        · go_simp
          go_wp2_with ((go_at_call 126; (with_reducible refine (H3.out _ _ _ hz ho).mono ?_); rintro e wn ⟨vn, rfl, ho, hbn⟩))
          have hz := below_chain hz hz.size hbn
          refine hK.out _ _ (HC.out _ (Kept.of_belowX hz)) (fun hS => ?_)
          clear hK K
          refine wpAnyH_ready (rs := [14]) (by kernel_rfl) (by simp) ?_
          refine AllReadyH.cons rfl (fun K hK => ?_) ?_
          · go_simp
            go_wp2_with ((go_at_call 13; (with_reducible refine (HS.out _ hz _ _ ho).mono ?_); rintro e wn ⟨⟨c2, rfl⟩, AS, hkS⟩))
            have hkF := (Kept.of_belowX hz).transX hkS
            refine hK.out _ _ (HC.out _ hkF) (fun hS => ?_)
            clear hK K
            refine wpAnyH_done (by kernel_rfl) ?_ _
            have hfin := hkW.transX hkF
            go_wp2_with fail
            go_end0
            exact ⟨rfl, AS, hfin⟩
          exact AllReadyH.nil
        exact AllReadyH.nil
      exact AllReadyH.nil
    exact AllReadyH.nil
  exact AllReadyH.nil
end Go.Proofs.YtaafaaoioleokaaGreatDoor
namespace Go.Proofs.YtaafaaoioleokaaGreatDoor
set_option maxRecDepth 100000
open Go Go.RowKit
set_option linter.unusedVariables false

set_option maxHeartbeats 8000000 in
theorem clcreate_any {W w : World} {y : Lyr} {l : List Lyr} {R : List Pr} {k : Nat} (h : At W y l R k w) (hn : y.n + k + 3 ≤ maxLen) (hs : numN R sClient < 10) (H : HdV) (pe now : Nat) (vr vv vn : Value) (hr : Rd w w.heap.size vr H.rt) (hv : Rd w w.heap.size vv H.va) (hx : Rd w w.heap.size vn H.nx)
    (h_ch : H.ch.size ≤ 100000000) (h_ht : H.ht < 18446744073709551616) (h_tm : H.tm < 18446744073709551616) (h_pe : pe < 18446744073709551616) :
    Calls Tryz.prog 17 #[.pointer (some ⟨y.b, 0, none⟩), .agg #[.string H.ch, .int .u64 (H.ht : Int), .int .u64 (H.tm : Int), vr, vv, vn], .int .u64 (pe : Int), .int .u64 (now : Int)] w fun e w' => e = .returned (.tuple #[.string (if createE H pe now = 0 then newID R sClient else ⟨#[]⟩), .int .i64 (createE H pe now)]) ∧ At W y l (if createE H pe now = 0 then createR R H pe else R) (k + 3) w' ∧ Kept w w' := by
  obtain ⟨ch, ht, tm, rt, va, nx⟩ := H
  dsimp only at *
  have zid := numN_small R sClient hs
  have z4 : sClient.size = 6 := rfl
  have HI : Hid (∀ Z : World, Calls Tryz.prog 50 #[.string ch] Z fun e w' => e = .returned (.bool (identB ch)) ∧ Z = w') := Lib.hid fun Z => ident_any ch Z (by unfold maxLen; omega)
  have HA := Lib.hid (fun Z : World => ahead_any tm now Z h_tm)
  have hz0 : ∀ Z, Below w.heap.size w Z → Rd Z Z.heap.size vr rt ∧ Rd Z Z.heap.size vv va ∧ Rd Z Z.heap.size vn nx := fun Z hz => ⟨hr.up (Nat.le_refl _) hz, hv.up (Nat.le_refl _) hz, hx.up (Nat.le_refl _) hz⟩
  have HT0 : Hid (∀ Z R', At W y l R' (k + 2) Z → Kept w Z → Calls Tryz.prog 69 #[.pointer (some ⟨y.b, 0, none⟩), .string (newID R sClient), .agg #[.string ch, .int .u64 (ht : Int), .int .u64 (tm : Int), vr, vv, vn]] Z fun e w' => e = .returned (.tuple #[]) ∧ At W y l (setL (kCons (newID R sClient) ht) (csB ⟨tm, rt, nx⟩) R') (k + 2 + 1) w' ∧ Kept Z w') :=
    Lib.hid fun Z R' hA hz => cltrust_any hA (by omega) _ (by omega) ch ht tm vr vv vn rt va nx (hz.rd hr) (hz.rd hv) (hz.rd hx) h_ht h_tm
  have HP0 : Hid (∀ Z, At W y l (newR R sClient) (k + 1) Z → Calls Tryz.prog 68 #[.pointer (some ⟨y.b, 0, none⟩), .string (newID R sClient), .agg #[.string ch, .int .u64 (ht : Int), .int .u64 (pe : Int), .bool false]] Z fun e w' => e = .returned (.tuple #[]) ∧ At W y l (setL (kCli (newID R sClient)) (clB ⟨ch, ht, pe, false⟩) (newR R sClient)) (k + 1 + 1) w' ∧ Kept Z w') :=
    Lib.hid fun Z hA => clput_any hA (by omega) _ (by omega) ⟨ch, ht, pe, false⟩ (by show ch.size ≤ _; unfold maxLen; omega) h_ht h_pe
  have hform : (HdV.mk ch ht tm rt va nx).formed = (decide (rt.length = 32) && (decide (va.length = 32) && decide (nx.length = 32))) := rfl
  obtain ⟨Ar, cr, rfl⟩ := hr.form
  obtain ⟨Av, cv, rfl⟩ := hv.form
  obtain ⟨An, cn, rfl⟩ := hx.form
  unfold createE createR
  dsimp only
  rw [hform]
  clear hform hr hv hx hz0
  generalize rt.length = nr at *
  generalize va.length = nv at *
  generalize nx.length = nn at *
  have hbox := heap_alloc_new w (.cells #[.string ch, .int .u64 (ht : Int), .int .u64 (tm : Int), .slice Ar nr cr, .slice Av nv cv, .slice An nn cn] 48)
  have ha0 : Below w.heap.size w (w.alloc (.cells #[.string ch, .int .u64 (ht : Int), .int .u64 (tm : Int), .slice Ar nr cr, .slice Av nv cv, .slice An nn cn] 48)) := (Below.refl _ _).alloc (Nat.le_refl _) _
  have HF := Lib.hid (fun Z : World => formed_any ch ht tm Ar Av An nr cr nv cv nn cn Z)
  have HN := Lib.hid (fun (Z : World) (hz : Below w.heap.size w Z) => newid_any (h.up hz) (by omega) sClient (by decide +kernel) hs)
  have HUP := Lib.hid (fun (Z : World) (hz : Below w.heap.size w Z) => (h.up hz).more (show k ≤ k + 3 by omega))
  generalize hW0 : w.alloc (.cells #[.string ch, .int .u64 (ht : Int), .int .u64 (tm : Int), .slice Ar nr cr, .slice Av nv cv, .slice An nn cn] 48) = w0 at *
  have e1 : ∀ n : Nat, ((n : Int) == 0) = decide (n = 0) := fun n => by
    by_cases h : n = 0
    · subst h; rfl
    · rw [decide_eq_false h]; simp; omega
  have f1 := e1 ht
  have f2 := e1 pe
  clear e1 h zid z4 hs h_tm h_pe h_ht h_ch hn
  generalize hR3 : setL (kCons (newID R sClient) ht) (csB ⟨tm, rt, nx⟩) (setL (kCli (newID R sClient)) (clB ⟨ch, ht, pe, false⟩) (newR R sClient)) = R3 at *
  have HR3 := Lib.hid hR3
  clear hR3
  have q0 := blk_cell hbox 0
  have q1 := blk_cell hbox 1
  have q2 := blk_cell hbox 2
  have q3 := blk_cell hbox 3
  have q4 := blk_cell hbox 4
  have q5 := blk_cell hbox 5
  unfold sClient at HN
  cases hb1 : identB ch with
  | false =>
    simp only [Bool.false_eq_true, if_false, if_neg (show ¬ (40 : Int) = 0 by decide)]
    rw [hb1] at HI
    go_enter Tryz.func17, Tryz.ntmps17
    go_wp2_with fail
    try rw [hW0]
    clear hW0
    refine (HI.out _).mono ?_
    rintro e w1 ⟨rfl, rfl⟩
    go_wp2_with fail
    go_ret2
    exact ⟨rfl, HUP.out _ ha0, Kept.of_belowX ha0⟩
  | true =>
    rw [hb1] at HI
    by_cases h2 : ht = 0
    · have g2 : decide (ht = 0) = true := decide_eq_true h2
      rw [g2] at f1
      simp only [if_true, if_pos h2, if_neg (show ¬ (104 : Int) = 0 by decide)]
      clear g2 h2
      go_enter Tryz.func17, Tryz.ntmps17
      go_wp2_with fail
      try rw [hW0]
      clear hW0
      refine (HI.out _).mono ?_
      rintro e w1 ⟨rfl, rfl⟩
      go_wp2_with fail
      go_ret2
      exact ⟨rfl, HUP.out _ ha0, Kept.of_belowX ha0⟩
    · have g2 : decide (ht = 0) = false := decide_eq_false h2
      rw [g2] at f1
      cases h3 : aheadB tm now with
      | true =>
        rw [h3] at HA
        simp only [if_true, if_neg h2, if_neg (show ¬ (105 : Int) = 0 by decide)]
        clear g2 h2
        go_enter Tryz.func17, Tryz.ntmps17
        go_wp2_with fail
        try rw [hW0]
        clear hW0
        refine (HI.out _).mono ?_
        rintro e w1 ⟨rfl, rfl⟩
        go_wp2_with fail
        refine (HA.out _).mono ?_
        rintro e w1 ⟨rfl, rfl⟩
        go_wp2_with fail
        go_ret2
        exact ⟨rfl, HUP.out _ ha0, Kept.of_belowX ha0⟩
      | false =>
        rw [h3] at HA
        by_cases h4 : pe = 0
        · have g4 : decide (pe = 0) = true := decide_eq_true h4
          rw [g4] at f2
          simp only [if_true, if_neg h2, Bool.false_eq_true, if_false, if_pos h4, if_neg (show ¬ (2 : Int) = 0 by decide)]
          clear g2 h2 g4 h4
          go_enter Tryz.func17, Tryz.ntmps17
          go_wp2_with fail
          try rw [hW0]
          clear hW0
          refine (HI.out _).mono ?_
          rintro e w1 ⟨rfl, rfl⟩
          go_wp2_with fail
          refine (HA.out _).mono ?_
          rintro e w1 ⟨rfl, rfl⟩
          go_wp2_with fail
          go_ret2
          exact ⟨rfl, HUP.out _ ha0, Kept.of_belowX ha0⟩
        · have g4 : decide (pe = 0) = false := decide_eq_false h4
          rw [g4] at f2
          cases h5 : (decide (nr = 32) && (decide (nv = 32) && decide (nn = 32))) with
          | false =>
            rw [h5] at HF
            simp only [if_true, if_neg h2, Bool.false_eq_true, if_false, if_neg h4, if_neg (show ¬ (21 : Int) = 0 by decide)]
            clear g2 h2 g4 h4 h5
            go_enter Tryz.func17, Tryz.ntmps17
            go_wp2_with fail
            try rw [hW0]
            clear hW0
            refine (HI.out _).mono ?_
            rintro e w1 ⟨rfl, rfl⟩
            go_wp2_with fail
            refine (HA.out _).mono ?_
            rintro e w1 ⟨rfl, rfl⟩
            go_wp2_with fail
            refine (HF.out _).mono ?_
            rintro e w2 ⟨rfl, hb2⟩
            have b2 := below_chain ha0 ha0.size hb2
            go_wp2_with fail
            go_ret2
            exact ⟨rfl, HUP.out _ b2, Kept.of_belowX b2⟩
          | true =>
            rw [h5] at HF
            simp only [if_true, if_neg h2, Bool.false_eq_true, if_false, if_neg h4]
            clear g2 h2 g4 h4 h5
            go_enter Tryz.func17, Tryz.ntmps17
            go_wp2_with fail
            try rw [hW0]
            clear hW0
            refine (HI.out _).mono ?_
            rintro e w1 ⟨rfl, rfl⟩
            go_wp2_with fail
            refine (HA.out _).mono ?_
            rintro e w1 ⟨rfl, rfl⟩
            go_wp2_with fail
            refine (HF.out _).mono ?_
            rintro e w2 ⟨rfl, hb2⟩
            have b2 := below_chain ha0 ha0.size hb2
            have k2 := (hb2.block _ (blk_lt hbox)).trans hbox
            have HN2 := Lib.hid (HN.out _ b2)
            have HK2 := Lib.hid k2
            have HB2 := Lib.hid b2
            clear HI HA HF HN HUP q0 q1 q2 q3 q4 q5 hb2 ha0 hbox k2 b2
            go_wp2_with fail
            refine HN2.out.mono ?_
            rintro e w3 ⟨rfl, A3, hk3⟩
            have HP3 := Lib.hid (HP0.out _ A3)
            have c0 := hk3.cell (blk_cell HK2.out 0)
            have c1 := hk3.cell (blk_cell HK2.out 1)
            clear HN2 HP0 A3
            go_wp2_with fail
            refine HP3.out.mono ?_
            rintro e w4 ⟨rfl, A4, hk4⟩
            have hk24 := hk3.transX hk4
            have hkw := (Kept.of_belowX HB2.out).transX hk24
            have HT4 := Lib.hid (HT0.out _ _ A4 hkw)
            have c0 := hk24.cell (blk_cell HK2.out 0)
            have c1 := hk24.cell (blk_cell HK2.out 1)
            have c2 := hk24.cell (blk_cell HK2.out 2)
            have c3 := hk24.cell (blk_cell HK2.out 3)
            have c4 := hk24.cell (blk_cell HK2.out 4)
            have c5 := hk24.cell (blk_cell HK2.out 5)
            clear HP3 HT0 A4 hk3 hk4 hk24
            go_wp2_with fail
            refine HT4.out.mono ?_
            rintro e w5 ⟨rfl, A5, hk5⟩
            have hkf := hkw.transX hk5
            go_wp2_with fail
            go_ret2
            exact ⟨rfl, by rw [← HR3.out]; exact A5, hkf⟩
end Go.Proofs.YtaafaaoioleokaaGreatDoor
