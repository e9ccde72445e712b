
/- The walk of package sha: 64 bytes more. -/
import Derived.Test.YtohnhdandkkonaaDoorShaS
import Derived.Test.YtohnhdandkkonaaDoorShaQ
import Derived.Deep.QuietTactic
import Derived.BigQuiet
namespace Go.Proofs.YtohnhdandkkonaaDoor
open Go.RowKit

/-- what stays while the rounds are made -/
structure KW (n0 g : Nat) (w : World) (s : S8) (ws : List UInt32) (fr : TypeId × Nat × Nat) (w' : World) : Prop where
  st : w'.heap[n0]? = some (.cells #[.int .u32 (s.a.toNat : Int), .int .u32 (s.b.toNat : Int), .int .u32 (s.c.toNat : Int), .int .u32 (s.d.toNat : Int), .int .u32 (s.e.toNat : Int), .int .u32 (s.f.toNat : Int), .int .u32 (s.g.toNat : Int), .int .u32 (s.h.toNat : Int)] 88 (0, 0))
  res : w'.heap[n0 + 1]? = some (.cells #[.int .u32 0, .int .u32 0, .int .u32 0, .int .u32 0, .int .u32 0, .int .u32 0, .int .u32 0, .int .u32 0] 88 (0, 0))
  tab : w'.heap[2]? = some (.cells kVals fr.1 fr.2)
  row : ∀ j, j < 64 → w'.cell? ⟨g, j, none⟩ = some (.int .u32 ((ws.getD j 0).toNat : Int))
  bel : Below n0 w w'
theorem KW.drew {n0 g : Nat} {w : World} {s : S8} {ws : List UInt32} {fr : TypeId × Nat × Nat} {w' : World} (h : KW n0 g w s ws fr w') : KW n0 g w s ws fr w'.drew := ⟨h.st, h.res, h.tab, h.row, h.bel.drew⟩
theorem KW.drewN {n0 g : Nat} {w : World} {s : S8} {ws : List UInt32} {fr : TypeId × Nat × Nat} {w' : World} (h : KW n0 g w s ws fr w') (k : Nat) : KW n0 g w s ws fr (w'.drewN k) := ⟨h.st, h.res, h.tab, h.row, below_drewN' h.bel k⟩

theorem turn_quiet (x : UInt32) (n : Nat) (w : World) (m : Nat) (h0 : 0 < n) (hn : n < 32) :
    Calls Tryd.prog 74 #[.int .u32 (x.toNat : Int), .int .i64 (n : Int)] (w.drewN m) fun e w'' => e = .returned (.int .u32 ((rotr x n).toNat : Int)) ∧ ∃ k, w'' = w.drewN k :=
  Calls.quiet_of_same ((turn_any x n _ h0 hn).mono fun _ _ ⟨h, e⟩ => ⟨h, e.symm⟩)

theorem w_not (x : UInt32) : bits BinOp.xor IntKind.u32 IntKind.u32.max (x.toNat : Int) = ((~~~ x).toNat : Int) := by
  have hx := x.toNat_lt
  have := xor32 4294967295 x.toNat (by omega) (by omega)
  rw [show IntKind.u32.max = ((4294967295 : Nat) : Int) by rfl, this]
  have h2 : (4294967295 : UInt32) ^^^ x = ~~~ x := by
    refine UInt32.toBitVec_inj.1 ?_
    rw [UInt32.toBitVec_xor, UInt32.toBitVec_not, show (4294967295 : UInt32).toBitVec = BitVec.allOnes 32 by decide]
    exact BitVec.allOnes_xor
  rw [← h2, UInt32.toNat_xor]
  rfl

theorem w_sum (x y : UInt32) : ((x.toNat : Int) + (y.toNat : Int)) % 4294967296 = ((x + y).toNat : Int) := by rw [UInt32.toNat_add]; omega

theorem list_one (s : S8) : ∀ v ∈ s.list, v.oneCell' = true := by
  intro v hv
  simp only [S8.list, List.mem_cons, List.not_mem_nil, or_false] at hv
  rcases hv with rfl | rfl | rfl | rfl | rfl | rfl | rfl | rfl <;> rfl

theorem _root_.Go.wp_build_to {P : Program} {o : Oper} {a : Act} {w : World} {K : Act → World → Prop} {Q : Exit → Act → World → Prop} (t : TypeId) (parts : Array (Nat × Operand)) (cells : Array Value) (ho : o.op = .build t parts)
    (hf : P.built t (parts.map fun (i, x) => (i, a.eval x)).toList = some cells)
    (h : K (a.put o.dst (.agg cells)) w) : o.wp P a w K Q := by
  unfold Oper.wp execOp
  simp only [ho, Sem.run_bind, run_build w t _ cells hf, Result.andThen_ok]
  exact h

theorem info37 : (Tryd.prog.info? 88).map (fun i => i.zero) = some (some (.agg #[.int .u32 0, .int .u32 0, .int .u32 0, .int .u32 0, .int .u32 0, .int .u32 0, .int .u32 0, .int .u32 0])) := by kernel_rfl
theorem info35 : (Tryd.prog.info? 78).map (fun i => i.size) = some 1 := by kernel_rfl
theorem und37 : Tryd.prog.underlying 88 = some (.array 8 78) := by kernel_rfl
theorem build8 (x0 x1 x2 x3 x4 x5 x6 x7 : Int) : Tryd.prog.built 88 [(0, .int .u32 x0), (1, .int .u32 x1), (2, .int .u32 x2), (3, .int .u32 x3), (4, .int .u32 x4), (5, .int .u32 x5), (6, .int .u32 x6), (7, .int .u32 x7)] = some #[.int .u32 x0, .int .u32 x1, .int .u32 x2, .int .u32 x3, .int .u32 x4, .int .u32 x5, .int .u32 x6, .int .u32 x7] := by
  have h37 := info37
  have h35 := info35
  cases e37 : Tryd.prog.info? 88 with
  | none => rw [e37] at h37; cases h37
  | some i =>
    cases e35 : Tryd.prog.info? 78 with
    | none => rw [e35] at h35; cases h35
    | some j =>
      rw [e37] at h37
      rw [e35] at h35
      simp only [Option.map_some, Option.some.injEq] at h37 h35
      simp only [Program.built, e37, und37, e35, h37, h35]
      simp [Instr.fill, Value.cells]

theorem sw_cells (l : List UInt8) (j : Nat) (h : j < 64) : (arr64 (sw l 64))[j]? = some (.int .u32 (((sw l 64).getD j 0).toNat : Int)) := arr64_get _ _ (by rw [sw_length]; omega)

set_option maxRecDepth 100000 in
set_option maxHeartbeats 4000000 in
theorem taken_any (s : S8) (v : Value) (l : List UInt8) (w : World) (hr : Rd w w.heap.size v l) (hl : l.length = 64)
    (fr : TypeId × Nat × Nat) (hk : w.heap[2]? = some (.cells kVals fr.1 fr.2)) :
    Calls Tryd.prog 60 #[s.val, v] w fun e w' => e = .returned (taken8 s l).val ∧ Below w.heap.size w w' := by
  unfold S8.val
  have hn0 := blk_lt hk
  go_enter Tryd.func60, Tryd.ntmps60
  go_wp2_with fail
  refine (schedule_any v l _ ?_ hl).mono ?_
  · exact ((hr.alloc (Nat.le_refl _) _).alloc (by simp) _).more (by simp; omega)
  rintro e w1 ⟨rfl, hbw⟩
  obtain ⟨n0, hn⟩ : ∃ n, n = w.heap.size := ⟨_, rfl⟩
  have hA : w1.heap[n0]? = some (.cells #[.int .u32 (s.a.toNat : Int), .int .u32 (s.b.toNat : Int), .int .u32 (s.c.toNat : Int), .int .u32 (s.d.toNat : Int), .int .u32 (s.e.toNat : Int), .int .u32 (s.f.toNat : Int), .int .u32 (s.g.toNat : Int), .int .u32 (s.h.toNat : Int)] 88 (0, 0)) := by
    rw [hn, hbw.block w.heap.size (by simp; omega), Below.heap_alloc _ _ w.heap.size (by simp)]
    exact heap_alloc_new w _
  have hZ : w1.heap[n0 + 1]? = some (.cells #[.int .u32 0, .int .u32 0, .int .u32 0, .int .u32 0, .int .u32 0, .int .u32 0, .int .u32 0, .int .u32 0] 88 (0, 0)) := by
    rw [hn, hbw.block (w.heap.size + 1) (by simp)]
    have := heap_alloc_new (w.alloc (.cells #[.int .u32 (s.a.toNat : Int), .int .u32 (s.b.toNat : Int), .int .u32 (s.c.toNat : Int), .int .u32 (s.d.toNat : Int), .int .u32 (s.e.toNat : Int), .int .u32 (s.f.toNat : Int), .int .u32 (s.g.toNat : Int), .int .u32 (s.h.toNat : Int)] 88)) (.cells #[.int .u32 0, .int .u32 0, .int .u32 0, .int .u32 0, .int .u32 0, .int .u32 0, .int .u32 0, .int .u32 0] 88)
    simpa using this
  have hK : w1.heap[2]? = some (.cells kVals fr.1 fr.2) := by
    have hn1 := hn0
    rw [hbw.block 2 (by simp; omega), Below.heap_alloc _ _ 2 (by simp; omega), Below.heap_alloc _ _ 2 hn0]
    exact hk
  have hB : Below n0 w w1 := by
    have h0 : Below n0 w ((w.alloc (.cells #[.int .u32 (s.a.toNat : Int), .int .u32 (s.b.toNat : Int), .int .u32 (s.c.toNat : Int), .int .u32 (s.d.toNat : Int), .int .u32 (s.e.toNat : Int), .int .u32 (s.f.toNat : Int), .int .u32 (s.g.toNat : Int), .int .u32 (s.h.toNat : Int)] 88)).alloc (.cells #[.int .u32 0, .int .u32 0, .int .u32 0, .int .u32 0, .int .u32 0, .int .u32 0, .int .u32 0, .int .u32 0] 88)) :=
      ((Below.refl n0 w).alloc (by omega) _).alloc (by simp; omega) _
    exact below_chain h0 (by simp; omega) hbw
  have hsz : n0 + 2 ≤ w1.heap.size := by have := hbw.size; simp at this; omega
  have hL := arr64_length (sw l 64) (by rw [sw_length]; omega)
  clear hbw
  simp only [← hn]
  go_wp2_with (
    with_reducible refine at_store 84 ?_
    generalize hwa : World.alloc w1 _ = wa
    obtain ⟨Z, hZs, hG⟩ : ∃ Z : Array Value, Z.size = 64 ∧ wa.heap[w1.heap.size]? = some (.cells Z 84 (0, 0)) := ⟨_, rfl, by rw [← hwa]; exact heap_alloc_new w1 _⟩
    have hAa : wa.heap[n0]? = _ := (by rw [← hwa, Below.heap_alloc _ _ n0 (by omega)] : wa.heap[n0]? = w1.heap[n0]?).trans hA
    have hZa : wa.heap[n0 + 1]? = _ := (by rw [← hwa, Below.heap_alloc _ _ (n0 + 1) (by omega)] : wa.heap[n0 + 1]? = w1.heap[n0 + 1]?).trans hZ
    have hKa : wa.heap[2]? = _ := (by rw [← hwa, Below.heap_alloc _ _ 2 (by omega)] : wa.heap[2]? = w1.heap[2]?).trans hK
    have hBa : Below n0 w wa := by rw [← hwa]; exact hB.alloc (by omega) _
    obtain ⟨g, hg⟩ : ∃ g, g = w1.heap.size := ⟨_, rfl⟩
    rw [← hg] at hG
    simp only [← hg]
    have hF : n0 + 1 < g := by omega
    have hth : wa.there g 0 64 := by
      intro j hj
      rw [show (0 + j) = j by omega, blk_cell hG j, blk_free hG j]
      simp [show j < Z.size by omega]
    clear hA hZ hK hB hsz hg hwa hG hZs w1
    have hmid := World.rangeAt_setCells_same wa g 0 (arr64 (sw l 64)) (by rw [hL]; exact hth)
    have hA : (wa.setCells g 0 (arr64 (sw l 64))).heap[n0]? = _ := (heap_setCells_out (by omega) _ 0 wa).trans hAa
    have hZ : (wa.setCells g 0 (arr64 (sw l 64))).heap[n0 + 1]? = _ := (heap_setCells_out (by omega) _ 0 wa).trans hZa
    have hK : (wa.setCells g 0 (arr64 (sw l 64))).heap[2]? = _ := (heap_setCells_out (by omega) _ 0 wa).trans hKa
    have hB : Below n0 w (wa.setCells g 0 (arr64 (sw l 64))) := Below.setCells (by omega) _ 0 hBa
    have hW : ∀ j, j < 64 → (wa.setCells g 0 (arr64 (sw l 64))).cell? ⟨g, j, none⟩ = some (.int .u32 (((sw l 64).getD j 0).toNat : Int)) := fun j hj => by
      have := hmid j _ (sw_cells l j hj)
      rwa [show (0 + j) = j by omega] at this
    refine wpList_store_mid rfl 84 (.tmp 5) (.tmp 18) rfl g 0 (arr64 (sw l 64)).toArray rfl rfl ?_ ?_ ?_ ?_
    · rw [List.size_toArray, hL]; exact hth
    · rw [List.size_toArray, hL]; rfl
    · refine all_oneCell_toArray ?_
      intro v hv
      simp only [arr64, List.mem_append, List.mem_map, List.mem_replicate] at hv
      rcases hv with ⟨x, -, rfl⟩ | ⟨-, rfl⟩ <;> rfl
    rw [show (arr64 (sw l 64)).toArray.toList = arr64 (sw l 64) by simp]
    clear hmid hth hAa hZa hKa hBa hL
    have HN := Lib.hid hn
    clear hn
    have HK : KW n0 g w s (sw l 64) fr (wa.setCells g 0 (arr64 (sw l 64))) := ⟨hA, hZ, hK, hW, hB⟩
    clear hW hA hZ hK hB
    generalize wa.setCells g 0 (arr64 (sw l 64)) = wb at *
    apply wpList_nil)
  have a0 := blk_cell HK.st 0
  have a1 := blk_cell HK.st 1
  have a2 := blk_cell HK.st 2
  have a3 := blk_cell HK.st 3
  have a4 := blk_cell HK.st 4
  have a5 := blk_cell HK.st 5
  have a6 := blk_cell HK.st 6
  have a7 := blk_cell HK.st 7
  simp at a0 a1 a2 a3 a4 a5 a6 a7
  go_wp2
  go_quiet (fail)
  go_wp2
  have HK2 := HK.drewN nq
  clear HK a0 a1 a2 a3 a4 a5 a6 a7
  generalize wb.drewN nq = wc at *
  go_loopw [6, 7, 8, 9, 10, 11, 12, 13, 35] (fun v6 v7 v8 v9 v10 v11 v12 v13 i wr => ∃ (t : Nat) (r : S8), t ≤ 64 ∧ r = rounds (sw l 64) s t ∧ i = .int .i64 (t : Int) ∧ v6 = .int .u32 (r.a.toNat : Int) ∧ v7 = .int .u32 (r.b.toNat : Int) ∧ v8 = .int .u32 (r.c.toNat : Int) ∧ v9 = .int .u32 (r.d.toNat : Int)
      ∧ v10 = .int .u32 (r.e.toNat : Int) ∧ v11 = .int .u32 (r.f.toNat : Int) ∧ v12 = .int .u32 (r.g.toNat : Int) ∧ v13 = .int .u32 (r.h.toNat : Int) ∧ KW n0 g w s (sw l 64) fr wr)
    (fun _ _ _ _ _ _ _ _ i _ => 64 - (intOf i).toNat)
  case atStart => exact ⟨0, s, Nat.zero_le _, rfl, rfl, rfl, rfl, rfl, rfl, rfl, rfl, rfl, rfl, HK2⟩
  case round =>
    clear HK2
    obtain ⟨t, r, ht, hr, rfl, rfl, rfl, rfl, rfl, rfl, rfl, rfl, rfl, HK⟩ := hrel
    by_cases hlt : t < 64
    · have i1 : (0 : Int) ≤ (t : Int) := by omega
      have i2 : (t : Int) < 64 := by omega
      have e1 := HK.row t hlt
      have e2 : wr.cell? ⟨2, t, none⟩ = _ := (cell_of_row wr 2 t kVals _ fr.2 HK.tab).trans (kTab_get t hlt)
      obtain ⟨k, hk⟩ : ∃ k, k = kTab.getD t 0 := ⟨_, rfl⟩
      obtain ⟨x, hx⟩ : ∃ x, x = (sw l 64).getD t 0 := ⟨_, rfl⟩
      rw [← hk] at e2
      rw [← hx] at e1
      go_wp2
      have HR := Lib.hid (And.intro hr (And.intro hk hx))
      clear hr hk hx
      have T6 := Lib.hid (show ∀ W n, Calls Tryd.prog 74 #[.int .u32 (r.e.toNat : Int), .int .i64 6] (W.drewN n) (fun e w'' => e = .returned (.int .u32 ((rotr r.e 6).toNat : Int)) ∧ ∃ k, w'' = W.drewN k) from fun W n => turn_quiet r.e 6 W n (by omega) (by omega))
      have T11 := Lib.hid (show ∀ W n, Calls Tryd.prog 74 #[.int .u32 (r.e.toNat : Int), .int .i64 11] (W.drewN n) (fun e w'' => e = .returned (.int .u32 ((rotr r.e 11).toNat : Int)) ∧ ∃ k, w'' = W.drewN k) from fun W n => turn_quiet r.e 11 W n (by omega) (by omega))
      have T25 := Lib.hid (show ∀ W n, Calls Tryd.prog 74 #[.int .u32 (r.e.toNat : Int), .int .i64 25] (W.drewN n) (fun e w'' => e = .returned (.int .u32 ((rotr r.e 25).toNat : Int)) ∧ ∃ k, w'' = W.drewN k) from fun W n => turn_quiet r.e 25 W n (by omega) (by omega))
      go_quiet ((go_at_call 74; first | with_reducible exact T6.out _ _ | with_reducible exact T11.out _ _ | with_reducible exact T25.out _ _))
      go_wp2_with fail
      have hnot : bits BinOp.xor IntKind.u32 IntKind.u32.max (r.e.toNat : Int) = ((~~~ r.e).toNat : Int) := w_not r.e
      have hT1 : ((r.h.toNat : Int) + bits BinOp.xor IntKind.u32 (bits BinOp.xor IntKind.u32 ↑(rotr r.e 6).toNat ↑(rotr r.e 11).toNat) ↑(rotr r.e 25).toNat + bits BinOp.xor IntKind.u32 (bits BinOp.and IntKind.u32 ↑r.e.toNat ↑r.f.toNat) (bits BinOp.and IntKind.u32 (bits BinOp.xor IntKind.u32 IntKind.u32.max ↑r.e.toNat) ↑r.g.toNat) + (k.toNat : Int) + (x.toNat : Int)) % 4294967296 = ((t1of k x r).toNat : Int) := by
        rw [hnot, w_xor, w_xor, w_and, w_and, w_xor]
        unfold t1of
        generalize rotr r.e 6 ^^^ rotr r.e 11 ^^^ rotr r.e 25 = A
        generalize (r.e &&& r.f ^^^ (~~~ r.e) &&& r.g) = B
        simp only [UInt32.toNat_add]
        omega
      rw [hT1]
      clear hT1 hnot
      obtain ⟨T, hT⟩ : ∃ T, T = t1of k x r := ⟨_, rfl⟩
      rw [← hT]
      have HT := Lib.hid hT
      have HK2 := HK.drewN nq
      clear hT HK e1 e2 h
      generalize wr.drewN nq = wd at *
      refine (turn_any r.a 2 _ (by omega) (by omega)).mono ?_
      rintro e w' ⟨rfl, rfl⟩
      go_wp2_with fail
      refine (turn_any r.a 13 _ (by omega) (by omega)).mono ?_
      rintro e w' ⟨rfl, rfl⟩
      go_wp2_with fail
      refine (turn_any r.a 22 _ (by omega) (by omega)).mono ?_
      rintro e w' ⟨rfl, rfl⟩
      go_wp2_with fail
      go_roundw
      case rel =>
        obtain ⟨h1, h2, h3⟩ := HR.out
        refine ⟨t + 1, r.step k x, by omega, ?_, by go_num, ?_, rfl, rfl, rfl, ?_, rfl, rfl, rfl, HK2⟩
        · rw [h1, h2, h3]; rfl
        · simp only [w_xor, w_and, S8.step, t2of, ← HT.out]
          refine congrArg (Value.int .u32) ?_
          simp only [UInt32.toNat_add]
          omega
        · simp only [S8.step, ← HT.out]
          refine congrArg (Value.int .u32) ?_
          simp only [UInt32.toNat_add]
          omega
      case measure => simp [intOf]; omega
    · have ht64 : t = 64 := by omega
      subst ht64
      have i3 : ¬ ((64 : Nat) : Int) < 64 := by omega
      have a0 := blk_cell HK.st 0
      have a1 := blk_cell HK.st 1
      have a2 := blk_cell HK.st 2
      have a3 := blk_cell HK.st 3
      have a4 := blk_cell HK.st 4
      have a5 := blk_cell HK.st 5
      have a6 := blk_cell HK.st 6
      have a7 := blk_cell HK.st 7
      simp at a0 a1 a2 a3 a4 a5 a6 a7
      have HR := Lib.hid hr
      clear hr hlt
      have q0 := w_sum s.a r.a
      have q1 := w_sum s.b r.b
      have q2 := w_sum s.c r.c
      have q3 := w_sum s.d r.d
      have q4 := w_sum s.e r.e
      have q5 := w_sum s.f r.f
      have q6 := w_sum s.g r.g
      have q7 := w_sum s.h r.h
      go_wp2_with (
        with_reducible refine at_build 88 ?_
        refine wpList_plain rfl fun K hK9 => wp_build_to 88 _ (s.add r).list.toArray rfl ?_ (hK9 _ _ ?_)
        · simp only [List.map_toArray, List.map_cons, List.map_nil]
          exact build8 _ _ _ _ _ _ _ _
        refine wpList_store_mid rfl 88 (.tmp 4) (.tmp 130) rfl (n0 + 1) 0 (s.add r).list.toArray rfl rfl ?_ ?_ (all_oneCell_toArray (list_one _)) ?_
        · intro j hj
          rw [show (0 + j) = j by omega, blk_cell HK.res j, blk_free HK.res j]
          have hj8 : j < 8 := hj
          simp [hj8]
        · rfl
        have hmid := World.rangeAt_setCells_same wr (n0 + 1) 0 (s.add r).list (by
          intro j hj
          rw [show (0 + j) = j by omega, blk_cell HK.res j, blk_free HK.res j]
          have hj8 : j < 8 := hj
          simp [hj8])
        have hwf := Below.setCells (show n0 ≤ n0 + 1 by omega) (s.add r).list 0 HK.bel
        rw [show (s.add r).list.toArray.toList = (s.add r).list by simp]
        clear HK a0 a1 a2 a3 a4 a5 a6 a7 q0 q1 q2 q3 q4 q5 q6 q7
        generalize wr.setCells (n0 + 1) 0 (s.add r).list = wf at *
        apply wpList_nil)
      go_wp2_with fail
      refine bodyPost_ret (results_cell_mid rfl _ wf (n0 + 1) 0 (s.add r).list _ rfl hmid rfl rfl rfl) rfl ?_
      rw [HR.out]
      refine ⟨rfl, ?_⟩
      rw [← HN.out]
      exact hwf
end Go.Proofs.YtohnhdandkkonaaDoor
