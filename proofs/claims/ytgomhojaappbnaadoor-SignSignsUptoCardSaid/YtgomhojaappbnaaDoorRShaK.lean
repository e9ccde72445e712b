/- The walk of the document's block: 64 bytes more. -/
import Derived.Test.YtgomhojaappbnaaDoorShaK
import Derived.Test.YtgomhojaappbnaaDoorRShaT
namespace Go.Proofs.YtgomhojaappbnaaDoor
open Go.RowKit

/-- what stays while the rounds are made -/
structure KB (n0 : Nat) (w : World) (s : S8) (p : List UInt32) (fr : TypeId × Nat × Nat) (w' : World) : Prop where
  st : w'.heap[n0]? = some (.cells #[.int .u32 (s.a.toNat : Int), .int .u32 (s.b.toNat : Int), .int .u32 (s.c.toNat : Int), .int .u32 (s.d.toNat : Int), .int .u32 (s.e.toNat : Int), .int .u32 (s.f.toNat : Int), .int .u32 (s.g.toNat : Int), .int .u32 (s.h.toNat : Int)] 61 (0, 0))
  res : w'.heap[n0 + 1]? = some (.cells #[.int .u32 0, .int .u32 0, .int .u32 0, .int .u32 0, .int .u32 0, .int .u32 0, .int .u32 0, .int .u32 0] 61 (0, 0))
  tab : w'.heap[1]? = some (.cells kVals fr.1 fr.2)
  row : w'.heap[n0 + 1 + 1]? = some (.cells (arr64 p).toArray 66 (0, 0))
  bel : Below n0 w w'
theorem KB.drew {n0 : Nat} {w : World} {s : S8} {p : List UInt32} {fr : TypeId × Nat × Nat} {w' : World} (h : KB n0 w s p fr w') : KB n0 w s p fr w'.drew := ⟨h.st, h.res, h.tab, h.row, h.bel.drew⟩
theorem KB.drewN {n0 : Nat} {w : World} {s : S8} {p : List UInt32} {fr : TypeId × Nat × Nat} {w' : World} (h : KB n0 w s p fr w') (k : Nat) : KB n0 w s p fr (w'.drewN k) := ⟨h.st, h.res, h.tab, h.row, below_drewN' h.bel k⟩
theorem KB.put {n0 : Nat} {w : World} {s : S8} {p : List UInt32} {fr : TypeId × Nat × Nat} {w' : World} (h : KB n0 w s p fr w') (h0 : 1 < n0) (x : UInt32) (t : Nat) (ht : p.length = t) (h64 : t < 64) :
    KB n0 w s (p ++ [x]) fr (w'.setCell ⟨n0 + 1 + 1, t, none⟩ (.int .u32 (x.toNat : Int))) := by
  subst ht
  refine ⟨(Below.heap_setCell w' _ _ n0 (by simp <;> omega)).trans h.st, (Below.heap_setCell w' _ _ (n0 + 1) (by simp)).trans h.res, (Below.heap_setCell w' _ _ _ (by simp <;> omega)).trans h.tab, ?_, h.bel.setCell (by simp <;> omega) _⟩
  rw [blk_set h.row, ← arr64_set _ _ h64]
  simp
theorem KB.start (w : World) (s : S8) (fr : TypeId × Nat × Nat) (hk : w.heap[1]? = some (.cells kVals fr.1 fr.2)) :
    KB w.heap.size w s [] fr (((w.alloc (.cells #[.int .u32 (s.a.toNat : Int), .int .u32 (s.b.toNat : Int), .int .u32 (s.c.toNat : Int), .int .u32 (s.d.toNat : Int), .int .u32 (s.e.toNat : Int), .int .u32 (s.f.toNat : Int), .int .u32 (s.g.toNat : Int), .int .u32 (s.h.toNat : Int)] 61)).alloc
      (.cells #[.int .u32 0, .int .u32 0, .int .u32 0, .int .u32 0, .int .u32 0, .int .u32 0, .int .u32 0, .int .u32 0] 61)).alloc (.cells (arr64 []).toArray 66)) := by
  have h0 := blk_lt hk
  refine ⟨?_, ?_, ?_, ?_, (((Below.refl _ _).alloc (Nat.le_refl _) _).alloc (by simp) _).alloc (by simp <;> omega) _⟩
  · exact (Below.heap_alloc _ _ _ (by simp <;> omega)).trans ((Below.heap_alloc _ _ _ (by simp)).trans (heap_alloc_new w _))
  · refine (Below.heap_alloc _ _ _ (by simp)).trans ?_
    have := heap_alloc_new (w.alloc (.cells #[.int .u32 (s.a.toNat : Int), .int .u32 (s.b.toNat : Int), .int .u32 (s.c.toNat : Int), .int .u32 (s.d.toNat : Int), .int .u32 (s.e.toNat : Int), .int .u32 (s.f.toNat : Int), .int .u32 (s.g.toNat : Int), .int .u32 (s.h.toNat : Int)] 61)) (.cells #[.int .u32 0, .int .u32 0, .int .u32 0, .int .u32 0, .int .u32 0, .int .u32 0, .int .u32 0, .int .u32 0] 61)
    simpa using this
  · exact (Below.heap_alloc _ _ _ (by simp <;> omega)).trans ((Below.heap_alloc _ _ _ (by simp <;> omega)).trans ((Below.heap_alloc _ _ _ h0).trans hk))
  · have := heap_alloc_new ((w.alloc (.cells #[.int .u32 (s.a.toNat : Int), .int .u32 (s.b.toNat : Int), .int .u32 (s.c.toNat : Int), .int .u32 (s.d.toNat : Int), .int .u32 (s.e.toNat : Int), .int .u32 (s.f.toNat : Int), .int .u32 (s.g.toNat : Int), .int .u32 (s.h.toNat : Int)] 61)).alloc (.cells #[.int .u32 0, .int .u32 0, .int .u32 0, .int .u32 0, .int .u32 0, .int .u32 0, .int .u32 0, .int .u32 0] 61)) (.cells (arr64 []).toArray 66)
    simpa using this

theorem rinfo8 : (Tryd.prog.info? 61).map (fun i => i.zero) = some (some (.agg #[.int .u32 0, .int .u32 0, .int .u32 0, .int .u32 0, .int .u32 0, .int .u32 0, .int .u32 0, .int .u32 0])) := by kernel_rfl
theorem rund8 : Tryd.prog.underlying 61 = some (.array 8 60) := by kernel_rfl
theorem rbuild8 (x0 x1 x2 x3 x4 x5 x6 x7 : Int) : Tryd.prog.built 61 [(0, .int .u32 x0), (1, .int .u32 x1), (2, .int .u32 x2), (3, .int .u32 x3), (4, .int .u32 x4), (5, .int .u32 x5), (6, .int .u32 x6), (7, .int .u32 x7)] = some #[.int .u32 x0, .int .u32 x1, .int .u32 x2, .int .u32 x3, .int .u32 x4, .int .u32 x5, .int .u32 x6, .int .u32 x7] := by
  have h37 := rinfo8
  have h35 := info35
  cases e37 : Tryd.prog.info? 61 with
  | none => rw [e37] at h37; cases h37
  | some i =>
    cases e35 : Tryd.prog.info? 60 with
    | none => rw [e35] at h35; cases h35
    | some j =>
      rw [e37] at h37
      rw [e35] at h35
      simp only [Option.map_some, Option.some.injEq] at h37 h35
      simp only [Program.built, e37, rund8, e35, h37, h35]
      simp [Instr.fill, Value.cells]

set_option maxRecDepth 100000 in
set_option maxHeartbeats 8000000 in
theorem rblock_any (s : S8) (v : Value) (l : List UInt8) (w : World) (hr : Rd w w.heap.size v l) (hl : l.length = 64)
    (fr : TypeId × Nat × Nat) (hk : w.heap[1]? = some (.cells kVals fr.1 fr.2)) :
    Calls Tryd.prog 49 #[s.val, v] w fun e w' => e = .returned (taken8 s l).val ∧ Below w.heap.size w w' := by
  unfold S8.val
  have hn0 := blk_lt hk
  have HK0 := Lib.hid (KB.start w s fr hk)
  obtain ⟨A, c, rfl, hc, hcm, hp⟩ := hr
  obtain ⟨b, o, rfl, hb, hcell⟩ := hp (by omega)
  rw [hl] at hc ⊢
  have HC := Lib.hid hcell
  clear hcell hp hk
  go_enter Tryd.func49, Tryd.ntmps49
  go_wp2
  go_loopw [6] (fun i wr => ∃ t : Nat, t ≤ 16 ∧ i = .int .i64 (t : Int) ∧ KB w.heap.size w s (sw l t) fr wr)
    (fun i _ => 16 - (intOf i).toNat)
  case atStart => exact ⟨0, Nat.zero_le _, rfl, HK0.out⟩
  case round =>
    clear HK0
    obtain ⟨t, ht, rfl, HK⟩ := hrel
    by_cases hlt : t < 16
    · have hst := sw_lt l t hlt hl
      have cell : ∀ j (h : j < 64), wr.cell? ⟨b, o + j, none⟩ = some (.int .u8 ((l[j]'(by omega)).toNat : Int)) := fun j h => (HK.bel.cell (p := ⟨b, o + j, none⟩) hb).trans (HC.out j (by omega))
      have e0 := cell (4 * t) (by omega)
      have e1 := cell (4 * t + 1) (by omega)
      have e2 := cell (4 * t + 2) (by omega)
      have e3 := cell (4 * t + 3) (by omega)
      have eH : wr.cell? ⟨w.heap.size + 1 + 1, t, none⟩ = some (.int .u32 0) := by
        rw [blk_cell HK.row t]
        have := arr64_old (sw l t) (by rw [sw_length]; omega)
        rw [sw_length] at this
        simpa using this
      have eF : wr.frozen? ⟨w.heap.size + 1 + 1, t, none⟩ = false := blk_free HK.row t
      obtain ⟨q, hq⟩ : ∃ q, q = 4 * t := ⟨_, rfl⟩
      have m0 : IntKind.i64.wrap (4 * (t : Int)) = (q : Int) := by rw [IntKind.wrap_i64]; omega
      have m1 : IntKind.i64.wrap ((q : Int) + 1) = ((q + 1 : Nat) : Int) := by rw [IntKind.wrap_i64]; omega
      have m2 : IntKind.i64.wrap ((q : Int) + 2) = ((q + 2 : Nat) : Int) := by rw [IntKind.wrap_i64]; omega
      have m3 : IntKind.i64.wrap ((q : Int) + 3) = ((q + 3 : Nat) : Int) := by rw [IntKind.wrap_i64]; omega
      obtain ⟨q1, hq1⟩ : ∃ q1, q1 = q + 1 := ⟨_, rfl⟩
      obtain ⟨q2, hq2⟩ : ∃ q2, q2 = q + 2 := ⟨_, rfl⟩
      obtain ⟨q3, hq3⟩ : ∃ q3, q3 = q + 3 := ⟨_, rfl⟩
      rw [← hq1] at m1
      rw [← hq2] at m2
      rw [← hq3] at m3
      have b0 : (0 : Int) ≤ (q : Int) := by omega
      have b1 : (0 : Int) ≤ (q1 : Int) := by omega
      have b2 : (0 : Int) ≤ (q2 : Int) := by omega
      have b3 : (0 : Int) ≤ (q3 : Int) := by omega
      have d0 : (q : Int) < 64 := by omega
      have d1 : (q1 : Int) < 64 := by omega
      have d2 : (q2 : Int) < 64 := by omega
      have d3 : (q3 : Int) < 64 := by omega
      generalize l[4 * t]'(by omega) = x0 at *
      generalize l[4 * t + 1]'(by omega) = x1 at *
      generalize l[4 * t + 2]'(by omega) = x2 at *
      generalize l[4 * t + 3]'(by omega) = x3 at *
      rw [show 4 * t = q from hq.symm] at e0
      rw [show 4 * t + 1 = q1 by omega] at e1
      rw [show 4 * t + 2 = q2 by omega] at e2
      rw [show 4 * t + 3 = q3 by omega] at e3
      have HS := Lib.hid hst
      have HP := Lib.hid (HK.put hn0 (word4 x0 x1 x2 x3) t (sw_length l t) (by omega))
      have i1 : (0 : Int) ≤ (t : Int) := by omega
      have i2 : (t : Int) < 16 := by omega
      have i3 : (t : Int) < 64 := by omega
      clear cell hst hq hq1 hq2 hq3 HK
      go_wp2
      go_still_tail 35, (by kernel_rfl)
      change wpList _ _ _ _ _ wr.drew
      go_wp2
      rw [word4_walk]
      refine ⟨⟨t + 1, by omega, by go_num, ?_⟩, by simp [intOf]; omega⟩
      rw [HS.out]
      exact HP.out.drew
    · have hlt' : ¬ (t : Int) < 16 := by omega
      obtain ⟨t1, rfl⟩ : ∃ t1 : Nat, t1 = t := ⟨_, rfl⟩
      have ht16 : 16 ≤ t1 := by omega
      have ht17 : t1 ≤ 16 := ht
      clear hlt ht HC
      go_wp2
      obtain ⟨wq, rfl⟩ : ∃ wq : World, wq = wr := ⟨_, rfl⟩
      go_loopw [7] (fun i wr => ∃ t : Nat, 16 ≤ t ∧ t ≤ 64 ∧ i = .int .i64 (t : Int) ∧ KB w.heap.size w s (sw l t) fr wr)
        (fun i _ => 64 - (intOf i).toNat)
      case atStart => exact ⟨16, by omega, by omega, rfl, by rwa [show t1 = 16 by omega] at HK⟩
      case round =>
        clear HK
        obtain ⟨t, ht0, ht, rfl, HK⟩ := hrel
        by_cases hlt : t < 64
        · have hn := sw_ge l t ht0
          have hlen := sw_length l t
          obtain ⟨p, hp⟩ : ∃ p, p = sw l t := ⟨_, rfl⟩
          rw [← hp] at hn hlen HK
          have HN := Lib.hid hn
          have cell : ∀ j, j < t → wr.cell? ⟨w.heap.size + 1 + 1, j, none⟩ = some (.int .u32 ((p.getD j 0).toNat : Int)) := fun j h => by
            rw [blk_cell HK.row j]
            have := arr64_get p j (by omega)
            simpa using this
          have e2 := cell (t - 2) (by omega)
          have e7 := cell (t - 7) (by omega)
          have e15 := cell (t - 15) (by omega)
          have e16 := cell (t - 16) (by omega)
          have eH : wr.cell? ⟨w.heap.size + 1 + 1, t, none⟩ = some (.int .u32 0) := by
            rw [blk_cell HK.row t]
            have := arr64_old p (by omega)
            rw [hlen] at this
            simpa using this
          have eF : wr.frozen? ⟨w.heap.size + 1 + 1, t, none⟩ = false := blk_free HK.row t
          have HP := Lib.hid (HK.put hn0 (nextW p) t hlen hlt)
          have HL := Lib.hid hlen
          obtain ⟨t2, ht2⟩ : ∃ x, x = t - 2 := ⟨_, rfl⟩
          obtain ⟨t7, ht7⟩ : ∃ x, x = t - 7 := ⟨_, rfl⟩
          obtain ⟨t15, ht15⟩ : ∃ x, x = t - 15 := ⟨_, rfl⟩
          obtain ⟨u16, hu16⟩ : ∃ x, x = t - 16 := ⟨_, rfl⟩
          have HNX : nextW p = sig1 (p.getD t2 0) + p.getD t7 0 + sig0 (p.getD t15 0) + p.getD u16 0 := by unfold nextW; rw [hlen, ht2, ht7, ht15, hu16]
          have HX := Lib.hid HNX
          rw [← ht2] at e2
          rw [← ht7] at e7
          rw [← ht15] at e15
          rw [← hu16] at e16
          have c2 : (t : Int) - 2 = (t2 : Int) := by omega
          have c7 : (t : Int) - 7 = (t7 : Int) := by omega
          have c15 : (t : Int) - 15 = (t15 : Int) := by omega
          have c16 : (t : Int) - 16 = (u16 : Int) := by omega
          have w2 : IntKind.i64.wrap ((t : Int) - 2) = (t2 : Int) := by rw [IntKind.wrap_i64]; omega
          have w7 : IntKind.i64.wrap ((t : Int) - 7) = (t7 : Int) := by rw [IntKind.wrap_i64]; omega
          have w15 : IntKind.i64.wrap ((t : Int) - 15) = (t15 : Int) := by rw [IntKind.wrap_i64]; omega
          have w16 : IntKind.i64.wrap ((t : Int) - 16) = (u16 : Int) := by rw [IntKind.wrap_i64]; omega
          have p2 : (0 : Int) ≤ (t2 : Int) := by omega
          have p7 : (0 : Int) ≤ (t7 : Int) := by omega
          have p15 : (0 : Int) ≤ (t15 : Int) := by omega
          have p16 : (0 : Int) ≤ (u16 : Int) := by omega
          have i3 : (t : Int) < 64 := by omega
          have i4 : (t2 : Int) < 64 := by omega
          have i5 : (t7 : Int) < 64 := by omega
          have i6 : (t15 : Int) < 64 := by omega
          have i7 : (u16 : Int) < 64 := by omega
          have i8 : (0 : Int) ≤ (t : Int) := by omega
          have i9 : (16 : Int) ≤ (t : Int) := by omega
          clear cell hn hlen hp ht2 ht7 ht15 hu16 HNX
          generalize p.getD t2 0 = x2 at *
          generalize p.getD t7 0 = x7 at *
          generalize p.getD t15 0 = x15 at *
          generalize p.getD u16 0 = x16 at *
          go_wp2
          go_quiet (fail)
          go_wp2
          have f7 : (wr.drewN nq).cell? ⟨w.heap.size + 1 + 1, t7, none⟩ = some (.int .u32 (x7.toNat : Int)) := e7
          have f16 : (wr.drewN nq).cell? ⟨w.heap.size + 1 + 1, u16, none⟩ = some (.int .u32 (x16.toNat : Int)) := e16
          have fH : (wr.drewN nq).cell? ⟨w.heap.size + 1 + 1, t, none⟩ = some (.int .u32 0) := eH
          have fF : (wr.drewN nq).frozen? ⟨w.heap.size + 1 + 1, t, none⟩ = false := eF
          have HP2 : KB w.heap.size w s (p ++ [nextW p]) fr (((wr.drewN nq).setCell ⟨w.heap.size + 1 + 1, t, none⟩ (.int .u32 ((nextW p).toNat : Int))).drew) := ((HK.drewN nq).put hn0 (nextW p) t HL.out hlt).drew
          have HPP := Lib.hid HP2
          clear e2 e15 e7 e16 eH eF HK HP HP2 c2 c7 c15 c16 w2 w15 p2 p15 i4 i6
          generalize wr.drewN nq = wz at *
          refine wp_region_still_tail 29 (by kernel_rfl) (by kernel_rfl) ?_
          simp only [List.take_succ_cons, List.take_zero, List.drop_succ_cons, List.drop_zero]
          still_step
          still_step
          still_call (rturn_still x2 17 _ (by omega) (by omega))
          still_step
          still_call (rturn_still x2 19 _ (by omega) (by omega))
          still_step
          still_step
          still_step
          still_step
          still_step
          still_step
          still_step
          still_step
          still_step
          still_step
          still_call (rturn_still x15 7 _ (by omega) (by omega))
          still_step
          still_call (rturn_still x15 18 _ (by omega) (by omega))
          still_step
          still_step
          still_step
          still_step
          still_step
          still_step
          still_step
          still_step
          still_step
          still_step
          still_step
          refine wpStill_nil ?_
          change wpList _ _ _ _ _ wz.drew
          go_wp2
          have hval : (bits BinOp.xor IntKind.u32 (bits BinOp.xor IntKind.u32 ↑(rotr x2 17).toNat ↑(rotr x2 19).toNat) ((x2.toNat : Int) / 1024) + (x7.toNat : Int) + bits BinOp.xor IntKind.u32 (bits BinOp.xor IntKind.u32 ↑(rotr x15 7).toNat ↑(rotr x15 18).toNat) ((x15.toNat : Int) / 8) + (x16.toNat : Int)) % 4294967296 = ((nextW p).toNat : Int) := by
            have a1 := w_shr x2 10 (by omega)
            have a2 := w_shr x15 3 (by omega)
            rw [show (2 : Int) ^ 10 = 1024 by rfl] at a1
            rw [show (2 : Int) ^ 3 = 8 by rfl] at a2
            rw [a1, a2, w_xor, w_xor, w_xor, w_xor, HX.out]
            unfold sig1 sig0
            generalize rotr x2 17 ^^^ rotr x2 19 ^^^ x2 >>> 10 = A
            generalize rotr x15 7 ^^^ rotr x15 18 ^^^ x15 >>> 3 = B
            simp only [UInt32.toNat_add]
            omega
          refine ⟨⟨t + 1, by omega, by omega, by go_num, ?_⟩, by simp [intOf]; omega⟩
          rw [hval, HN.out]
          exact HPP.out
        · have hj : ¬ (t : Int) < 64 := by omega
          have ht64 : t = 64 := by omega
          rw [ht64] at HK
          have hW : ∀ W j, KB w.heap.size w s (sw l 64) fr W → j < 64 → W.cell? ⟨w.heap.size + 1 + 1, j, none⟩ = some (.int .u32 (((sw l 64).getD j 0).toNat : Int)) := fun W j h hj => by
            rw [blk_cell h.row j]
            have := arr64_get (sw l 64) j (by rw [sw_length]; omega)
            simpa using this
          have HW := Lib.hid hW
          obtain ⟨L, hL⟩ : ∃ L, L = sw l 64 := ⟨_, rfl⟩
          have HT := Lib.hid (show (taken8 s l).val = (s.add (rounds L s 64)).val from by rw [hL]; rfl)
          rw [← hL] at HK HW
          have a0 := blk_cell HK.st 0
          have a1 := blk_cell HK.st 1
          have a2 := blk_cell HK.st 2
          have a3 := blk_cell HK.st 3
          have a4 := blk_cell HK.st 4
          have a5 := blk_cell HK.st 5
          have a6 := blk_cell HK.st 6
          have a7 := blk_cell HK.st 7
          simp at a0 a1 a2 a3 a4 a5 a6 a7
          clear hW hL ht64 hlt ht0 ht
          go_wp2
          go_quiet (fail)
          go_wp2
          have HK2 := HK.drewN nq
          clear HK a0 a1 a2 a3 a4 a5 a6 a7
          generalize wr.drewN nq = wc at *
          go_loopw [10, 11, 12, 13, 14, 15, 16, 17, 18] (fun v6 v7 v8 v9 v10 v11 v12 v13 i wr => ∃ (t : Nat) (r : S8), t ≤ 64 ∧ r = rounds L s t ∧ i = .int .i64 (t : Int) ∧ v6 = .int .u32 (r.a.toNat : Int) ∧ v7 = .int .u32 (r.b.toNat : Int) ∧ v8 = .int .u32 (r.c.toNat : Int) ∧ v9 = .int .u32 (r.d.toNat : Int)
              ∧ v10 = .int .u32 (r.e.toNat : Int) ∧ v11 = .int .u32 (r.f.toNat : Int) ∧ v12 = .int .u32 (r.g.toNat : Int) ∧ v13 = .int .u32 (r.h.toNat : Int) ∧ KB w.heap.size w s L fr wr)
            (fun _ _ _ _ _ _ _ _ i _ => 64 - (intOf i).toNat)
          case atStart => exact ⟨0, s, Nat.zero_le _, rfl, rfl, rfl, rfl, rfl, rfl, rfl, rfl, rfl, rfl, HK2⟩
          case round =>
            clear HK2
            obtain ⟨t, r, ht, hr, rfl, rfl, rfl, rfl, rfl, rfl, rfl, rfl, rfl, HK⟩ := hrel
            by_cases hlt : t < 64
            · have i1 : (0 : Int) ≤ (t : Int) := by omega
              have i2 : (t : Int) < 64 := by omega
              have e1 := HW.out wr t HK hlt
              have e2 : wr.cell? ⟨1, t, none⟩ = _ := (cell_of_row wr _ t kVals _ fr.2 HK.tab).trans (kTab_get t hlt)
              obtain ⟨k, hk⟩ : ∃ k, k = kTab.getD t 0 := ⟨_, rfl⟩
              obtain ⟨x, hx⟩ : ∃ x, x = L.getD t 0 := ⟨_, rfl⟩
              rw [← hk] at e2
              rw [← hx] at e1
              have HR := Lib.hid (And.intro hr (And.intro hk hx))
              clear hr hk hx
              have T6 := Lib.hid (show ∀ W n, Calls Tryd.prog 52 #[.int .u32 (r.e.toNat : Int), .int .u64 6] (W.drewN n) (fun e w'' => e = .returned (.int .u32 ((rotr r.e 6).toNat : Int)) ∧ ∃ k, w'' = W.drewN k) from fun W n => rturn_quiet r.e 6 W n (by omega) (by omega))
              have T11 := Lib.hid (show ∀ W n, Calls Tryd.prog 52 #[.int .u32 (r.e.toNat : Int), .int .u64 11] (W.drewN n) (fun e w'' => e = .returned (.int .u32 ((rotr r.e 11).toNat : Int)) ∧ ∃ k, w'' = W.drewN k) from fun W n => rturn_quiet r.e 11 W n (by omega) (by omega))
              have T25 := Lib.hid (show ∀ W n, Calls Tryd.prog 52 #[.int .u32 (r.e.toNat : Int), .int .u64 25] (W.drewN n) (fun e w'' => e = .returned (.int .u32 ((rotr r.e 25).toNat : Int)) ∧ ∃ k, w'' = W.drewN k) from fun W n => rturn_quiet r.e 25 W n (by omega) (by omega))
              go_wp2
              go_quiet ((go_at_call 52; first | with_reducible exact T6.out _ _ | with_reducible exact T11.out _ _ | with_reducible exact T25.out _ _))
              go_wp2_with fail
              have hnot : bits BinOp.xor IntKind.u32 IntKind.u32.max (r.e.toNat : Int) = ((~~~ r.e).toNat : Int) := w_not r.e
              have hT1 : ((r.h.toNat : Int) + bits BinOp.xor IntKind.u32 (bits BinOp.xor IntKind.u32 ↑(rotr r.e 6).toNat ↑(rotr r.e 11).toNat) ↑(rotr r.e 25).toNat + bits BinOp.xor IntKind.u32 (bits BinOp.and IntKind.u32 ↑r.e.toNat ↑r.f.toNat) (bits BinOp.and IntKind.u32 (bits BinOp.xor IntKind.u32 IntKind.u32.max ↑r.e.toNat) ↑r.g.toNat) + (k.toNat : Int) + (x.toNat : Int)) % 4294967296 = ((t1of k x r).toNat : Int) := by
                rw [hnot, w_xor, w_xor, w_and, w_and, w_xor]
                unfold t1of
                generalize rotr r.e 6 ^^^ rotr r.e 11 ^^^ rotr r.e 25 = A
                generalize (r.e &&& r.f ^^^ (~~~ r.e) &&& r.g) = B
                simp only [UInt32.toNat_add]
                omega
              rw [hT1]
              clear hT1 hnot
              obtain ⟨T, hT⟩ : ∃ T, T = t1of k x r := ⟨_, rfl⟩
              rw [← hT]
              have HT := Lib.hid hT
              have HK2 := HK.drewN nq
              clear hT HK e1 e2 T6 T11 T25
              generalize wr.drewN nq = wd at *
              refine (rturn_any r.a 2 _ (by omega) (by omega)).mono ?_
              rintro e w' ⟨rfl, rfl⟩
              go_wp2_with fail
              refine (rturn_any r.a 13 _ (by omega) (by omega)).mono ?_
              rintro e w' ⟨rfl, rfl⟩
              go_wp2_with fail
              refine (rturn_any r.a 22 _ (by omega) (by omega)).mono ?_
              rintro e w' ⟨rfl, rfl⟩
              go_wp2_with fail
              go_roundw
              case rel =>
                obtain ⟨h1, h2, h3⟩ := HR.out
                refine ⟨t + 1, r.step k x, by omega, ?_, by go_num, ?_, rfl, rfl, rfl, ?_, rfl, rfl, rfl, HK2⟩
                · rw [h1, h2, h3]; rfl
                · simp only [w_xor, w_and, S8.step, t2of, ← HT.out]
                  refine congrArg (Value.int .u32) ?_
                  simp only [UInt32.toNat_add]
                  omega
                · simp only [S8.step, ← HT.out]
                  refine congrArg (Value.int .u32) ?_
                  simp only [UInt32.toNat_add]
                  omega
              case measure => simp [intOf]; omega
            · have ht64 : t = 64 := by omega
              subst ht64
              have i3 : ¬ ((64 : Nat) : Int) < 64 := by omega
              have a0 := blk_cell HK.st 0
              have a1 := blk_cell HK.st 1
              have a2 := blk_cell HK.st 2
              have a3 := blk_cell HK.st 3
              have a4 := blk_cell HK.st 4
              have a5 := blk_cell HK.st 5
              have a6 := blk_cell HK.st 6
              have a7 := blk_cell HK.st 7
              simp at a0 a1 a2 a3 a4 a5 a6 a7
              have HR := Lib.hid hr
              clear hr hlt
              have q0 := w_sum s.a r.a
              have q1 := w_sum s.b r.b
              have q2 := w_sum s.c r.c
              have q3 := w_sum s.d r.d
              have q4 := w_sum s.e r.e
              have q5 := w_sum s.f r.f
              have q6 := w_sum s.g r.g
              have q7 := w_sum s.h r.h
              go_wp2_with (
                with_reducible refine at_build 61 ?_
                refine wpList_plain rfl fun K hK9 => wp_build_to 61 _ (s.add r).list.toArray rfl ?_ (hK9 _ _ ?_)
                · simp only [List.map_toArray, List.map_cons, List.map_nil]
                  exact rbuild8 _ _ _ _ _ _ _ _
                refine wpList_store_mid rfl 61 (.tmp 4) (.tmp 212) rfl (w.heap.size + 1) 0 (s.add r).list.toArray rfl rfl ?_ ?_ (all_oneCell_toArray (list_one _)) ?_
                · intro j hj
                  rw [show (0 + j) = j by omega, blk_cell HK.res j, blk_free HK.res j]
                  have hj8 : j < 8 := hj
                  simp [hj8]
                · rfl
                have hmid := World.rangeAt_setCells_same wr (w.heap.size + 1) 0 (s.add r).list (by
                  intro j hj
                  rw [show (0 + j) = j by omega, blk_cell HK.res j, blk_free HK.res j]
                  have hj8 : j < 8 := hj
                  simp [hj8])
                have hwf := Below.setCells (show w.heap.size ≤ w.heap.size + 1 by omega) (s.add r).list 0 HK.bel
                rw [show (s.add r).list.toArray.toList = (s.add r).list by simp]
                clear HK a0 a1 a2 a3 a4 a5 a6 a7 q0 q1 q2 q3 q4 q5 q6 q7
                generalize wr.setCells (w.heap.size + 1) 0 (s.add r).list = wf at *
                apply wpList_nil)
              go_wp2_with fail
              refine bodyPost_ret (results_cell_mid rfl _ wf (w.heap.size + 1) 0 (s.add r).list _ rfl hmid rfl rfl rfl) rfl ?_
              refine ⟨?_, hwf⟩
              have h1 := HT.out
              rw [← HR.out] at h1
              exact congrArg Ending.returned h1.symm
end Go.Proofs.YtgomhojaappbnaaDoor
