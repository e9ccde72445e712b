
/- The walk of package sha: the words that 64 bytes are spread to. -/
import Derived.Test.YtohnhdandkkonaaDoorShaT
import Derived.Test.YtohnhdandkkonaaDoorShaSpec
import Derived.Test.YtohnhdandkkonaaDoorTac
namespace Go.Proofs.YtohnhdandkkonaaDoor
open Go.RowKit

theorem _root_.Go.results_cell_mid {P : Program} {fn : Func} {p : Tmp} {ty : TypeId} (h : fn.results = #[.cell p ty]) (tmps : Array Value) (w : World) (b o : Nat) (cs : List Value) (d : TypeDesc)
    (hp : tmps.getD p undef = .pointer (some ⟨b, o, none⟩)) (hc : w.rangeAt b o cs) (hu : P.underlying ty = some d) (hd : d.isRow = true) (hi : (P.info? ty).map (·.size) = some cs.length) :
    (results fn tmps).run P w = .ok (.agg cs.toArray) w := by
  have hp' : tmps[p]?.getD undef = .pointer (some ⟨b, o, none⟩) := by simpa using hp
  simp [results, h, hp', asAddr, run_loadVar_mid w b o ty cs d hc hu hd hi]
theorem _root_.Go.heap_setCells_out {k b : Nat} (hb : k ≠ b) : ∀ (cs : List Value) (o : Nat) (w : World), (w.setCells b o cs).heap[k]? = w.heap[k]?
  | [], _, _ => rfl
  | v :: r, o, w => by rw [World.setCells, heap_setCells_out hb r (o + 1), Below.heap_setCell w _ _ k hb]
theorem _root_.Go.Below.setCells {n b : Nat} {w : World} (hb : n ≤ b) : ∀ (cs : List Value) (o : Nat) {w' : World}, Below n w w' → Below n w (w'.setCells b o cs)
  | [], _, _, h => h
  | v :: r, o, _, h => Below.setCells hb r (o + 1) (h.setCell hb v)

set_option maxRecDepth 100000 in
set_option maxHeartbeats 2000000 in
theorem schedule_any (v : Value) (l : List UInt8) (w : World) (hr : Rd w w.heap.size v l) (hl : l.length = 64) :
    Calls Tryd.prog 73 #[v] w fun e w' => e = .returned (.agg (arr64 (sw l 64)).toArray) ∧ Below w.heap.size w w' := by
  obtain ⟨A, c, rfl, hc, hcm, hp⟩ := hr
  obtain ⟨b, o, rfl, hb, hcell⟩ := hp (by omega)
  rw [hl] at hc ⊢
  have hc2 : (64 : Int) ≤ (c : Int) := by omega
  have HC := Lib.hid hcell
  clear hcell hp
  go_enter Tryd.func73, Tryd.ntmps73
  go_wp2
  go_loopw [11] (fun i wr => ∃ t : Nat, t ≤ 16 ∧ i = .int .i64 (t : Int) ∧ wr.heap[w.heap.size + 1]? = some (.cells (arr64 (sw l t)).toArray 84 (0, 0)) ∧ wr.heap[w.heap.size]? = some (.cells (arr64 []).toArray 84 (0, 0)) ∧ Below w.heap.size w wr)
    (fun i _ => 16 - (intOf i).toNat)
  case atStart =>
    refine ⟨0, Nat.zero_le _, rfl, ?_, ?_, ((Below.refl _ _).alloc (Nat.le_refl _) _).alloc (by simp) _⟩
    · have := heap_alloc_new (w.alloc (.cells (arr64 []).toArray 84)) (.cells (arr64 []).toArray 84)
      rw [show (w.alloc (.cells (arr64 []).toArray 84)).heap.size = w.heap.size + 1 by simp] at this
      exact this
    · have := (Below.heap_alloc (w.alloc (.cells (arr64 []).toArray 84)) (.cells (arr64 []).toArray 84) w.heap.size (by simp)).trans (heap_alloc_new w _)
      exact this
  case round =>
    obtain ⟨t, ht, rfl, hB, hR, hbw⟩ := hrel
    by_cases hlt : t < 16
    · have i1 : (0 : Int) ≤ (t : Int) := by omega
      have i2 : (t : Int) < 16 := by omega
      have i3 : (t : Int) < 64 := by omega
      have cell : ∀ j (h : j < 64), wr.cell? ⟨b, o + j, none⟩ = some (.int .u8 ((l[j]'(by omega)).toNat : Int)) := fun j h => (hbw.cell (p := ⟨b, o + j, none⟩) hb).trans (HC.out j (by omega))
      have e0 := cell (4 * t) (by omega)
      have e1 := cell (4 * t + 1) (by omega)
      have e2 := cell (4 * t + 2) (by omega)
      have e3 := cell (4 * t + 3) (by omega)
      simp only [← Nat.add_assoc] at e1 e2 e3
      clear cell
      have eH : wr.cell? ⟨w.heap.size + 1, t, none⟩ = some (.int .u32 0) := by
        rw [blk_cell hB t]
        have := arr64_old (sw l t) (by rw [sw_length]; omega)
        rw [sw_length] at this
        simpa using this
      have eF : wr.frozen? ⟨w.heap.size + 1, t, none⟩ = false := blk_free hB t
      have e00 : wr.cell? ⟨b, o + 4 * t, none⟩ = some (.int .u8 ((l[4 * t]'(by omega)).toNat : Int)) := (hbw.cell (p := ⟨b, o + 4 * t, none⟩) hb).trans (HC.out (4 * t) (by omega))
      clear e00
      go_wp2
      go_still_tail 24, (by kernel_rfl)
      change wpList _ _ _ _ _ wr.drew
      go_wp2
      rw [word4_walk]
      have hst := sw_lt l t hlt hl
      have hput : (wr.setCell ⟨w.heap.size + 1, t, none⟩ (.int .u32 ((word4 (l[4 * t]'(by omega)) (l[4 * t + 1]'(by omega)) (l[4 * t + 2]'(by omega)) (l[4 * t + 3]'(by omega))).toNat : Int))).heap[w.heap.size + 1]? = some (.cells (arr64 (sw l (t + 1))).toArray 84 (0, 0)) := by
        rw [blk_set hB, hst, ← arr64_set _ _ (by rw [sw_length]; omega), sw_length]
        simp
      refine ⟨⟨t + 1, by omega, by go_num, hput, (Below.heap_setCell wr _ _ w.heap.size (by simp)).trans hR, (hbw.setCell (by simp) _).drew⟩, by simp [intOf]; omega⟩
    · have hlt' : ¬ (t : Int) < 16 := by omega
      obtain ⟨t1, rfl⟩ : ∃ t1 : Nat, t1 = t := ⟨_, rfl⟩
      have ht16 : 16 ≤ t1 := by omega
      have ht17 : t1 ≤ 16 := ht
      clear hlt ht
      go_wp2
      obtain ⟨wq, rfl⟩ : ∃ wq : World, wq = wr := ⟨_, rfl⟩
      go_loopw [6] (fun i wr => ∃ t : Nat, 16 ≤ t ∧ t ≤ 64 ∧ i = .int .i64 (t : Int) ∧ wr.heap[w.heap.size + 1]? = some (.cells (arr64 (sw l t)).toArray 84 (0, 0)) ∧ wr.heap[w.heap.size]? = some (.cells (arr64 []).toArray 84 (0, 0)) ∧ Below w.heap.size w wr)
        (fun i _ => 64 - (intOf i).toNat)
      case atStart => exact ⟨t1, by omega, by omega, by go_num, hB, hR, hbw⟩
      case round =>
        clear hB hR hbw
        obtain ⟨t, ht0, ht, rfl, hB, hR, hbw⟩ := hrel
        by_cases hlt : t < 64
        · have hn := sw_ge l t ht0
          have hlen := sw_length l t
          obtain ⟨p, hp⟩ : ∃ p, p = sw l t := ⟨_, rfl⟩
          rw [← hp] at hn hlen hB
          have HN := Lib.hid hn
          have cell : ∀ j, j < t → wr.cell? ⟨w.heap.size + 1, j, none⟩ = some (.int .u32 ((p.getD j 0).toNat : Int)) := fun j h => by
            rw [blk_cell hB j]
            have := arr64_get p j (by omega)
            simpa using this
          have e2 := cell (t - 2) (by omega)
          have e7 := cell (t - 7) (by omega)
          have e15 := cell (t - 15) (by omega)
          have e16 := cell (t - 16) (by omega)
          have eH : wr.cell? ⟨w.heap.size + 1, t, none⟩ = some (.int .u32 0) := by
            rw [blk_cell hB t]
            have := arr64_old p (by omega)
            rw [hlen] at this
            simpa using this
          have eF : wr.frozen? ⟨w.heap.size + 1, t, none⟩ = false := blk_free hB t
          have HL := Lib.hid hlen
          have c2 : (t : Int) - 2 = ((t - 2 : Nat) : Int) := by omega
          have c7 : (t : Int) - 7 = ((t - 7 : Nat) : Int) := by omega
          have c15 : (t : Int) - 15 = ((t - 15 : Nat) : Int) := by omega
          have c16 : (t : Int) - 16 = ((t - 16 : Nat) : Int) := by omega
          have i2 : (0 : Int) ≤ ((t - 2 : Nat) : Int) := by omega
          have i3 : (t : Int) < 64 := by omega
          have i4 : ((t - 2 : Nat) : Int) < 64 := by omega
          have i5 : ((t - 7 : Nat) : Int) < 64 := by omega
          have i6 : ((t - 15 : Nat) : Int) < 64 := by omega
          have i7 : ((t - 16 : Nat) : Int) < 64 := by omega
          have i8 : (0 : Int) ≤ (t : Int) := by omega
          have i9 : (16 : Int) ≤ (t : Int) := by omega
          clear cell hn hlen hp
          obtain ⟨x2, hx2⟩ : ∃ x, x = p.getD (t - 2) 0 := ⟨_, rfl⟩
          obtain ⟨x7, hx7⟩ : ∃ x, x = p.getD (t - 7) 0 := ⟨_, rfl⟩
          obtain ⟨x15, hx15⟩ : ∃ x, x = p.getD (t - 15) 0 := ⟨_, rfl⟩
          obtain ⟨x16, hx16⟩ : ∃ x, x = p.getD (t - 16) 0 := ⟨_, rfl⟩
          rw [← hx2] at e2
          rw [← hx7] at e7
          rw [← hx15] at e15
          rw [← hx16] at e16
          have HX := Lib.hid (And.intro hx2 (And.intro hx7 (And.intro hx15 hx16)))
          clear hx2 hx7 hx15 hx16
          go_wp2
          go_quiet (fail)
          go_wp2_with fail
          refine (turn_any x15 7 _ (by omega) (by omega)).mono ?_
          rintro e w' ⟨rfl, rfl⟩
          go_wp2_with fail
          refine (turn_any x15 18 _ (by omega) (by omega)).mono ?_
          rintro e w' ⟨rfl, rfl⟩
          go_wp2_with fail
          refine (turn_any x2 17 _ (by omega) (by omega)).mono ?_
          rintro e w' ⟨rfl, rfl⟩
          go_wp2_with fail
          refine (turn_any x2 19 _ (by omega) (by omega)).mono ?_
          rintro e w' ⟨rfl, rfl⟩
          go_wp2_with fail
          have w7 : IntKind.i64.wrap ((t : Int) - 7) = ((t - 7 : Nat) : Int) := by rw [IntKind.wrap_i64]; omega
          have w16 : IntKind.i64.wrap ((t : Int) - 16) = ((t - 16 : Nat) : Int) := by rw [IntKind.wrap_i64]; omega
          have p7 : (0 : Int) ≤ ((t - 7 : Nat) : Int) := by omega
          have p16 : (0 : Int) ≤ ((t - 16 : Nat) : Int) := by omega
          clear c7 c16 c2 c15 e2 e15
          have f7 : (wr.drewN nq).cell? ⟨w.heap.size + 1, t - 7, none⟩ = some (.int .u32 (x7.toNat : Int)) := e7
          have f16 : (wr.drewN nq).cell? ⟨w.heap.size + 1, t - 16, none⟩ = some (.int .u32 (x16.toNat : Int)) := e16
          have fH : (wr.drewN nq).cell? ⟨w.heap.size + 1, t, none⟩ = some (.int .u32 0) := eH
          have fF : (wr.drewN nq).frozen? ⟨w.heap.size + 1, t, none⟩ = false := eF
          have gB : (wr.drewN nq).heap[w.heap.size + 1]? = some (.cells (arr64 p).toArray 84 (0, 0)) := hB
          have gR : (wr.drewN nq).heap[w.heap.size]? = some (.cells (arr64 []).toArray 84 (0, 0)) := hR
          have gbw : Below w.heap.size w (wr.drewN nq) := below_drewN' hbw nq
          clear e7 e16 eH eF hB hR hbw
          generalize wr.drewN nq = wz at *
          go_still_tail 15, (by kernel_rfl)
          change wpList _ _ _ _ _ wz.drew
          go_wp2
          have hput : (wz.setCell ⟨w.heap.size + 1, t, none⟩ (.int .u32 ((nextW p).toNat : Int))).heap[w.heap.size + 1]? = some (.cells (arr64 (sw l (t + 1))).toArray 84 (0, 0)) := by
            rw [blk_set gB, HN.out, ← arr64_set _ _ (by rw [HL.out]; omega), HL.out]
            simp
          have hval : (bits BinOp.xor IntKind.u32 (bits BinOp.xor IntKind.u32 ↑(rotr x2 17).toNat ↑(rotr x2 19).toNat) ((x2.toNat : Int) / 1024) + (x7.toNat : Int) + bits BinOp.xor IntKind.u32 (bits BinOp.xor IntKind.u32 ↑(rotr x15 7).toNat ↑(rotr x15 18).toNat) ((x15.toNat : Int) / 8) + (x16.toNat : Int)) % 4294967296 = ((nextW p).toNat : Int) := by
            obtain ⟨h2, h7, h15, h16⟩ := HX.out
            have a1 := w_shr x2 10 (by omega)
            have a2 := w_shr x15 3 (by omega)
            rw [show (2 : Int) ^ 10 = 1024 by rfl] at a1
            rw [show (2 : Int) ^ 3 = 8 by rfl] at a2
            rw [a1, a2, w_xor, w_xor, w_xor, w_xor]
            unfold nextW sig1 sig0
            rw [HL.out, ← h2, ← h7, ← h15, ← h16]
            generalize rotr x2 17 ^^^ rotr x2 19 ^^^ x2 >>> 10 = A
            generalize rotr x15 7 ^^^ rotr x15 18 ^^^ x15 >>> 3 = B
            simp only [UInt32.toNat_add]
            omega
          go_roundw
          case rel =>
            refine ⟨t + 1, by omega, by omega, by go_num, ?_, ?_, ?_⟩
            · rw [hval]; exact hput
            · exact (Below.heap_setCell wz _ _ w.heap.size (by simp)).trans gR
            · exact (gbw.setCell (by simp) _).drew
          case measure => simp [intOf]; omega
        · have hj : ¬ (t : Int) < 64 := by omega
          go_wp2_with (
            with_reducible refine at_load 84 ?_
            have ht64 : t = 64 := by omega
            clear hj hlt ht0 ht
            have hL := arr64_length (sw l 64) (by rw [sw_length]; omega)
            have hR64 := arr64_length [] (by simp)
            subst ht64
            refine wpList_load_mid rfl 84 (.tmp 3) rfl (w.heap.size + 1) 0 rfl (arr64 (sw l 64)) _ ?_ rfl rfl ?_ ?_
            · have := World.rangeAt_of_block hB 0 64
              rw [show ((arr64 (sw l 64)).toArray.extract 0 (0 + 64)).toList = arr64 (sw l 64) by simp [List.take_of_length_le (show (arr64 (sw l 64)).length ≤ 64 by omega)]] at this
              exact this
            · rw [hL]; rfl
            refine wpList_store_mid rfl 84 (.tmp 2) (.tmp 89) rfl w.heap.size 0 (arr64 (sw l 64)).toArray rfl rfl ?_ ?_ ?_ ?_
            · intro j hj
              rw [show (0 + j) = j by omega, blk_cell hR j, blk_free hR j]
              rw [List.size_toArray, hL] at hj
              have : j < (arr64 []).length := by omega
              simp [this]
            · rw [List.size_toArray, hL]; rfl
            · refine all_oneCell_toArray ?_
              intro v hv
              simp only [arr64, List.mem_append, List.mem_map, List.mem_replicate] at hv
              rcases hv with ⟨x, -, rfl⟩ | ⟨-, rfl⟩ <;> rfl
            have hmid := World.rangeAt_setCells_same wr w.heap.size 0 (arr64 (sw l 64)) (by
              intro j hj
              rw [show (0 + j) = j by omega, blk_cell hR j, blk_free hR j]
              have : j < (arr64 []).length := by omega
              simp [this])
            clear hB hR
            generalize hcs : arr64 (sw l 64) = cs at *
            have hwf := Below.setCells (Nat.le_refl w.heap.size) cs 0 hbw
            rw [show cs.toArray.toList = cs by simp]
            clear hbw
            generalize wr.setCells w.heap.size 0 cs = wf at *
            apply wpList_nil)
          go_wp2_with fail
          refine bodyPost_ret (results_cell_mid rfl _ wf w.heap.size 0 cs _ rfl hmid rfl rfl (by rw [hL]; rfl)) rfl ?_
          rw [hcs]
          exact ⟨rfl, hwf⟩
end Go.Proofs.YtohnhdandkkonaaDoor
