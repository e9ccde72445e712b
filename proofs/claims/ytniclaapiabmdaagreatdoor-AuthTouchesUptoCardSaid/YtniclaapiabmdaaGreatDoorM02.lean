/- Texts joined: ShaS0, WireW0. -/
import Derived.Test.YtniclaapiabmdaaGreatDoorM01
import Derived.Deep.QuietTactic
import Derived.BigQuiet
namespace Go.Proofs.YtniclaapiabmdaaGreatDoor
set_option maxRecDepth 100000
open Go.RowKit

theorem and31 (n : Nat) (h0 : 0 < n) (hn : n < 32) : bits BinOp.and IntKind.u64 (IntKind.u64.wrap (-(n : Int))) 31 = ((32 - n : Nat) : Int) := by
  have e : IntKind.u64.wrap (-(n : Int)) = ((18446744073709551616 - n : Nat) : Int) := by rw [IntKind.wrap_u64]; omega
  have := bits_and_u64_nat (18446744073709551616 - n) 31 (by omega) (by omega)
  rw [e, show (31 : Int) = ((31 : Nat) : Int) from rfl, this, show 31 = 2 ^ 5 - 1 from rfl, Nat.and_two_pow_sub_one_eq_mod]
  congr 1
  omega

set_option maxHeartbeats 400000 in
theorem rotl_any (x : UInt32) (n : Nat) (w : World) (h0 : 0 < n) (hn : n < 32) :
    Calls Tryz.prog 175 #[.int .u32 (x.toNat : Int), .int .i64 (-(n : Int))] w fun e w' => e = .returned (.int .u32 ((rotr x n).toNat : Int)) ∧ w = w' := by
  have hx := x.toNat_lt
  have ha := and31 n h0 hn
  have hm : (0 : Int) < ((32 - n : Nat) : Int) := by omega
  have hm2 : ((32 - n : Nat) : Int) < 32 := by omega
  obtain ⟨m, hmm⟩ : ∃ m : Nat, m = 32 - n := ⟨_, rfl⟩
  rw [← hmm] at ha hm hm2
  have HM := Lib.hid hmm
  have i1 : (32 : Int) - (m : Int) = (n : Int) := by omega
  have i2 : (0 : Int) ≤ (m : Int) := by omega
  clear hmm
  go_enter Tryz.func175, Tryz.ntmps175
  go_wp2_with fail
  go_ret
  refine ⟨?_, rfl⟩
  show Ending.returned (.int .u32 (bits BinOp.or IntKind.u32 ((x.toNat : Int) * 2 ^ m % 4294967296) ((x.toNat : Int) / 2 ^ n))) = _
  rw [w_shl x m (by omega), w_shr x n hn, w_or, HM.out]
  rfl

theorem turn_any (x : UInt32) (n : Nat) (w : World) (h0 : 0 < n) (hn : n < 32) :
    Calls Tryz.prog 138 #[.int .u32 (x.toNat : Int), .int .i64 (n : Int)] w fun e w' => e = .returned (.int .u32 ((rotr x n).toNat : Int)) ∧ w = w' := by
  go_enter Tryz.func138, Tryz.ntmps138
  go_wp2_with fail
  refine (rotl_any x n w h0 hn).mono ?_
  rintro e w' ⟨rfl, rfl⟩
  go_wp2_with fail
  go_ret
  exact ⟨rfl, rfl⟩
end Go.Proofs.YtniclaapiabmdaaGreatDoor
namespace Go.Proofs.YtniclaapiabmdaaGreatDoor
set_option maxRecDepth 100000
open Go.RowKit

def word4 (a b c d : UInt8) : UInt32 := ((a.toUInt32 <<< 24 ||| b.toUInt32 <<< 16) ||| c.toUInt32 <<< 8) ||| d.toUInt32
def sig0 (x : UInt32) : UInt32 := rotr x 7 ^^^ rotr x 18 ^^^ x >>> 3
def sig1 (x : UInt32) : UInt32 := rotr x 17 ^^^ rotr x 19 ^^^ x >>> 10
/-- the word that follows 16 or more -/
def nextW (p : List UInt32) : UInt32 := sig1 (p.getD (p.length - 2) 0) + p.getD (p.length - 7) 0 + sig0 (p.getD (p.length - 15) 0) + p.getD (p.length - 16) 0
/-- the first t words that 64 bytes are spread to -/
def sw (l : List UInt8) : Nat → List UInt32
  | 0 => []
  | t + 1 => sw l t ++ [if t < 16 then word4 (l.getD (4 * t) 0) (l.getD (4 * t + 1) 0) (l.getD (4 * t + 2) 0) (l.getD (4 * t + 3) 0) else nextW (sw l t)]
theorem sw_length (l : List UInt8) (t : Nat) : (sw l t).length = t := by induction t <;> simp [sw, *]

/-- a row of 64 words, the first of them p -/
def w32 (x : UInt32) : Value := .int .u32 (x.toNat : Int)
def arr64 (p : List UInt32) : List Value := p.map w32 ++ List.replicate (64 - p.length) (w32 0)
theorem arr64_length (p : List UInt32) (h : p.length ≤ 64) : (arr64 p).length = 64 := by simp [arr64]; omega
theorem arr64_get (p : List UInt32) (j : Nat) (h : j < p.length) : (arr64 p)[j]? = some (.int .u32 ((p.getD j 0).toNat : Int)) := by
  unfold arr64
  rw [List.getElem?_append_left (by simpa using h)]
  simp [List.getElem?_eq_getElem h, w32]
theorem arr64_old (p : List UInt32) (h : p.length < 64) : (arr64 p)[p.length]? = some (.int .u32 0) := by
  unfold arr64
  rw [List.getElem?_append_right (by simp), List.length_map, Nat.sub_self, List.getElem?_replicate, if_pos (by omega)]
  rfl
theorem arr64_set (p : List UInt32) (x : UInt32) (h : p.length < 64) : (arr64 p).set p.length (.int .u32 (x.toNat : Int)) = arr64 (p ++ [x]) := by
  unfold arr64
  obtain ⟨k, hk⟩ : ∃ k, 64 - p.length = k + 1 := ⟨63 - p.length, by omega⟩
  have hk2 : 64 - (p ++ [x]).length = k := by simp; omega
  rw [hk, hk2, List.set_append_right _ _ (by simp)]
  simp [List.replicate_succ, w32]
theorem byte32 (a : UInt8) : (a.toNat : Int) % 4294967296 = (a.toUInt32.toNat : Int) := by
  have := a.toNat_lt
  rw [UInt8.toNat_toUInt32]
  omega
theorem word4_walk (a b c d : UInt8) :
    bits .or .u32 (bits .or .u32 (bits .or .u32 ((a.toNat : Int) % 4294967296 * 16777216 % 4294967296) ((b.toNat : Int) % 4294967296 * 65536 % 4294967296)) ((c.toNat : Int) % 4294967296 * 256 % 4294967296)) ((d.toNat : Int) % 4294967296) = ((word4 a b c d).toNat : Int) := by
  have h1 := w_shl a.toUInt32 24 (by omega)
  have h2 := w_shl b.toUInt32 16 (by omega)
  have h3 := w_shl c.toUInt32 8 (by omega)
  rw [show (2 : Int) ^ 24 = 16777216 by rfl] at h1
  rw [show (2 : Int) ^ 16 = 65536 by rfl] at h2
  rw [show (2 : Int) ^ 8 = 256 by rfl] at h3
  rw [byte32, byte32, byte32, byte32, h1, h2, h3, w_or, w_or, w_or]
  rfl
theorem sw_lt (l : List UInt8) (t : Nat) (h : t < 16) (hl : l.length = 64) : sw l (t + 1) = sw l t ++ [word4 (l[4 * t]'(by omega)) (l[4 * t + 1]'(by omega)) (l[4 * t + 2]'(by omega)) (l[4 * t + 3]'(by omega))] := by
  simp only [sw, if_pos h]
  simp [List.getD_eq_getElem?_getD, List.getElem?_eq_getElem (show 4 * t < l.length by omega), List.getElem?_eq_getElem (show 4 * t + 1 < l.length by omega), List.getElem?_eq_getElem (show 4 * t + 2 < l.length by omega), List.getElem?_eq_getElem (show 4 * t + 3 < l.length by omega)]
theorem sw_ge (l : List UInt8) (t : Nat) (h : 16 ≤ t) : sw l (t + 1) = sw l t ++ [nextW (sw l t)] := by
  simp only [sw, if_neg (show ¬ t < 16 by omega)]
end Go.Proofs.YtniclaapiabmdaaGreatDoor
namespace Go.Proofs.YtniclaapiabmdaaGreatDoor
set_option maxRecDepth 100000
open Go.RowKit

theorem _root_.Go.results_cell_mid {P : Program} {fn : Func} {p : Tmp} {ty : TypeId} (h : fn.results = #[.cell p ty]) (tmps : Array Value) (w : World) (b o : Nat) (cs : List Value) (d : TypeDesc)
    (hp : tmps.getD p undef = .pointer (some ⟨b, o, none⟩)) (hc : w.rangeAt b o cs) (hu : P.underlying ty = some d) (hd : d.isRow = true) (hi : (P.info? ty).map (·.size) = some cs.length) :
    (results fn tmps).run P w = .ok (.agg cs.toArray) w := by
  have hp' : tmps[p]?.getD undef = .pointer (some ⟨b, o, none⟩) := by simpa using hp
  simp [results, h, hp', asAddr, run_loadVar_mid w b o ty cs d hc hu hd hi]
theorem _root_.Go.heap_setCells_out {k b : Nat} (hb : k ≠ b) : ∀ (cs : List Value) (o : Nat) (w : World), (w.setCells b o cs).heap[k]? = w.heap[k]?
  | [], _, _ => rfl
  | v :: r, o, w => by rw [World.setCells, heap_setCells_out hb r (o + 1), Below.heap_setCell w _ _ k hb]
theorem _root_.Go.Below.setCells {n b : Nat} {w : World} (hb : n ≤ b) : ∀ (cs : List Value) (o : Nat) {w' : World}, Below n w w' → Below n w (w'.setCells b o cs)
  | [], _, _, h => h
  | v :: r, o, _, h => Below.setCells hb r (o + 1) (h.setCell hb v)

set_option maxRecDepth 100000 in
set_option maxHeartbeats 2000000 in
theorem schedule_any (v : Value) (l : List UInt8) (w : World) (hr : Rd w w.heap.size v l) (hl : l.length = 64) :
    Calls Tryz.prog 137 #[v] w fun e w' => e = .returned (.agg (arr64 (sw l 64)).toArray) ∧ Below w.heap.size w w' := by
  obtain ⟨A, c, rfl, hc, hcm, hp⟩ := hr
  obtain ⟨b, o, rfl, hb, hcell⟩ := hp (by omega)
  rw [hl] at hc ⊢
  have hc2 : (64 : Int) ≤ (c : Int) := by omega
  have HC := Lib.hid hcell
  clear hcell hp
  go_enter Tryz.func137, Tryz.ntmps137
  go_wp2
  go_loopw [11] (fun i wr => ∃ t : Nat, t ≤ 16 ∧ i = .int .i64 (t : Int) ∧ wr.heap[w.heap.size + 1]? = some (.cells (arr64 (sw l t)).toArray 181 (0, 0)) ∧ wr.heap[w.heap.size]? = some (.cells (arr64 []).toArray 181 (0, 0)) ∧ Below w.heap.size w wr)
    (fun i _ => 16 - (intOf i).toNat)
  case atStart =>
    refine ⟨0, Nat.zero_le _, rfl, ?_, ?_, ((Below.refl _ _).alloc (Nat.le_refl _) _).alloc (by simp) _⟩
    · have := heap_alloc_new (w.alloc (.cells (arr64 []).toArray 181)) (.cells (arr64 []).toArray 181)
      rw [show (w.alloc (.cells (arr64 []).toArray 181)).heap.size = w.heap.size + 1 by simp] at this
      exact this
    · have := (Below.heap_alloc (w.alloc (.cells (arr64 []).toArray 181)) (.cells (arr64 []).toArray 181) w.heap.size (by simp)).trans (heap_alloc_new w _)
      exact this
  case round =>
    obtain ⟨t, ht, rfl, hB, hR, hbw⟩ := hrel
    by_cases hlt : t < 16
    · have i1 : (0 : Int) ≤ (t : Int) := by omega
      have i2 : (t : Int) < 16 := by omega
      have i3 : (t : Int) < 64 := by omega
      have cell : ∀ j (h : j < 64), wr.cell? ⟨b, o + j, none⟩ = some (.int .u8 ((l[j]'(by omega)).toNat : Int)) := fun j h => (hbw.cell (p := ⟨b, o + j, none⟩) hb).trans (HC.out j (by omega))
      have e0 := cell (4 * t) (by omega)
      have e1 := cell (4 * t + 1) (by omega)
      have e2 := cell (4 * t + 2) (by omega)
      have e3 := cell (4 * t + 3) (by omega)
      simp only [← Nat.add_assoc] at e1 e2 e3
      clear cell
      have eH : wr.cell? ⟨w.heap.size + 1, t, none⟩ = some (.int .u32 0) := by
        rw [blk_cell hB t]
        have := arr64_old (sw l t) (by rw [sw_length]; omega)
        rw [sw_length] at this
        simpa using this
      have eF : wr.frozen? ⟨w.heap.size + 1, t, none⟩ = false := blk_free hB t
      have e00 : wr.cell? ⟨b, o + 4 * t, none⟩ = some (.int .u8 ((l[4 * t]'(by omega)).toNat : Int)) := (hbw.cell (p := ⟨b, o + 4 * t, none⟩) hb).trans (HC.out (4 * t) (by omega))
      clear e00
      go_wp2
      go_still_tail 24, (by kernel_rfl)
      change wpList _ _ _ _ _ wr.drew
      go_wp2
      rw [word4_walk]
      have hst := sw_lt l t hlt hl
      have hput : (wr.setCell ⟨w.heap.size + 1, t, none⟩ (.int .u32 ((word4 (l[4 * t]'(by omega)) (l[4 * t + 1]'(by omega)) (l[4 * t + 2]'(by omega)) (l[4 * t + 3]'(by omega))).toNat : Int))).heap[w.heap.size + 1]? = some (.cells (arr64 (sw l (t + 1))).toArray 181 (0, 0)) := by
        rw [blk_set hB, hst, ← arr64_set _ _ (by rw [sw_length]; omega), sw_length]
        simp
      refine ⟨⟨t + 1, by omega, by go_num, hput, (Below.heap_setCell wr _ _ w.heap.size (by simp)).trans hR, (hbw.setCell (by simp) _).drew⟩, by simp [intOf]; omega⟩
    · have hlt' : ¬ (t : Int) < 16 := by omega
      obtain ⟨t1, rfl⟩ : ∃ t1 : Nat, t1 = t := ⟨_, rfl⟩
      have ht16 : 16 ≤ t1 := by omega
      have ht17 : t1 ≤ 16 := ht
      clear hlt ht
      go_wp2
      obtain ⟨wq, rfl⟩ : ∃ wq : World, wq = wr := ⟨_, rfl⟩
      go_loopw [6] (fun i wr => ∃ t : Nat, 16 ≤ t ∧ t ≤ 64 ∧ i = .int .i64 (t : Int) ∧ wr.heap[w.heap.size + 1]? = some (.cells (arr64 (sw l t)).toArray 181 (0, 0)) ∧ wr.heap[w.heap.size]? = some (.cells (arr64 []).toArray 181 (0, 0)) ∧ Below w.heap.size w wr)
        (fun i _ => 64 - (intOf i).toNat)
      case atStart => exact ⟨t1, by omega, by omega, by go_num, hB, hR, hbw⟩
      case round =>
        clear hB hR hbw
        obtain ⟨t, ht0, ht, rfl, hB, hR, hbw⟩ := hrel
        by_cases hlt : t < 64
        · have hn := sw_ge l t ht0
          have hlen := sw_length l t
          obtain ⟨p, hp⟩ : ∃ p, p = sw l t := ⟨_, rfl⟩
          rw [← hp] at hn hlen hB
          have HN := Lib.hid hn
          have cell : ∀ j, j < t → wr.cell? ⟨w.heap.size + 1, j, none⟩ = some (.int .u32 ((p.getD j 0).toNat : Int)) := fun j h => by
            rw [blk_cell hB j]
            have := arr64_get p j (by omega)
            simpa using this
          have e2 := cell (t - 2) (by omega)
          have e7 := cell (t - 7) (by omega)
          have e15 := cell (t - 15) (by omega)
          have e16 := cell (t - 16) (by omega)
          have eH : wr.cell? ⟨w.heap.size + 1, t, none⟩ = some (.int .u32 0) := by
            rw [blk_cell hB t]
            have := arr64_old p (by omega)
            rw [hlen] at this
            simpa using this
          have eF : wr.frozen? ⟨w.heap.size + 1, t, none⟩ = false := blk_free hB t
          have HL := Lib.hid hlen
          have c2 : (t : Int) - 2 = ((t - 2 : Nat) : Int) := by omega
          have c7 : (t : Int) - 7 = ((t - 7 : Nat) : Int) := by omega
          have c15 : (t : Int) - 15 = ((t - 15 : Nat) : Int) := by omega
          have c16 : (t : Int) - 16 = ((t - 16 : Nat) : Int) := by omega
          have i2 : (0 : Int) ≤ ((t - 2 : Nat) : Int) := by omega
          have i3 : (t : Int) < 64 := by omega
          have i4 : ((t - 2 : Nat) : Int) < 64 := by omega
          have i5 : ((t - 7 : Nat) : Int) < 64 := by omega
          have i6 : ((t - 15 : Nat) : Int) < 64 := by omega
          have i7 : ((t - 16 : Nat) : Int) < 64 := by omega
          have i8 : (0 : Int) ≤ (t : Int) := by omega
          have i9 : (16 : Int) ≤ (t : Int) := by omega
          clear cell hn hlen hp
          obtain ⟨x2, hx2⟩ : ∃ x, x = p.getD (t - 2) 0 := ⟨_, rfl⟩
          obtain ⟨x7, hx7⟩ : ∃ x, x = p.getD (t - 7) 0 := ⟨_, rfl⟩
          obtain ⟨x15, hx15⟩ : ∃ x, x = p.getD (t - 15) 0 := ⟨_, rfl⟩
          obtain ⟨x16, hx16⟩ : ∃ x, x = p.getD (t - 16) 0 := ⟨_, rfl⟩
          rw [← hx2] at e2
          rw [← hx7] at e7
          rw [← hx15] at e15
          rw [← hx16] at e16
          have HX := Lib.hid (And.intro hx2 (And.intro hx7 (And.intro hx15 hx16)))
          clear hx2 hx7 hx15 hx16
          go_wp2
          go_quiet (fail)
          go_wp2_with fail
          refine (turn_any x15 7 _ (by omega) (by omega)).mono ?_
          rintro e w' ⟨rfl, rfl⟩
          go_wp2_with fail
          refine (turn_any x15 18 _ (by omega) (by omega)).mono ?_
          rintro e w' ⟨rfl, rfl⟩
          go_wp2_with fail
          refine (turn_any x2 17 _ (by omega) (by omega)).mono ?_
          rintro e w' ⟨rfl, rfl⟩
          go_wp2_with fail
          refine (turn_any x2 19 _ (by omega) (by omega)).mono ?_
          rintro e w' ⟨rfl, rfl⟩
          go_wp2_with fail
          have w7 : IntKind.i64.wrap ((t : Int) - 7) = ((t - 7 : Nat) : Int) := by rw [IntKind.wrap_i64]; omega
          have w16 : IntKind.i64.wrap ((t : Int) - 16) = ((t - 16 : Nat) : Int) := by rw [IntKind.wrap_i64]; omega
          have p7 : (0 : Int) ≤ ((t - 7 : Nat) : Int) := by omega
          have p16 : (0 : Int) ≤ ((t - 16 : Nat) : Int) := by omega
          clear c7 c16 c2 c15 e2 e15
          have f7 : (wr.drewN nq).cell? ⟨w.heap.size + 1, t - 7, none⟩ = some (.int .u32 (x7.toNat : Int)) := e7
          have f16 : (wr.drewN nq).cell? ⟨w.heap.size + 1, t - 16, none⟩ = some (.int .u32 (x16.toNat : Int)) := e16
          have fH : (wr.drewN nq).cell? ⟨w.heap.size + 1, t, none⟩ = some (.int .u32 0) := eH
          have fF : (wr.drewN nq).frozen? ⟨w.heap.size + 1, t, none⟩ = false := eF
          have gB : (wr.drewN nq).heap[w.heap.size + 1]? = some (.cells (arr64 p).toArray 181 (0, 0)) := hB
          have gR : (wr.drewN nq).heap[w.heap.size]? = some (.cells (arr64 []).toArray 181 (0, 0)) := hR
          have gbw : Below w.heap.size w (wr.drewN nq) := below_drewN' hbw nq
          clear e7 e16 eH eF hB hR hbw
          generalize wr.drewN nq = wz at *
          go_still_tail 15, (by kernel_rfl)
          change wpList _ _ _ _ _ wz.drew
          go_wp2
          have hput : (wz.setCell ⟨w.heap.size + 1, t, none⟩ (.int .u32 ((nextW p).toNat : Int))).heap[w.heap.size + 1]? = some (.cells (arr64 (sw l (t + 1))).toArray 181 (0, 0)) := by
            rw [blk_set gB, HN.out, ← arr64_set _ _ (by rw [HL.out]; omega), HL.out]
            simp
          have hval : (bits BinOp.xor IntKind.u32 (bits BinOp.xor IntKind.u32 ↑(rotr x2 17).toNat ↑(rotr x2 19).toNat) ((x2.toNat : Int) / 1024) + (x7.toNat : Int) + bits BinOp.xor IntKind.u32 (bits BinOp.xor IntKind.u32 ↑(rotr x15 7).toNat ↑(rotr x15 18).toNat) ((x15.toNat : Int) / 8) + (x16.toNat : Int)) % 4294967296 = ((nextW p).toNat : Int) := by
            obtain ⟨h2, h7, h15, h16⟩ := HX.out
            have a1 := w_shr x2 10 (by omega)
            have a2 := w_shr x15 3 (by omega)
            rw [show (2 : Int) ^ 10 = 1024 by rfl] at a1
            rw [show (2 : Int) ^ 3 = 8 by rfl] at a2
            rw [a1, a2, w_xor, w_xor, w_xor, w_xor]
            unfold nextW sig1 sig0
            rw [HL.out, ← h2, ← h7, ← h15, ← h16]
            generalize rotr x2 17 ^^^ rotr x2 19 ^^^ x2 >>> 10 = A
            generalize rotr x15 7 ^^^ rotr x15 18 ^^^ x15 >>> 3 = B
            simp only [UInt32.toNat_add]
            omega
          go_roundw
          case rel =>
            refine ⟨t + 1, by omega, by omega, by go_num, ?_, ?_, ?_⟩
            · rw [hval]; exact hput
            · exact (Below.heap_setCell wz _ _ w.heap.size (by simp)).trans gR
            · exact (gbw.setCell (by simp) _).drew
          case measure => simp [intOf]; omega
        · have hj : ¬ (t : Int) < 64 := by omega
          go_wp2_with (
            with_reducible refine at_load 181 ?_
            have ht64 : t = 64 := by omega
            clear hj hlt ht0 ht
            have hL := arr64_length (sw l 64) (by rw [sw_length]; omega)
            have hR64 := arr64_length [] (by simp)
            subst ht64
            refine wpList_load_mid rfl 181 (.tmp 3) rfl (w.heap.size + 1) 0 rfl (arr64 (sw l 64)) _ ?_ rfl rfl ?_ ?_
            · have := World.rangeAt_of_block hB 0 64
              rw [show ((arr64 (sw l 64)).toArray.extract 0 (0 + 64)).toList = arr64 (sw l 64) by simp [List.take_of_length_le (show (arr64 (sw l 64)).length ≤ 64 by omega)]] at this
              exact this
            · rw [hL]; rfl
            refine wpList_store_mid rfl 181 (.tmp 2) (.tmp 89) rfl w.heap.size 0 (arr64 (sw l 64)).toArray rfl rfl ?_ ?_ ?_ ?_
            · intro j hj
              rw [show (0 + j) = j by omega, blk_cell hR j, blk_free hR j]
              rw [List.size_toArray, hL] at hj
              have : j < (arr64 []).length := by omega
              simp [this]
            · rw [List.size_toArray, hL]; rfl
            · refine all_oneCell_toArray ?_
              intro v hv
              simp only [arr64, List.mem_append, List.mem_map, List.mem_replicate] at hv
              rcases hv with ⟨x, -, rfl⟩ | ⟨-, rfl⟩ <;> rfl
            have hmid := World.rangeAt_setCells_same wr w.heap.size 0 (arr64 (sw l 64)) (by
              intro j hj
              rw [show (0 + j) = j by omega, blk_cell hR j, blk_free hR j]
              have : j < (arr64 []).length := by omega
              simp [this])
            clear hB hR
            generalize hcs : arr64 (sw l 64) = cs at *
            have hwf := Below.setCells (Nat.le_refl w.heap.size) cs 0 hbw
            rw [show cs.toArray.toList = cs by simp]
            clear hbw
            generalize wr.setCells w.heap.size 0 cs = wf at *
            apply wpList_nil)
          go_wp2_with fail
          refine bodyPost_ret (results_cell_mid rfl _ wf w.heap.size 0 cs _ rfl hmid rfl rfl (by rw [hL]; rfl)) rfl ?_
          rw [hcs]
          exact ⟨rfl, hwf⟩
end Go.Proofs.YtniclaapiabmdaaGreatDoor
namespace Go.Proofs.YtniclaapiabmdaaGreatDoor
set_option maxRecDepth 100000
open Go.RowKit

structure S8 where
  (a b c d e f g h : UInt32)
def S8.list (s : S8) : List Value := [w32 s.a, w32 s.b, w32 s.c, w32 s.d, w32 s.e, w32 s.f, w32 s.g, w32 s.h]
def S8.val (s : S8) : Value := .agg #[.int .u32 (s.a.toNat : Int), .int .u32 (s.b.toNat : Int), .int .u32 (s.c.toNat : Int), .int .u32 (s.d.toNat : Int), .int .u32 (s.e.toNat : Int), .int .u32 (s.f.toNat : Int), .int .u32 (s.g.toNat : Int), .int .u32 (s.h.toNat : Int)]
def t1of (k w : UInt32) (s : S8) : UInt32 := s.h + (rotr s.e 6 ^^^ rotr s.e 11 ^^^ rotr s.e 25) + (s.e &&& s.f ^^^ (~~~ s.e) &&& s.g) + k + w
def t2of (s : S8) : UInt32 := (rotr s.a 2 ^^^ rotr s.a 13 ^^^ rotr s.a 22) + (s.a &&& s.b ^^^ s.a &&& s.c ^^^ s.b &&& s.c)
def S8.step (k w : UInt32) (s : S8) : S8 := ⟨t1of k w s + t2of s, s.a, s.b, s.c, s.d + t1of k w s, s.e, s.f, s.g⟩
def kTab : List UInt32 := [
  0x428a2f98, 0x71374491, 0xb5c0fbcf, 0xe9b5dba5, 0x3956c25b, 0x59f111f1, 0x923f82a4, 0xab1c5ed5,
  0xd807aa98, 0x12835b01, 0x243185be, 0x550c7dc3, 0x72be5d74, 0x80deb1fe, 0x9bdc06a7, 0xc19bf174,
  0xe49b69c1, 0xefbe4786, 0x0fc19dc6, 0x240ca1cc, 0x2de92c6f, 0x4a7484aa, 0x5cb0a9dc, 0x76f988da,
  0x983e5152, 0xa831c66d, 0xb00327c8, 0xbf597fc7, 0xc6e00bf3, 0xd5a79147, 0x06ca6351, 0x14292967,
  0x27b70a85, 0x2e1b2138, 0x4d2c6dfc, 0x53380d13, 0x650a7354, 0x766a0abb, 0x81c2c92e, 0x92722c85,
  0xa2bfe8a1, 0xa81a664b, 0xc24b8b70, 0xc76c51a3, 0xd192e819, 0xd6990624, 0xf40e3585, 0x106aa070,
  0x19a4c116, 0x1e376c08, 0x2748774c, 0x34b0bcb5, 0x391c0cb3, 0x4ed8aa4a, 0x5b9cca4f, 0x682e6ff3,
  0x748f82ee, 0x78a5636f, 0x84c87814, 0x8cc70208, 0x90befffa, 0xa4506ceb, 0xbef9a3f7, 0xc67178f2]
def kVals : Array Value := (kTab.map w32).toArray
def rounds (ws : List UInt32) (s : S8) : Nat → S8
  | 0 => s
  | t + 1 => (rounds ws s t).step (kTab.getD t 0) (ws.getD t 0)
def S8.add (s r : S8) : S8 := ⟨s.a + r.a, s.b + r.b, s.c + r.c, s.d + r.d, s.e + r.e, s.f + r.f, s.g + r.g, s.h + r.h⟩
/-- the state behind 64 bytes more -/
def taken8 (s : S8) (l : List UInt8) : S8 := s.add (rounds (sw l 64) s 64)

theorem kTab_get (t : Nat) (h : t < 64) : kVals[t]? = some (.int .u32 ((kTab.getD t 0).toNat : Int)) := by
  unfold kVals
  rw [List.getElem?_toArray, List.getElem?_map, List.getElem?_eq_getElem (show t < kTab.length from h)]
  simp [w32, List.getD_eq_getElem?_getD, List.getElem?_eq_getElem (show t < kTab.length from h)]
end Go.Proofs.YtniclaapiabmdaaGreatDoor
namespace Go.Proofs.YtniclaapiabmdaaGreatDoor
set_option maxRecDepth 100000
open Go.RowKit

/-- what stays while the rounds are made -/
structure KW (n0 g : Nat) (w : World) (s : S8) (ws : List UInt32) (fr : TypeId × Nat × Nat) (w' : World) : Prop where
  st : w'.heap[n0]? = some (.cells #[.int .u32 (s.a.toNat : Int), .int .u32 (s.b.toNat : Int), .int .u32 (s.c.toNat : Int), .int .u32 (s.d.toNat : Int), .int .u32 (s.e.toNat : Int), .int .u32 (s.f.toNat : Int), .int .u32 (s.g.toNat : Int), .int .u32 (s.h.toNat : Int)] 125 (0, 0))
  res : w'.heap[n0 + 1]? = some (.cells #[.int .u32 0, .int .u32 0, .int .u32 0, .int .u32 0, .int .u32 0, .int .u32 0, .int .u32 0, .int .u32 0] 125 (0, 0))
  tab : w'.heap[0]? = some (.cells kVals fr.1 fr.2)
  row : ∀ j, j < 64 → w'.cell? ⟨g, j, none⟩ = some (.int .u32 ((ws.getD j 0).toNat : Int))
  bel : Below n0 w w'
theorem KW.drew {n0 g : Nat} {w : World} {s : S8} {ws : List UInt32} {fr : TypeId × Nat × Nat} {w' : World} (h : KW n0 g w s ws fr w') : KW n0 g w s ws fr w'.drew := ⟨h.st, h.res, h.tab, h.row, h.bel.drew⟩
theorem KW.drewN {n0 g : Nat} {w : World} {s : S8} {ws : List UInt32} {fr : TypeId × Nat × Nat} {w' : World} (h : KW n0 g w s ws fr w') (k : Nat) : KW n0 g w s ws fr (w'.drewN k) := ⟨h.st, h.res, h.tab, h.row, below_drewN' h.bel k⟩

theorem turn_quiet (x : UInt32) (n : Nat) (w : World) (m : Nat) (h0 : 0 < n) (hn : n < 32) :
    Calls Tryz.prog 138 #[.int .u32 (x.toNat : Int), .int .i64 (n : Int)] (w.drewN m) fun e w'' => e = .returned (.int .u32 ((rotr x n).toNat : Int)) ∧ ∃ k, w'' = w.drewN k :=
  Calls.quiet_of_same ((turn_any x n _ h0 hn).mono fun _ _ ⟨h, e⟩ => ⟨h, e.symm⟩)

theorem w_not (x : UInt32) : bits BinOp.xor IntKind.u32 IntKind.u32.max (x.toNat : Int) = ((~~~ x).toNat : Int) := by
  have hx := x.toNat_lt
  have := xor32 4294967295 x.toNat (by omega) (by omega)
  rw [show IntKind.u32.max = ((4294967295 : Nat) : Int) by rfl, this]
  have h2 : (4294967295 : UInt32) ^^^ x = ~~~ x := by
    refine UInt32.toBitVec_inj.1 ?_
    rw [UInt32.toBitVec_xor, UInt32.toBitVec_not, show (4294967295 : UInt32).toBitVec = BitVec.allOnes 32 by decide]
    exact BitVec.allOnes_xor
  rw [← h2, UInt32.toNat_xor]
  rfl

theorem w_sum (x y : UInt32) : ((x.toNat : Int) + (y.toNat : Int)) % 4294967296 = ((x + y).toNat : Int) := by rw [UInt32.toNat_add]; omega

theorem list_one (s : S8) : ∀ v ∈ s.list, v.oneCell' = true := by
  intro v hv
  simp only [S8.list, List.mem_cons, List.not_mem_nil, or_false] at hv
  rcases hv with rfl | rfl | rfl | rfl | rfl | rfl | rfl | rfl <;> rfl

theorem _root_.Go.wp_build_to {P : Program} {o : Oper} {a : Act} {w : World} {K : Act → World → Prop} {Q : Exit → Act → World → Prop} (t : TypeId) (parts : Array (Nat × Operand)) (cells : Array Value) (ho : o.op = .build t parts)
    (hf : P.built t (parts.map fun (i, x) => (i, a.eval x)).toList = some cells)
    (h : K (a.put o.dst (.agg cells)) w) : o.wp P a w K Q := by
  unfold Oper.wp execOp
  simp only [ho, Sem.run_bind, run_build w t _ cells hf, Result.andThen_ok]
  exact h

theorem info37 : (Tryz.prog.info? 125).map (fun i => i.zero) = some (some (.agg #[.int .u32 0, .int .u32 0, .int .u32 0, .int .u32 0, .int .u32 0, .int .u32 0, .int .u32 0, .int .u32 0])) := by kernel_rfl
theorem info35 : (Tryz.prog.info? 123).map (fun i => i.size) = some 1 := by kernel_rfl
theorem und37 : Tryz.prog.underlying 125 = some (.array 8 123) := by kernel_rfl
theorem build8 (x0 x1 x2 x3 x4 x5 x6 x7 : Int) : Tryz.prog.built 125 [(0, .int .u32 x0), (1, .int .u32 x1), (2, .int .u32 x2), (3, .int .u32 x3), (4, .int .u32 x4), (5, .int .u32 x5), (6, .int .u32 x6), (7, .int .u32 x7)] = some #[.int .u32 x0, .int .u32 x1, .int .u32 x2, .int .u32 x3, .int .u32 x4, .int .u32 x5, .int .u32 x6, .int .u32 x7] := by
  have h37 := info37
  have h35 := info35
  cases e37 : Tryz.prog.info? 125 with
  | none => rw [e37] at h37; cases h37
  | some i =>
    cases e35 : Tryz.prog.info? 123 with
    | none => rw [e35] at h35; cases h35
    | some j =>
      rw [e37] at h37
      rw [e35] at h35
      simp only [Option.map_some, Option.some.injEq] at h37 h35
      simp only [Program.built, e37, und37, e35, h37, h35]
      simp [Instr.fill, Value.cells]

theorem sw_cells (l : List UInt8) (j : Nat) (h : j < 64) : (arr64 (sw l 64))[j]? = some (.int .u32 (((sw l 64).getD j 0).toNat : Int)) := arr64_get _ _ (by rw [sw_length]; omega)

set_option maxRecDepth 100000 in
set_option maxHeartbeats 4000000 in
theorem taken_any (s : S8) (v : Value) (l : List UInt8) (w : World) (hr : Rd w w.heap.size v l) (hl : l.length = 64)
    (fr : TypeId × Nat × Nat) (hk : w.heap[0]? = some (.cells kVals fr.1 fr.2)) :
    Calls Tryz.prog 85 #[s.val, v] w fun e w' => e = .returned (taken8 s l).val ∧ Below w.heap.size w w' := by
  unfold S8.val
  have hn0 := blk_lt hk
  go_enter Tryz.func85, Tryz.ntmps85
  go_wp2_with fail
  refine (schedule_any v l _ ?_ hl).mono ?_
  · exact ((hr.alloc (Nat.le_refl _) _).alloc (by simp) _).more (by simp; omega)
  rintro e w1 ⟨rfl, hbw⟩
  obtain ⟨n0, hn⟩ : ∃ n, n = w.heap.size := ⟨_, rfl⟩
  have hA : w1.heap[n0]? = some (.cells #[.int .u32 (s.a.toNat : Int), .int .u32 (s.b.toNat : Int), .int .u32 (s.c.toNat : Int), .int .u32 (s.d.toNat : Int), .int .u32 (s.e.toNat : Int), .int .u32 (s.f.toNat : Int), .int .u32 (s.g.toNat : Int), .int .u32 (s.h.toNat : Int)] 125 (0, 0)) := by
    rw [hn, hbw.block w.heap.size (by simp; omega), Below.heap_alloc _ _ w.heap.size (by simp)]
    exact heap_alloc_new w _
  have hZ : w1.heap[n0 + 1]? = some (.cells #[.int .u32 0, .int .u32 0, .int .u32 0, .int .u32 0, .int .u32 0, .int .u32 0, .int .u32 0, .int .u32 0] 125 (0, 0)) := by
    rw [hn, hbw.block (w.heap.size + 1) (by simp)]
    have := heap_alloc_new (w.alloc (.cells #[.int .u32 (s.a.toNat : Int), .int .u32 (s.b.toNat : Int), .int .u32 (s.c.toNat : Int), .int .u32 (s.d.toNat : Int), .int .u32 (s.e.toNat : Int), .int .u32 (s.f.toNat : Int), .int .u32 (s.g.toNat : Int), .int .u32 (s.h.toNat : Int)] 125)) (.cells #[.int .u32 0, .int .u32 0, .int .u32 0, .int .u32 0, .int .u32 0, .int .u32 0, .int .u32 0, .int .u32 0] 125)
    simpa using this
  have hK : w1.heap[0]? = some (.cells kVals fr.1 fr.2) := by
    have hn1 := hn0
    rw [hbw.block 0 (by simp <;> omega), Below.heap_alloc _ _ 0 (by simp <;> omega), Below.heap_alloc _ _ 0 hn0]
    exact hk
  have hB : Below n0 w w1 := by
    have h0 : Below n0 w ((w.alloc (.cells #[.int .u32 (s.a.toNat : Int), .int .u32 (s.b.toNat : Int), .int .u32 (s.c.toNat : Int), .int .u32 (s.d.toNat : Int), .int .u32 (s.e.toNat : Int), .int .u32 (s.f.toNat : Int), .int .u32 (s.g.toNat : Int), .int .u32 (s.h.toNat : Int)] 125)).alloc (.cells #[.int .u32 0, .int .u32 0, .int .u32 0, .int .u32 0, .int .u32 0, .int .u32 0, .int .u32 0, .int .u32 0] 125)) :=
      ((Below.refl n0 w).alloc (by omega) _).alloc (by simp; omega) _
    exact below_chain h0 (by simp; omega) hbw
  have hsz : n0 + 2 ≤ w1.heap.size := by have := hbw.size; simp at this; omega
  have hL := arr64_length (sw l 64) (by rw [sw_length]; omega)
  clear hbw
  simp only [← hn]
  go_wp2_with (
    with_reducible refine at_store 181 ?_
    generalize hwa : World.alloc w1 _ = wa
    obtain ⟨Z, hZs, hG⟩ : ∃ Z : Array Value, Z.size = 64 ∧ wa.heap[w1.heap.size]? = some (.cells Z 181 (0, 0)) := ⟨_, rfl, by rw [← hwa]; exact heap_alloc_new w1 _⟩
    have hAa : wa.heap[n0]? = _ := (by rw [← hwa, Below.heap_alloc _ _ n0 (by omega)] : wa.heap[n0]? = w1.heap[n0]?).trans hA
    have hZa : wa.heap[n0 + 1]? = _ := (by rw [← hwa, Below.heap_alloc _ _ (n0 + 1) (by omega)] : wa.heap[n0 + 1]? = w1.heap[n0 + 1]?).trans hZ
    have hKa : wa.heap[0]? = _ := (by rw [← hwa, Below.heap_alloc _ _ 0 (by omega)] : wa.heap[0]? = w1.heap[0]?).trans hK
    have hBa : Below n0 w wa := by rw [← hwa]; exact hB.alloc (by omega) _
    obtain ⟨g, hg⟩ : ∃ g, g = w1.heap.size := ⟨_, rfl⟩
    rw [← hg] at hG
    simp only [← hg]
    have hF : n0 + 1 < g := by omega
    have hth : wa.there g 0 64 := by
      intro j hj
      rw [show (0 + j) = j by omega, blk_cell hG j, blk_free hG j]
      simp [show j < Z.size by omega]
    clear hA hZ hK hB hsz hg hwa hG hZs w1
    have hmid := World.rangeAt_setCells_same wa g 0 (arr64 (sw l 64)) (by rw [hL]; exact hth)
    have hA : (wa.setCells g 0 (arr64 (sw l 64))).heap[n0]? = _ := (heap_setCells_out (by omega) _ 0 wa).trans hAa
    have hZ : (wa.setCells g 0 (arr64 (sw l 64))).heap[n0 + 1]? = _ := (heap_setCells_out (by omega) _ 0 wa).trans hZa
    have hK : (wa.setCells g 0 (arr64 (sw l 64))).heap[0]? = _ := (heap_setCells_out (by omega) _ 0 wa).trans hKa
    have hB : Below n0 w (wa.setCells g 0 (arr64 (sw l 64))) := Below.setCells (by omega) _ 0 hBa
    have hW : ∀ j, j < 64 → (wa.setCells g 0 (arr64 (sw l 64))).cell? ⟨g, j, none⟩ = some (.int .u32 (((sw l 64).getD j 0).toNat : Int)) := fun j hj => by
      have := hmid j _ (sw_cells l j hj)
      rwa [show (0 + j) = j by omega] at this
    refine wpList_store_mid rfl 181 (.tmp 5) (.tmp 18) rfl g 0 (arr64 (sw l 64)).toArray rfl rfl ?_ ?_ ?_ ?_
    · rw [List.size_toArray, hL]; exact hth
    · rw [List.size_toArray, hL]; rfl
    · refine all_oneCell_toArray ?_
      intro v hv
      simp only [arr64, List.mem_append, List.mem_map, List.mem_replicate] at hv
      rcases hv with ⟨x, -, rfl⟩ | ⟨-, rfl⟩ <;> rfl
    rw [show (arr64 (sw l 64)).toArray.toList = arr64 (sw l 64) by simp]
    clear hmid hth hAa hZa hKa hBa hL
    have HN := Lib.hid hn
    clear hn
    have HK : KW n0 g w s (sw l 64) fr (wa.setCells g 0 (arr64 (sw l 64))) := ⟨hA, hZ, hK, hW, hB⟩
    clear hW hA hZ hK hB
    generalize wa.setCells g 0 (arr64 (sw l 64)) = wb at *
    apply wpList_nil)
  have a0 := blk_cell HK.st 0
  have a1 := blk_cell HK.st 1
  have a2 := blk_cell HK.st 2
  have a3 := blk_cell HK.st 3
  have a4 := blk_cell HK.st 4
  have a5 := blk_cell HK.st 5
  have a6 := blk_cell HK.st 6
  have a7 := blk_cell HK.st 7
  simp at a0 a1 a2 a3 a4 a5 a6 a7
  go_wp2
  go_quiet (fail)
  go_wp2
  have HK2 := HK.drewN nq
  clear HK a0 a1 a2 a3 a4 a5 a6 a7
  generalize wb.drewN nq = wc at *
  go_loopw [6, 7, 8, 9, 10, 11, 12, 13, 35] (fun v6 v7 v8 v9 v10 v11 v12 v13 i wr => ∃ (t : Nat) (r : S8), t ≤ 64 ∧ r = rounds (sw l 64) s t ∧ i = .int .i64 (t : Int) ∧ v6 = .int .u32 (r.a.toNat : Int) ∧ v7 = .int .u32 (r.b.toNat : Int) ∧ v8 = .int .u32 (r.c.toNat : Int) ∧ v9 = .int .u32 (r.d.toNat : Int)
      ∧ v10 = .int .u32 (r.e.toNat : Int) ∧ v11 = .int .u32 (r.f.toNat : Int) ∧ v12 = .int .u32 (r.g.toNat : Int) ∧ v13 = .int .u32 (r.h.toNat : Int) ∧ KW n0 g w s (sw l 64) fr wr)
    (fun _ _ _ _ _ _ _ _ i _ => 64 - (intOf i).toNat)
  case atStart => exact ⟨0, s, Nat.zero_le _, rfl, rfl, rfl, rfl, rfl, rfl, rfl, rfl, rfl, rfl, HK2⟩
  case round =>
    clear HK2
    obtain ⟨t, r, ht, hr, rfl, rfl, rfl, rfl, rfl, rfl, rfl, rfl, rfl, HK⟩ := hrel
    by_cases hlt : t < 64
    · have i1 : (0 : Int) ≤ (t : Int) := by omega
      have i2 : (t : Int) < 64 := by omega
      have e1 := HK.row t hlt
      have e2 : wr.cell? ⟨0, t, none⟩ = _ := (cell_of_row wr 0 t kVals _ fr.2 HK.tab).trans (kTab_get t hlt)
      obtain ⟨k, hk⟩ : ∃ k, k = kTab.getD t 0 := ⟨_, rfl⟩
      obtain ⟨x, hx⟩ : ∃ x, x = (sw l 64).getD t 0 := ⟨_, rfl⟩
      rw [← hk] at e2
      rw [← hx] at e1
      go_wp2
      have HR := Lib.hid (And.intro hr (And.intro hk hx))
      clear hr hk hx
      have T6 := Lib.hid (show ∀ W n, Calls Tryz.prog 138 #[.int .u32 (r.e.toNat : Int), .int .i64 6] (W.drewN n) (fun e w'' => e = .returned (.int .u32 ((rotr r.e 6).toNat : Int)) ∧ ∃ k, w'' = W.drewN k) from fun W n => turn_quiet r.e 6 W n (by omega) (by omega))
      have T11 := Lib.hid (show ∀ W n, Calls Tryz.prog 138 #[.int .u32 (r.e.toNat : Int), .int .i64 11] (W.drewN n) (fun e w'' => e = .returned (.int .u32 ((rotr r.e 11).toNat : Int)) ∧ ∃ k, w'' = W.drewN k) from fun W n => turn_quiet r.e 11 W n (by omega) (by omega))
      have T25 := Lib.hid (show ∀ W n, Calls Tryz.prog 138 #[.int .u32 (r.e.toNat : Int), .int .i64 25] (W.drewN n) (fun e w'' => e = .returned (.int .u32 ((rotr r.e 25).toNat : Int)) ∧ ∃ k, w'' = W.drewN k) from fun W n => turn_quiet r.e 25 W n (by omega) (by omega))
      go_quiet ((go_at_call 138; first | with_reducible exact T6.out _ _ | with_reducible exact T11.out _ _ | with_reducible exact T25.out _ _))
      go_wp2_with fail
      have hnot : bits BinOp.xor IntKind.u32 IntKind.u32.max (r.e.toNat : Int) = ((~~~ r.e).toNat : Int) := w_not r.e
      have hT1 : ((r.h.toNat : Int) + bits BinOp.xor IntKind.u32 (bits BinOp.xor IntKind.u32 ↑(rotr r.e 6).toNat ↑(rotr r.e 11).toNat) ↑(rotr r.e 25).toNat + bits BinOp.xor IntKind.u32 (bits BinOp.and IntKind.u32 ↑r.e.toNat ↑r.f.toNat) (bits BinOp.and IntKind.u32 (bits BinOp.xor IntKind.u32 IntKind.u32.max ↑r.e.toNat) ↑r.g.toNat) + (k.toNat : Int) + (x.toNat : Int)) % 4294967296 = ((t1of k x r).toNat : Int) := by
        rw [hnot, w_xor, w_xor, w_and, w_and, w_xor]
        unfold t1of
        generalize rotr r.e 6 ^^^ rotr r.e 11 ^^^ rotr r.e 25 = A
        generalize (r.e &&& r.f ^^^ (~~~ r.e) &&& r.g) = B
        simp only [UInt32.toNat_add]
        omega
      rw [hT1]
      clear hT1 hnot
      obtain ⟨T, hT⟩ : ∃ T, T = t1of k x r := ⟨_, rfl⟩
      rw [← hT]
      have HT := Lib.hid hT
      have HK2 := HK.drewN nq
      clear hT HK e1 e2 h
      generalize wr.drewN nq = wd at *
      refine (turn_any r.a 2 _ (by omega) (by omega)).mono ?_
      rintro e w' ⟨rfl, rfl⟩
      go_wp2_with fail
      refine (turn_any r.a 13 _ (by omega) (by omega)).mono ?_
      rintro e w' ⟨rfl, rfl⟩
      go_wp2_with fail
      refine (turn_any r.a 22 _ (by omega) (by omega)).mono ?_
      rintro e w' ⟨rfl, rfl⟩
      go_wp2_with fail
      go_roundw
      case rel =>
        obtain ⟨h1, h2, h3⟩ := HR.out
        refine ⟨t + 1, r.step k x, by omega, ?_, by go_num, ?_, rfl, rfl, rfl, ?_, rfl, rfl, rfl, HK2⟩
        · rw [h1, h2, h3]; rfl
        · simp only [w_xor, w_and, S8.step, t2of, ← HT.out]
          refine congrArg (Value.int .u32) ?_
          simp only [UInt32.toNat_add]
          omega
        · simp only [S8.step, ← HT.out]
          refine congrArg (Value.int .u32) ?_
          simp only [UInt32.toNat_add]
          omega
      case measure => simp [intOf]; omega
    · have ht64 : t = 64 := by omega
      subst ht64
      have i3 : ¬ ((64 : Nat) : Int) < 64 := by omega
      have a0 := blk_cell HK.st 0
      have a1 := blk_cell HK.st 1
      have a2 := blk_cell HK.st 2
      have a3 := blk_cell HK.st 3
      have a4 := blk_cell HK.st 4
      have a5 := blk_cell HK.st 5
      have a6 := blk_cell HK.st 6
      have a7 := blk_cell HK.st 7
      simp at a0 a1 a2 a3 a4 a5 a6 a7
      have HR := Lib.hid hr
      clear hr hlt
      have q0 := w_sum s.a r.a
      have q1 := w_sum s.b r.b
      have q2 := w_sum s.c r.c
      have q3 := w_sum s.d r.d
      have q4 := w_sum s.e r.e
      have q5 := w_sum s.f r.f
      have q6 := w_sum s.g r.g
      have q7 := w_sum s.h r.h
      go_wp2_with (
        with_reducible refine at_build 125 ?_
        refine wpList_plain rfl fun K hK9 => wp_build_to 125 _ (s.add r).list.toArray rfl ?_ (hK9 _ _ ?_)
        · simp only [List.map_toArray, List.map_cons, List.map_nil]
          exact build8 _ _ _ _ _ _ _ _
        refine wpList_store_mid rfl 125 (.tmp 4) (.tmp 130) rfl (n0 + 1) 0 (s.add r).list.toArray rfl rfl ?_ ?_ (all_oneCell_toArray (list_one _)) ?_
        · intro j hj
          rw [show (0 + j) = j by omega, blk_cell HK.res j, blk_free HK.res j]
          have hj8 : j < 8 := hj
          simp [hj8]
        · rfl
        have hmid := World.rangeAt_setCells_same wr (n0 + 1) 0 (s.add r).list (by
          intro j hj
          rw [show (0 + j) = j by omega, blk_cell HK.res j, blk_free HK.res j]
          have hj8 : j < 8 := hj
          simp [hj8])
        have hwf := Below.setCells (show n0 ≤ n0 + 1 by omega) (s.add r).list 0 HK.bel
        rw [show (s.add r).list.toArray.toList = (s.add r).list by simp]
        clear HK a0 a1 a2 a3 a4 a5 a6 a7 q0 q1 q2 q3 q4 q5 q6 q7
        generalize wr.setCells (n0 + 1) 0 (s.add r).list = wf at *
        apply wpList_nil)
      go_wp2_with fail
      refine bodyPost_ret (results_cell_mid rfl _ wf (n0 + 1) 0 (s.add r).list _ rfl hmid rfl rfl rfl) rfl ?_
      rw [HR.out]
      refine ⟨rfl, ?_⟩
      rw [← HN.out]
      exact hwf
end Go.Proofs.YtniclaapiabmdaaGreatDoor
namespace Go.Proofs.YtniclaapiabmdaaGreatDoor
set_option maxRecDepth 100000
open Go.RowKit

set_option maxHeartbeats 400000 in
theorem grown_any (v : Value) (l : List UInt8) (more : Int) (w : World) (hr : Rd w w.heap.size v l) (h0 : 0 ≤ more) (hm : l.length + more ≤ 140737488355328) :
    Calls Tryz.prog 134 #[v, .int .i64 more] w fun e w' => ∃ v', e = .returned v' ∧ Own w' w.heap.size v' l ∧ Below w.heap.size w w' := by
  obtain ⟨i0, hi, hz, hsz, hby⟩ := info_parts Tryz.infoByte
  obtain ⟨m, rfl⟩ := Int.eq_ofNat_of_zero_le h0
  have hr0 := hr
  obtain ⟨A, c, rfl, hc, hcm, hp⟩ := hr
  have hmk : ∀ W : World, (Instr.makeSlice 27 (.int .i64 (l.length : Int)) (.int .i64 ((l.length : Int) + (m : Int)))).run Tryz.prog W = .ok (.slice (some ⟨W.heap.size, 0, none⟩) l.length (l.length + m)) (W.alloc (.cells (List.replicate (l.length + m) (Value.int .u8 0)).toArray 5)) := by
    intro W
    rw [run_make W 27 5 i0 (.int .u8 0) Tryz.underlying27 hi hz .i64 .i64 l.length (l.length + m) (by omega) (by omega) (by rw [hby]; omega) (by omega)]
    have e1 : ((l.length : Int) + (m : Int)).toNat = l.length + m := by omega
    rw [e1, hsz, Nat.mul_one]
    congr 3
    apply Array.ext'
    rw [show (Value.int IntKind.u8 0).cells = #[Value.int .u8 0] from rfl, toList_madeCells_one]
  have hmb : (m : Int) ≤ 140737488355328 := by omega
  have hlb : (l.length : Int) ≤ 140737488355328 := by omega
  go_enter Tryz.func134, Tryz.ntmps134
  go_wp2_with (refine wpList_copy_rd rfl (.tmp 13) (.tmp 14) _ rfl Tryz.underlying27 Tryz.sizeByte rfl rfl ((hr0.more (Nat.le_refl _)).keep (fun p hp' => World.cell?_alloc_lt w _ p hp')) rfl (heap_alloc_new w _) (by omega) (by simp) (by simp only [maxLen]; omega) (Nat.le_refl _) ?_; intro w1 hown1 hb1 hs1)
  go_ret
  exact ⟨_, rfl, hown1, ((Below.refl _ _).alloc (Nat.le_refl _) _).trans hb1⟩

set_option maxHeartbeats 400000 in
theorem appendHigh_any (v : Value) (l : List UInt8) (n size : Nat) (B : Nat) (w : World) (hown : Own w B v l) (hn : n < 18446744073709551616) (hs : size ≤ 8) (hl : l.length ≤ 140737488355320) (hB : B ≤ w.heap.size) :
    Calls Tryz.prog 133 #[v, .int .u64 (n : Int), .int .i64 (size : Int)] w fun e w' => ∃ v', e = .returned v' ∧ Own w' B v' (l ++ be n size) ∧ Below B w w' := by
  obtain ⟨i0, hi, hz, hsz, hby⟩ := info_parts Tryz.infoByte
  go_enter Tryz.func133, Tryz.ntmps133
  go_wp2
  go_loopw [0, 7] (fun b i wr => ∃ (r : Nat) (dn : List UInt8), r ≤ size ∧ dn.length + r = size ∧ i = .int .i64 ((r : Int) - 1) ∧ dn ++ be n r = be n size ∧ Own wr B b (l ++ dn) ∧ Below B w wr)
    (fun _ i _ => (intOf i + 1).toNat)
  case atStart => exact ⟨size, [], Nat.le_refl _, by simp, rfl, rfl, by simpa using hown, Below.refl _ _⟩
  case round =>
    obtain ⟨r, dn, hr, hdn, rfl, hbe, ho, hbw⟩ := hrel
    have HD := Lib.hid hdn
    have HB := Lib.hid hbe
    clear hdn hbe
    by_cases h0 : r = 0
    · subst h0
      go_wp2
      go_ret
      refine ⟨_, rfl, ?_, hbw⟩
      have := HB.out
      simp only [be, List.append_nil] at this
      rw [← this]
      exact ho
    · obtain ⟨q, rfl⟩ : ∃ q, r = q + 1 := ⟨r - 1, by omega⟩
      have hdl : dn.length ≤ 7 := by have := HD.out; omega
      go_wp2_with (at_builtin; refine wpList_append_rd rfl (.tmp 14) (.tmp 20) _ rfl i0 Tryz.underlying27 hi hz hsz hby rfl (ho.alloc _) rfl (rd_lit wr _ [UInt8.ofNat (n / 2 ^ (8 * q))] 1 rfl (by simp [bcells, bval]) (by simp [maxLen])) (by simp; omega) (by have := hbw.size; simp; omega) ?_; intro v1 w1 ho1 hg1 _)
      have hb1 : Below B w w1 := Own.below_grown (hbw.alloc (by have := hbw.size; omega) _) (ho.alloc _) (Nat.le_refl _) (by have := hbw.size; simp; omega) hg1
      clear hg1 ho hbw
      go_roundw
      case rel => exact ⟨q, dn ++ [UInt8.ofNat (n / 2 ^ (8 * q))], by omega, by have := HD.out; simp; omega, by go_num, by have := HB.out; simp only [be] at this; rw [← this]; simp, by rw [← List.append_assoc]; exact ho1, hb1⟩
      case measure => first | (simp [intOf]; done) | (simp [intOf]; omega)
end Go.Proofs.YtniclaapiabmdaaGreatDoor
namespace Go.Proofs.YtniclaapiabmdaaGreatDoor
set_option maxRecDepth 100000
open Go.RowKit

set_option maxHeartbeats 400000 in
theorem N_any (v : Value) (l : List UInt8) (n : Nat) (w : World) (hr : Rd w w.heap.size v l) (hn : n < 18446744073709551616) (hl : l.length ≤ 140737488355320) :
    Calls Tryz.prog 91 #[v, .int .u64 (n : Int)] w fun e w' => ∃ v', e = .returned v' ∧ Own w' w.heap.size v' (l ++ be n 8) ∧ Below w.heap.size w w' := by
  go_enter Tryz.func91, Tryz.ntmps91
  go_wp2_with fail
  refine (grown_any v l 8 w hr (by omega) (by omega)).mono ?_
  rintro e w1 ⟨v1, rfl, ho1, hb1⟩
  go_wp2_with fail
  refine (appendHigh_any v1 l n 8 w.heap.size w1 ho1 hn (by omega) (by omega) hb1.size).mono ?_
  rintro e w2 ⟨v2, rfl, ho2, hb2⟩
  go_wp2_with fail
  go_ret
  exact ⟨_, rfl, ho2, hb1.trans hb2⟩


end Go.Proofs.YtniclaapiabmdaaGreatDoor
namespace Go.Proofs.YtniclaapiabmdaaGreatDoor
set_option maxRecDepth 100000
open Go.RowKit

set_option maxHeartbeats 400000 in
theorem T_any (v : Value) (s : ByteArray) (l : List UInt8) (w : World) (hr : Rd w w.heap.size v l) (hsm : s.size ≤ maxLen) (hl : l.length ≤ 140737488355328 - 65539) :
    Calls Tryz.prog 78 #[v, .string s] w fun e w' => ∃ v', e = .returned v' ∧ Own w' w.heap.size v' (l ++ be ((strBytes s).take 65535).length 4 ++ (strBytes s).take 65535) ∧ Below w.heap.size w w' := by
  obtain ⟨i0, hi, hz, hsz, hby⟩ := info_parts Tryz.infoByte
  unfold maxLen at hsm
  have hln := strBytes_length s
  by_cases h0 : s.size ≤ 65535
  · have ht : (strBytes s).take 65535 = strBytes s := List.take_of_length_le (by omega)
    rw [ht, hln]
    clear hln ht
    go_enter Tryz.func78, Tryz.ntmps78
    go_wp2_with fail
    refine (grown_any v l _ w hr (by omega) (by omega)).mono ?_
    rintro e w1 ⟨v1, rfl, ho1, hb1⟩
    go_wp2_with fail
    refine (appendHigh_any v1 l s.size 4 w.heap.size w1 ho1 (by omega) (by omega) (by omega) hb1.size).mono ?_
    rintro e w2 ⟨v2, rfl, ho2, hb2⟩
    have hb12 := hb1.trans hb2
    go_wp2_with (at_builtin; refine wpList_append_str rfl (.tmp 20) (.tmp 21) _ _ rfl i0 Tryz.underlying27 Tryz.isString hi hz hsz hby rfl ho2 rfl (by simp [be_length]; omega) hb12.size ?_; intro v3 w3 ho3 hg3)
    go_ret
    exact ⟨_, rfl, ho3, Own.below_grown hb12 ho2 (Nat.le_refl _) hb12.size hg3⟩
  · have htl : ((strBytes s).take 65535).length = 65535 := by simp; omega
    have hxl : (s.extract 0 65535).size = 65535 := by rw [← strBytes_length, strBytes_extract]; exact htl
    have h1 : ¬ (s.size : Int) ≤ 65535 := by omega
    have hbnd : (65535 : Int) ≤ (s.size : Int) := by omega
    rw [← strBytes_extract] at htl ⊢
    have HX := Lib.hid hxl
    have HT := Lib.hid htl
    clear hxl htl
    go_enter Tryz.func78, Tryz.ntmps78
    go_wp2_with fail
    have hmin : min 65535 s.size = 65535 := by omega
    rw [hmin]
    refine (grown_any v l _ w hr (by omega) (by omega)).mono ?_
    rintro e w1 ⟨v1, rfl, ho1, hb1⟩
    clear hmin
    go_wp2_with fail
    have hmin : min 65535 s.size = 65535 := by omega
    rw [hmin]
    clear hmin
    refine (appendHigh_any v1 l 65535 4 w.heap.size w1 ho1 (by omega) (by omega) (by omega) hb1.size).mono ?_
    rintro e w2 ⟨v2, rfl, ho2, hb2⟩
    have hb12 := hb1.trans hb2
    go_wp2_with (at_builtin; refine wpList_append_str rfl (.tmp 20) (.tmp 21) _ _ rfl i0 Tryz.underlying27 Tryz.isString hi hz hsz hby rfl ho2 rfl (by have := HX.out; simp [be_length]; omega) hb12.size ?_; intro v3 w3 ho3 hg3)
    go_ret
    exact ⟨_, rfl, by rw [HT.out]; exact ho3, Own.below_grown hb12 ho2 (Nat.le_refl _) hb12.size hg3⟩


end Go.Proofs.YtniclaapiabmdaaGreatDoor
namespace Go.Proofs.YtniclaapiabmdaaGreatDoor
set_option maxRecDepth 100000
open Go.RowKit

set_option maxHeartbeats 400000 in
theorem B_any (v x : Value) (l m : List UInt8) (w : World) (hr : Rd w w.heap.size v l) (hx : Rd w w.heap.size x m) (hl : l.length ≤ 140737488355328 - 65539) :
    Calls Tryz.prog 77 #[v, x] w fun e w' => ∃ v', e = .returned v' ∧ Own w' w.heap.size v' (l ++ be (m.take 65535).length 4 ++ m.take 65535) ∧ Below w.heap.size w w' := by
  obtain ⟨i0, hi, hz, hsz, hby⟩ := info_parts Tryz.infoByte
  have hml := hx.len
  unfold maxLen at hml
  by_cases h0 : m.length ≤ 65535
  · have ht : m.take 65535 = m := List.take_of_length_le h0
    rw [ht]
    have hx0 := hx
    obtain ⟨A, c, rfl, hc, hcm, hp⟩ := hx
    go_enter Tryz.func77, Tryz.ntmps77
    go_wp2_with fail
    refine (grown_any v l _ w hr (by omega) (by omega)).mono ?_
    rintro e w1 ⟨v1, rfl, ho1, hb1⟩
    go_wp2_with fail
    refine (appendHigh_any v1 l m.length 4 w.heap.size w1 ho1 (by omega) (by omega) (by omega) hb1.size).mono ?_
    rintro e w2 ⟨v2, rfl, ho2, hb2⟩
    have hb12 := hb1.trans hb2
    go_wp2_with (at_builtin; refine wpList_append_rd rfl (.tmp 20) (.tmp 21) _ rfl i0 Tryz.underlying27 hi hz hsz hby rfl ho2 rfl (hx0.below hb12) (by simp [be_length]; omega) hb12.size ?_; intro v3 w3 ho3 hg3 _)
    go_ret
    exact ⟨_, rfl, ho3, Own.below_grown hb12 ho2 (Nat.le_refl _) hb12.size hg3⟩
  · have hx0 := hx
    obtain ⟨A, c, rfl, hc, hcm, hp⟩ := hx
    have htl : (m.take 65535).length = 65535 := by simp; omega
    have hx1 : Rd w w.heap.size (.slice A 65535 c) (m.take 65535) := by
      obtain ⟨b, o, rfl, hb, hcell⟩ := hp (by omega)
      refine ⟨_, c, by rw [htl], by omega, hcm, fun _ => ⟨b, o, rfl, hb, fun j hj => ?_⟩⟩
      rw [hcell j (by omega)]
      simp
    have h1 : ¬ (m.length : Int) ≤ 65535 := by omega
    generalize m.take 65535 = t at *
    go_enter Tryz.func77, Tryz.ntmps77
    go_wp2_with fail
    refine (grown_any v l _ w hr (by omega) (by omega)).mono ?_
    rintro e w1 ⟨v1, rfl, ho1, hb1⟩
    go_wp2_with fail
    refine (appendHigh_any v1 l 65535 4 w.heap.size w1 ho1 (by omega) (by omega) (by omega) hb1.size).mono ?_
    rintro e w2 ⟨v2, rfl, ho2, hb2⟩
    have hb12 := hb1.trans hb2
    have HT := Lib.hid htl
    clear htl
    go_wp2_with (at_builtin; refine wpList_append_rd rfl (.tmp 20) (.tmp 21) _ rfl i0 Tryz.underlying27 hi hz hsz hby rfl ho2 rfl (hx1.below hb12) (by have := HT.out; simp [be_length]; omega) hb12.size ?_; intro v3 w3 ho3 hg3 _)
    go_ret
    exact ⟨_, rfl, by rw [HT.out]; exact ho3, Own.below_grown hb12 ho2 (Nat.le_refl _) hb12.size hg3⟩
end Go.Proofs.YtniclaapiabmdaaGreatDoor
