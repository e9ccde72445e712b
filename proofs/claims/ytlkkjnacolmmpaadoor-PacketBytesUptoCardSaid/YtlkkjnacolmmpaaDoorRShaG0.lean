
/- The walk of the document's turn of a word. The walk of the document's filled-up message. The walk of the document's block: 64 bytes more. The walk of the document's sum. The walk of the document's sum of a word and parts. -/
import Derived.Test.YtlkkjnacolmmpaaDoorShaS0
import Derived.Test.YtlkkjnacolmmpaaDoorShaM0
import Derived.LoopTactic
import Derived.Test.YtlkkjnacolmmpaaDoorWireDoc0
namespace Go.Proofs.YtlkkjnacolmmpaaDoor
set_option maxRecDepth 100000
open Go.RowKit

set_option maxHeartbeats 400000 in
theorem rturn_any (x : UInt32) (n : Nat) (w : World) (h0 : 0 < n) (hn : n < 32) :
    Calls Tryd.prog 134 #[.int .u32 (x.toNat : Int), .int .u64 (n : Int)] w fun e w' => e = .returned (.int .u32 ((rotr x n).toNat : Int)) ∧ w = w' := by
  have hx := x.toNat_lt
  obtain ⟨m, hmm⟩ : ∃ m : Nat, m = 32 - n := ⟨_, rfl⟩
  have HM := Lib.hid hmm
  have i1 : (32 : Int) - (n : Int) = (m : Int) := by omega
  have i2 : (0 : Int) ≤ (m : Int) := by omega
  have i3 : (m : Int) < 32 := by omega
  have i4 : (n : Int) < 32 := by omega
  have i5 : (n : Int) ≤ 32 := by omega
  clear hmm
  go_enter Tryd.func134, Tryd.ntmps134
  go_wp2_with fail
  go_ret
  refine ⟨?_, rfl⟩
  show Ending.returned (.int .u32 (bits BinOp.or IntKind.u32 ((x.toNat : Int) / 2 ^ n) ((x.toNat : Int) * 2 ^ m % 4294967296))) = _
  rw [w_shl x m (by omega), w_shr x n hn, w_or, HM.out]
  unfold rotr
  rw [UInt32.or_comm]

theorem rturn_still (x : UInt32) (n : Nat) (w : World) (h0 : 0 < n) (hn : n < 32) :
    Calls Tryd.prog 134 #[.int .u32 (x.toNat : Int), .int .u64 (n : Int)] w fun e w' => e = .returned (.int .u32 ((rotr x n).toNat : Int)) ∧ w' = w :=
  (rturn_any x n w h0 hn).mono fun _ _ ⟨h, e⟩ => ⟨h, e.symm⟩
theorem rturn_quiet (x : UInt32) (n : Nat) (w : World) (m : Nat) (h0 : 0 < n) (hn : n < 32) :
    Calls Tryd.prog 134 #[.int .u32 (x.toNat : Int), .int .u64 (n : Int)] (w.drewN m) fun e w'' => e = .returned (.int .u32 ((rotr x n).toNat : Int)) ∧ ∃ k, w'' = w.drewN k :=
  Calls.quiet_of_same (rturn_still x n _ h0 hn)
end Go.Proofs.YtlkkjnacolmmpaaDoor
namespace Go.Proofs.YtlkkjnacolmmpaaDoor
set_option maxRecDepth 100000
open Go.RowKit

theorem set_tail {α : Type} (A B : List α) (k : Nat) (x : α) : (A ++ B).set (A.length + k) x = A ++ B.set k x := by
  rw [List.set_append_right _ _ (by omega)]
  simp
def padS (M : List UInt8) (F b : Nat) : Nat → List UInt8
  | 0 => M
  | i + 1 => (padS M F b i).set (F - 1 - i) (UInt8.ofNat (b / 2 ^ (8 * i)))
theorem padS_length (M : List UInt8) (F b i : Nat) : (padS M F b i).length = M.length := by
  induction i with
  | zero => rfl
  | succ i ih => simp [padS, ih]
theorem padS_8 (M : List UInt8) (F b : Nat) (hM : M.length = F) (h8 : 8 ≤ F) : padS M F b 8 = over M (F - 8) (be b 8) := by
  obtain ⟨A, hA⟩ : ∃ A, A = M.take (F - 8) := ⟨_, rfl⟩
  obtain ⟨B, hB⟩ : ∃ B, B = M.drop (F - 8) := ⟨_, rfl⟩
  have hAl : A.length = F - 8 := by rw [hA, List.length_take]; omega
  have hBl : B.length = 8 := by rw [hB, List.length_drop]; omega
  have hMab : M = A ++ B := by rw [hA, hB, List.take_append_drop]
  have hover : over M (F - 8) (be b 8) = A ++ be b 8 := by
    unfold over
    rw [be_length, List.drop_of_length_le (by omega), List.append_nil, ← hA]
  rw [hover, hMab]
  match B, hBl with
  | [x0, x1, x2, x3, x4, x5, x6, x7], _ =>
    simp only [padS]
    rw [show F - 1 - 0 = A.length + 7 by omega, show F - 1 - 1 = A.length + 6 by omega, show F - 1 - 2 = A.length + 5 by omega, show F - 1 - 3 = A.length + 4 by omega,
      show F - 1 - 4 = A.length + 3 by omega, show F - 1 - 5 = A.length + 2 by omega, show F - 1 - 6 = A.length + 1 by omega, show F - 1 - 7 = A.length + 0 by omega]
    rw [set_tail, set_tail, set_tail, set_tail, set_tail, set_tail, set_tail, set_tail]
    rfl

set_option maxHeartbeats 1000000 in
theorem rpadded_any (v : Value) (l : List UInt8) (w : World) (hr : Rd w w.heap.size v l) (hl : l.length ≤ 140737488355000) :
    Calls Tryd.prog 127 #[v] w fun e w' => ∃ v', e = .returned v' ∧ Own w' w.heap.size v' (pad l l.length) ∧ Below w.heap.size w w' := by
  obtain ⟨i0, hi, hz, hsz, hby⟩ := info_parts Tryd.infoByte
  obtain ⟨A, c, rfl⟩ := hr.form
  have hfl := fullOf_le l.length
  have HP := Lib.hid (show pad l l.length = over ((over (List.replicate (fullOf l.length) 0) 0 l).set l.length 128) (fullOf l.length - 8) (be (8 * l.length % 18446744073709551616) 8) from rfl)
  obtain ⟨F, hF⟩ : ∃ F, F = fullOf l.length := ⟨_, rfl⟩
  have HF := Lib.hid (show F = (l.length + 72) / 64 * 64 from by rw [hF]; rfl)
  rw [← hF] at hfl HP
  clear hF
  obtain ⟨b, hb⟩ : ∃ b, b = 8 * l.length % 18446744073709551616 := ⟨_, rfl⟩
  rw [← hb] at HP
  have hb8 : (l.length : Int) * 8 = (b : Int) := by omega
  have hblt : b < 18446744073709551616 := by omega
  clear hb
  obtain ⟨hf1, hf2⟩ := hfl
  go_enter Tryd.func127, Tryd.ntmps127
  go_wp2
  go_loop [3] (fun n => ∃ k : Nat, l.length + 9 ≤ k ∧ k ≤ F ∧ n = .int .i64 (k : Int)) (fun n => F - (intOf n).toNat)
  case atStart => exact ⟨l.length + 9, Nat.le_refl _, hf1, by go_num⟩
  case round =>
    obtain ⟨k, hk1, hk2, rfl⟩ := hrel
    by_cases hm : k % 64 = 0
    · have hkF : k = F := by have := HF.out; omega
      subst hkF
      have m1 : ((k : Int) % 64 != 0) = false := by simp; omega
      have m2 : ((k : Int) % 64 == 0) = true := by simp; omega
      have HM := Lib.hid hm
      clear hm hk1 hk2
      go_wp2_with (
        first
          | (
            at_make
            refine wpList_make_zero rfl (.tmp 15) (.tmp 15) 41 rfl Tryd.underlying41 i0 hi hz hsz hby k rfl rfl (by omega) ?_
            intro hb0
            have hbw0 : Below w.heap.size w (w.alloc (.cells (bcells (List.replicate k 0)).toArray 5)) := (Below.refl _ _).alloc (Nat.le_refl _) _
            have hr0 : Rd (w.alloc (.cells (bcells (List.replicate k 0)).toArray 5)) w.heap.size _ l := hr.below hbw0
            have hsz0 : (w.alloc (.cells (bcells (List.replicate k 0)).toArray 5)).heap.size = w.heap.size + 1 := by simp
            generalize w.alloc (.cells (bcells (List.replicate k 0)).toArray 5) = w0 at *
            obtain ⟨g, hg⟩ : ∃ g, g = w.heap.size := ⟨_, rfl⟩
            rw [← hg] at hb0 hsz0 hbw0
            simp only [← hg]
            rw [← hg] at hr0
            have HG := Lib.hid hg
            clear hg hr)
          | (
            with_reducible refine at_copy ?_
            refine wpList_copy_part rfl (.tmp 17) (.tmp 18) 41 rfl Tryd.underlying41 Tryd.sizeByte rfl rfl hr0 hb0 (by omega) (by simp; omega) ?_
            intro w1 hb1 hbw1 hsz1 _
            have hbx : Below g w w1 := hbw0.trans (hbw1 g (Nat.le_refl _))
            have hlen : (over (List.replicate k 0) 0 l).length = k := by rw [over_length (by simp; omega)]; simp
            have i1 : (0 : Int) ≤ (l.length : Int) := by omega
            have i2 : (l.length : Int) < (k : Int) := by omega
            have hc := hb1.cell l.length (by omega)
            have hfz := hb1.free l.length
            have hst := hb1.set l.length 128
            clear hbw1 hb0 hr0 hbw0))
      have hbz : Below g w (w1.setCell ⟨g, l.length, none⟩ (.int .u8 128)) := hbx.setCell (Nat.le_refl _) _
      replace hst : Blk (w1.setCell ⟨g, l.length, none⟩ (.int .u8 128)) g ((over (List.replicate k 0) 0 l).set l.length 128) := hst
      have hsz2 : (w1.setCell ⟨g, l.length, none⟩ (.int .u8 128)).heap.size = w1.heap.size := by simp
      generalize w1.setCell ⟨g, l.length, none⟩ (.int .u8 128) = w2 at *
      have hlen2 : ((over (List.replicate k 0) 0 l).set l.length 128).length = k := by rw [List.length_set, hlen]
      generalize (over (List.replicate k 0) 0 l).set l.length 128 = M at *
      clear hc hfz hbx hb1 hlen
      clear hb8 HF
      go_loopw [6] (fun i wr => ∃ r : Nat, r ≤ 8 ∧ i = .int .i64 (r : Int) ∧ Blk wr g (padS M k b r) ∧ Below g w wr) (fun i _ => 8 - (intOf i).toNat)
      case atStart => exact ⟨0, Nat.zero_le _, rfl, hst, hbz⟩
      case round =>
        clear hst hbz
        obtain ⟨r, hr8, rfl, hst, hbz⟩ := hrel
        have hpl := padS_length M k b r
        by_cases hlt : r < 8
        · obtain ⟨q, hq⟩ : ∃ q, q = k - 1 - r := ⟨_, rfl⟩
          have HQ := Lib.hid (show padS M k b (r + 1) = (padS M k b r).set q (UInt8.ofNat (b / 2 ^ (8 * r))) from by rw [hq]; rfl)
          generalize padS M k b r = N at *
          have ci : (k : Int) - 1 - (r : Int) = (q : Int) := by omega
          have q1 : (0 : Int) ≤ (q : Int) := by omega
          have q2 : (q : Int) < (k : Int) := by omega
          have i1 : (0 : Int) ≤ (r : Int) := by omega
          have i2 : (r : Int) < 8 := by omega
          obtain ⟨y, hc⟩ : ∃ y, wr.cell? ⟨g, q, none⟩ = some y := ⟨_, hst.cell q (by omega)⟩
          have hfz := hst.free q
          have hst2 := hst.set q (UInt8.ofNat (b / 2 ^ (8 * r)))
          have hv : ((UInt8.ofNat (b / 2 ^ (8 * r))).toNat : Int) = (b : Int) / 2 ^ (8 * r) % 256 := by simp
          rw [hv] at hst2
          have hbz2 := hbz.setCell (p := ⟨g, q, none⟩) (Nat.le_refl _) (.int .u8 ((b : Int) / 2 ^ (8 * r) % 256))
          rw [← HQ.out] at hst2
          have H2 := Lib.hid hst2
          have H3 := Lib.hid hbz2
          clear hq hst2 hbz2 hv hpl hst hbz
          go_wp2
          go_roundw
          case rel => exact ⟨r + 1, by omega, by go_num, H2.out, H3.out⟩
          case measure => simp [intOf]; omega
        · have i2 : ¬ (r : Int) < 8 := by omega
          obtain rfl : r = 8 := by omega
          rw [padS_8 M k b hlen2 (by omega), ← HP.out] at hst hpl
          rw [hlen2] at hpl
          have ho := hst.own (B := w.heap.size) (Nat.le_of_eq HG.out.symm) (by rw [hpl]; simp only [maxLen]; omega)
          rw [hpl] at ho
          rw [HG.out] at hbz
          clear hlen2
          go_wp2
          go_ret
          exact ⟨_, rfl, ho, hbz⟩
    · have m1 : ((k : Int) % 64 != 0) = true := by simp; omega
      have m2 : ((k : Int) % 64 == 0) = false := by simp; omega
      have hlt : k < F := by have := HF.out; omega
      clear hm
      go_wp2
      go_round
      case rel => exact ⟨k + 1, by omega, by omega, by go_num⟩
      case measure => simp [intOf]; omega
end Go.Proofs.YtlkkjnacolmmpaaDoor
namespace Go.Proofs.YtlkkjnacolmmpaaDoor
set_option maxRecDepth 100000
open Go.RowKit

/-- what stays while the rounds are made -/
structure KB (n0 : Nat) (w : World) (s : S8) (p : List UInt32) (fr : TypeId × Nat × Nat) (w' : World) : Prop where
  st : w'.heap[n0]? = some (.cells #[.int .u32 (s.a.toNat : Int), .int .u32 (s.b.toNat : Int), .int .u32 (s.c.toNat : Int), .int .u32 (s.d.toNat : Int), .int .u32 (s.e.toNat : Int), .int .u32 (s.f.toNat : Int), .int .u32 (s.g.toNat : Int), .int .u32 (s.h.toNat : Int)] 153 (0, 0))
  res : w'.heap[n0 + 1]? = some (.cells #[.int .u32 0, .int .u32 0, .int .u32 0, .int .u32 0, .int .u32 0, .int .u32 0, .int .u32 0, .int .u32 0] 153 (0, 0))
  tab : w'.heap[1]? = some (.cells kVals fr.1 fr.2)
  row : w'.heap[n0 + 1 + 1]? = some (.cells (arr64 p).toArray 161 (0, 0))
  bel : Below n0 w w'
theorem KB.drew {n0 : Nat} {w : World} {s : S8} {p : List UInt32} {fr : TypeId × Nat × Nat} {w' : World} (h : KB n0 w s p fr w') : KB n0 w s p fr w'.drew := ⟨h.st, h.res, h.tab, h.row, h.bel.drew⟩
theorem KB.drewN {n0 : Nat} {w : World} {s : S8} {p : List UInt32} {fr : TypeId × Nat × Nat} {w' : World} (h : KB n0 w s p fr w') (k : Nat) : KB n0 w s p fr (w'.drewN k) := ⟨h.st, h.res, h.tab, h.row, below_drewN' h.bel k⟩
theorem KB.put {n0 : Nat} {w : World} {s : S8} {p : List UInt32} {fr : TypeId × Nat × Nat} {w' : World} (h : KB n0 w s p fr w') (h0 : 1 < n0) (x : UInt32) (t : Nat) (ht : p.length = t) (h64 : t < 64) :
    KB n0 w s (p ++ [x]) fr (w'.setCell ⟨n0 + 1 + 1, t, none⟩ (.int .u32 (x.toNat : Int))) := by
  subst ht
  refine ⟨(Below.heap_setCell w' _ _ n0 (by simp <;> omega)).trans h.st, (Below.heap_setCell w' _ _ (n0 + 1) (by simp)).trans h.res, (Below.heap_setCell w' _ _ _ (by simp <;> omega)).trans h.tab, ?_, h.bel.setCell (by simp <;> omega) _⟩
  rw [blk_set h.row, ← arr64_set _ _ h64]
  simp
theorem KB.start (w : World) (s : S8) (fr : TypeId × Nat × Nat) (hk : w.heap[1]? = some (.cells kVals fr.1 fr.2)) :
    KB w.heap.size w s [] fr (((w.alloc (.cells #[.int .u32 (s.a.toNat : Int), .int .u32 (s.b.toNat : Int), .int .u32 (s.c.toNat : Int), .int .u32 (s.d.toNat : Int), .int .u32 (s.e.toNat : Int), .int .u32 (s.f.toNat : Int), .int .u32 (s.g.toNat : Int), .int .u32 (s.h.toNat : Int)] 153)).alloc
      (.cells #[.int .u32 0, .int .u32 0, .int .u32 0, .int .u32 0, .int .u32 0, .int .u32 0, .int .u32 0, .int .u32 0] 153)).alloc (.cells (arr64 []).toArray 161)) := by
  have h0 := blk_lt hk
  refine ⟨?_, ?_, ?_, ?_, (((Below.refl _ _).alloc (Nat.le_refl _) _).alloc (by simp) _).alloc (by simp <;> omega) _⟩
  · exact (Below.heap_alloc _ _ _ (by simp <;> omega)).trans ((Below.heap_alloc _ _ _ (by simp)).trans (heap_alloc_new w _))
  · refine (Below.heap_alloc _ _ _ (by simp)).trans ?_
    have := heap_alloc_new (w.alloc (.cells #[.int .u32 (s.a.toNat : Int), .int .u32 (s.b.toNat : Int), .int .u32 (s.c.toNat : Int), .int .u32 (s.d.toNat : Int), .int .u32 (s.e.toNat : Int), .int .u32 (s.f.toNat : Int), .int .u32 (s.g.toNat : Int), .int .u32 (s.h.toNat : Int)] 153)) (.cells #[.int .u32 0, .int .u32 0, .int .u32 0, .int .u32 0, .int .u32 0, .int .u32 0, .int .u32 0, .int .u32 0] 153)
    simpa using this
  · exact (Below.heap_alloc _ _ _ (by simp <;> omega)).trans ((Below.heap_alloc _ _ _ (by simp <;> omega)).trans ((Below.heap_alloc _ _ _ h0).trans hk))
  · have := heap_alloc_new ((w.alloc (.cells #[.int .u32 (s.a.toNat : Int), .int .u32 (s.b.toNat : Int), .int .u32 (s.c.toNat : Int), .int .u32 (s.d.toNat : Int), .int .u32 (s.e.toNat : Int), .int .u32 (s.f.toNat : Int), .int .u32 (s.g.toNat : Int), .int .u32 (s.h.toNat : Int)] 153)).alloc (.cells #[.int .u32 0, .int .u32 0, .int .u32 0, .int .u32 0, .int .u32 0, .int .u32 0, .int .u32 0, .int .u32 0] 153)) (.cells (arr64 []).toArray 161)
    simpa using this

theorem rinfo8 : (Tryd.prog.info? 153).map (fun i => i.zero) = some (some (.agg #[.int .u32 0, .int .u32 0, .int .u32 0, .int .u32 0, .int .u32 0, .int .u32 0, .int .u32 0, .int .u32 0])) := by kernel_rfl
theorem rund8 : Tryd.prog.underlying 153 = some (.array 8 152) := by kernel_rfl
theorem rbuild8 (x0 x1 x2 x3 x4 x5 x6 x7 : Int) : Tryd.prog.built 153 [(0, .int .u32 x0), (1, .int .u32 x1), (2, .int .u32 x2), (3, .int .u32 x3), (4, .int .u32 x4), (5, .int .u32 x5), (6, .int .u32 x6), (7, .int .u32 x7)] = some #[.int .u32 x0, .int .u32 x1, .int .u32 x2, .int .u32 x3, .int .u32 x4, .int .u32 x5, .int .u32 x6, .int .u32 x7] := by
  have h37 := rinfo8
  have h35 := info35
  cases e37 : Tryd.prog.info? 153 with
  | none => rw [e37] at h37; cases h37
  | some i =>
    cases e35 : Tryd.prog.info? 152 with
    | none => rw [e35] at h35; cases h35
    | some j =>
      rw [e37] at h37
      rw [e35] at h35
      simp only [Option.map_some, Option.some.injEq] at h37 h35
      simp only [Program.built, e37, rund8, e35, h37, h35]
      simp [Instr.fill, Value.cells]

set_option maxRecDepth 100000 in
set_option maxHeartbeats 8000000 in
theorem rblock_any (s : S8) (v : Value) (l : List UInt8) (w : World) (hr : Rd w w.heap.size v l) (hl : l.length = 64)
    (fr : TypeId × Nat × Nat) (hk : w.heap[1]? = some (.cells kVals fr.1 fr.2)) :
    Calls Tryd.prog 128 #[s.val, v] w fun e w' => e = .returned (taken8 s l).val ∧ Below w.heap.size w w' := by
  unfold S8.val
  have hn0 := blk_lt hk
  have HK0 := Lib.hid (KB.start w s fr hk)
  obtain ⟨A, c, rfl, hc, hcm, hp⟩ := hr
  obtain ⟨b, o, rfl, hb, hcell⟩ := hp (by omega)
  rw [hl] at hc ⊢
  have HC := Lib.hid hcell
  clear hcell hp hk
  go_enter Tryd.func128, Tryd.ntmps128
  go_wp2
  go_loopw [6] (fun i wr => ∃ t : Nat, t ≤ 16 ∧ i = .int .i64 (t : Int) ∧ KB w.heap.size w s (sw l t) fr wr)
    (fun i _ => 16 - (intOf i).toNat)
  case atStart => exact ⟨0, Nat.zero_le _, rfl, HK0.out⟩
  case round =>
    clear HK0
    obtain ⟨t, ht, rfl, HK⟩ := hrel
    by_cases hlt : t < 16
    · have hst := sw_lt l t hlt hl
      have cell : ∀ j (h : j < 64), wr.cell? ⟨b, o + j, none⟩ = some (.int .u8 ((l[j]'(by omega)).toNat : Int)) := fun j h => (HK.bel.cell (p := ⟨b, o + j, none⟩) hb).trans (HC.out j (by omega))
      have e0 := cell (4 * t) (by omega)
      have e1 := cell (4 * t + 1) (by omega)
      have e2 := cell (4 * t + 2) (by omega)
      have e3 := cell (4 * t + 3) (by omega)
      have eH : wr.cell? ⟨w.heap.size + 1 + 1, t, none⟩ = some (.int .u32 0) := by
        rw [blk_cell HK.row t]
        have := arr64_old (sw l t) (by rw [sw_length]; omega)
        rw [sw_length] at this
        simpa using this
      have eF : wr.frozen? ⟨w.heap.size + 1 + 1, t, none⟩ = false := blk_free HK.row t
      obtain ⟨q, hq⟩ : ∃ q, q = 4 * t := ⟨_, rfl⟩
      have m0 : IntKind.i64.wrap (4 * (t : Int)) = (q : Int) := by rw [IntKind.wrap_i64]; omega
      have m1 : IntKind.i64.wrap ((q : Int) + 1) = ((q + 1 : Nat) : Int) := by rw [IntKind.wrap_i64]; omega
      have m2 : IntKind.i64.wrap ((q : Int) + 2) = ((q + 2 : Nat) : Int) := by rw [IntKind.wrap_i64]; omega
      have m3 : IntKind.i64.wrap ((q : Int) + 3) = ((q + 3 : Nat) : Int) := by rw [IntKind.wrap_i64]; omega
      obtain ⟨q1, hq1⟩ : ∃ q1, q1 = q + 1 := ⟨_, rfl⟩
      obtain ⟨q2, hq2⟩ : ∃ q2, q2 = q + 2 := ⟨_, rfl⟩
      obtain ⟨q3, hq3⟩ : ∃ q3, q3 = q + 3 := ⟨_, rfl⟩
      rw [← hq1] at m1
      rw [← hq2] at m2
      rw [← hq3] at m3
      have b0 : (0 : Int) ≤ (q : Int) := by omega
      have b1 : (0 : Int) ≤ (q1 : Int) := by omega
      have b2 : (0 : Int) ≤ (q2 : Int) := by omega
      have b3 : (0 : Int) ≤ (q3 : Int) := by omega
      have d0 : (q : Int) < 64 := by omega
      have d1 : (q1 : Int) < 64 := by omega
      have d2 : (q2 : Int) < 64 := by omega
      have d3 : (q3 : Int) < 64 := by omega
      generalize l[4 * t]'(by omega) = x0 at *
      generalize l[4 * t + 1]'(by omega) = x1 at *
      generalize l[4 * t + 2]'(by omega) = x2 at *
      generalize l[4 * t + 3]'(by omega) = x3 at *
      rw [show 4 * t = q from hq.symm] at e0
      rw [show 4 * t + 1 = q1 by omega] at e1
      rw [show 4 * t + 2 = q2 by omega] at e2
      rw [show 4 * t + 3 = q3 by omega] at e3
      have HS := Lib.hid hst
      have HP := Lib.hid (HK.put hn0 (word4 x0 x1 x2 x3) t (sw_length l t) (by omega))
      have i1 : (0 : Int) ≤ (t : Int) := by omega
      have i2 : (t : Int) < 16 := by omega
      have i3 : (t : Int) < 64 := by omega
      clear cell hst hq hq1 hq2 hq3 HK
      go_wp2
      go_still_tail 35, (by kernel_rfl)
      change wpList _ _ _ _ _ wr.drew
      go_wp2
      rw [word4_walk]
      refine ⟨⟨t + 1, by omega, by go_num, ?_⟩, by simp [intOf]; omega⟩
      rw [HS.out]
      exact HP.out.drew
    · have hlt' : ¬ (t : Int) < 16 := by omega
      obtain ⟨t1, rfl⟩ : ∃ t1 : Nat, t1 = t := ⟨_, rfl⟩
      have ht16 : 16 ≤ t1 := by omega
      have ht17 : t1 ≤ 16 := ht
      clear hlt ht HC
      go_wp2
      obtain ⟨wq, rfl⟩ : ∃ wq : World, wq = wr := ⟨_, rfl⟩
      go_loopw [7] (fun i wr => ∃ t : Nat, 16 ≤ t ∧ t ≤ 64 ∧ i = .int .i64 (t : Int) ∧ KB w.heap.size w s (sw l t) fr wr)
        (fun i _ => 64 - (intOf i).toNat)
      case atStart => exact ⟨16, by omega, by omega, rfl, by rwa [show t1 = 16 by omega] at HK⟩
      case round =>
        clear HK
        obtain ⟨t, ht0, ht, rfl, HK⟩ := hrel
        by_cases hlt : t < 64
        · have hn := sw_ge l t ht0
          have hlen := sw_length l t
          obtain ⟨p, hp⟩ : ∃ p, p = sw l t := ⟨_, rfl⟩
          rw [← hp] at hn hlen HK
          have HN := Lib.hid hn
          have cell : ∀ j, j < t → wr.cell? ⟨w.heap.size + 1 + 1, j, none⟩ = some (.int .u32 ((p.getD j 0).toNat : Int)) := fun j h => by
            rw [blk_cell HK.row j]
            have := arr64_get p j (by omega)
            simpa using this
          have e2 := cell (t - 2) (by omega)
          have e7 := cell (t - 7) (by omega)
          have e15 := cell (t - 15) (by omega)
          have e16 := cell (t - 16) (by omega)
          have eH : wr.cell? ⟨w.heap.size + 1 + 1, t, none⟩ = some (.int .u32 0) := by
            rw [blk_cell HK.row t]
            have := arr64_old p (by omega)
            rw [hlen] at this
            simpa using this
          have eF : wr.frozen? ⟨w.heap.size + 1 + 1, t, none⟩ = false := blk_free HK.row t
          have HP := Lib.hid (HK.put hn0 (nextW p) t hlen hlt)
          have HL := Lib.hid hlen
          obtain ⟨t2, ht2⟩ : ∃ x, x = t - 2 := ⟨_, rfl⟩
          obtain ⟨t7, ht7⟩ : ∃ x, x = t - 7 := ⟨_, rfl⟩
          obtain ⟨t15, ht15⟩ : ∃ x, x = t - 15 := ⟨_, rfl⟩
          obtain ⟨u16, hu16⟩ : ∃ x, x = t - 16 := ⟨_, rfl⟩
          have HNX : nextW p = sig1 (p.getD t2 0) + p.getD t7 0 + sig0 (p.getD t15 0) + p.getD u16 0 := by unfold nextW; rw [hlen, ht2, ht7, ht15, hu16]
          have HX := Lib.hid HNX
          rw [← ht2] at e2
          rw [← ht7] at e7
          rw [← ht15] at e15
          rw [← hu16] at e16
          have c2 : (t : Int) - 2 = (t2 : Int) := by omega
          have c7 : (t : Int) - 7 = (t7 : Int) := by omega
          have c15 : (t : Int) - 15 = (t15 : Int) := by omega
          have c16 : (t : Int) - 16 = (u16 : Int) := by omega
          have w2 : IntKind.i64.wrap ((t : Int) - 2) = (t2 : Int) := by rw [IntKind.wrap_i64]; omega
          have w7 : IntKind.i64.wrap ((t : Int) - 7) = (t7 : Int) := by rw [IntKind.wrap_i64]; omega
          have w15 : IntKind.i64.wrap ((t : Int) - 15) = (t15 : Int) := by rw [IntKind.wrap_i64]; omega
          have w16 : IntKind.i64.wrap ((t : Int) - 16) = (u16 : Int) := by rw [IntKind.wrap_i64]; omega
          have p2 : (0 : Int) ≤ (t2 : Int) := by omega
          have p7 : (0 : Int) ≤ (t7 : Int) := by omega
          have p15 : (0 : Int) ≤ (t15 : Int) := by omega
          have p16 : (0 : Int) ≤ (u16 : Int) := by omega
          have i3 : (t : Int) < 64 := by omega
          have i4 : (t2 : Int) < 64 := by omega
          have i5 : (t7 : Int) < 64 := by omega
          have i6 : (t15 : Int) < 64 := by omega
          have i7 : (u16 : Int) < 64 := by omega
          have i8 : (0 : Int) ≤ (t : Int) := by omega
          have i9 : (16 : Int) ≤ (t : Int) := by omega
          clear cell hn hlen hp ht2 ht7 ht15 hu16 HNX
          generalize p.getD t2 0 = x2 at *
          generalize p.getD t7 0 = x7 at *
          generalize p.getD t15 0 = x15 at *
          generalize p.getD u16 0 = x16 at *
          go_wp2
          go_quiet (fail)
          go_wp2
          have f7 : (wr.drewN nq).cell? ⟨w.heap.size + 1 + 1, t7, none⟩ = some (.int .u32 (x7.toNat : Int)) := e7
          have f16 : (wr.drewN nq).cell? ⟨w.heap.size + 1 + 1, u16, none⟩ = some (.int .u32 (x16.toNat : Int)) := e16
          have fH : (wr.drewN nq).cell? ⟨w.heap.size + 1 + 1, t, none⟩ = some (.int .u32 0) := eH
          have fF : (wr.drewN nq).frozen? ⟨w.heap.size + 1 + 1, t, none⟩ = false := eF
          have HP2 : KB w.heap.size w s (p ++ [nextW p]) fr (((wr.drewN nq).setCell ⟨w.heap.size + 1 + 1, t, none⟩ (.int .u32 ((nextW p).toNat : Int))).drew) := ((HK.drewN nq).put hn0 (nextW p) t HL.out hlt).drew
          have HPP := Lib.hid HP2
          clear e2 e15 e7 e16 eH eF HK HP HP2 c2 c7 c15 c16 w2 w15 p2 p15 i4 i6
          generalize wr.drewN nq = wz at *
          refine wp_region_still_tail 29 (by kernel_rfl) (by kernel_rfl) ?_
          simp only [List.take_succ_cons, List.take_zero, List.drop_succ_cons, List.drop_zero]
          still_step
          still_step
          still_call (rturn_still x2 17 _ (by omega) (by omega))
          still_step
          still_call (rturn_still x2 19 _ (by omega) (by omega))
          still_step
          still_step
          still_step
          still_step
          still_step
          still_step
          still_step
          still_step
          still_step
          still_step
          still_call (rturn_still x15 7 _ (by omega) (by omega))
          still_step
          still_call (rturn_still x15 18 _ (by omega) (by omega))
          still_step
          still_step
          still_step
          still_step
          still_step
          still_step
          still_step
          still_step
          still_step
          still_step
          still_step
          refine wpStill_nil ?_
          change wpList _ _ _ _ _ wz.drew
          go_wp2
          have hval : (bits BinOp.xor IntKind.u32 (bits BinOp.xor IntKind.u32 ↑(rotr x2 17).toNat ↑(rotr x2 19).toNat) ((x2.toNat : Int) / 1024) + (x7.toNat : Int) + bits BinOp.xor IntKind.u32 (bits BinOp.xor IntKind.u32 ↑(rotr x15 7).toNat ↑(rotr x15 18).toNat) ((x15.toNat : Int) / 8) + (x16.toNat : Int)) % 4294967296 = ((nextW p).toNat : Int) := by
            have a1 := w_shr x2 10 (by omega)
            have a2 := w_shr x15 3 (by omega)
            rw [show (2 : Int) ^ 10 = 1024 by rfl] at a1
            rw [show (2 : Int) ^ 3 = 8 by rfl] at a2
            rw [a1, a2, w_xor, w_xor, w_xor, w_xor, HX.out]
            unfold sig1 sig0
            generalize rotr x2 17 ^^^ rotr x2 19 ^^^ x2 >>> 10 = A
            generalize rotr x15 7 ^^^ rotr x15 18 ^^^ x15 >>> 3 = B
            simp only [UInt32.toNat_add]
            omega
          refine ⟨⟨t + 1, by omega, by omega, by go_num, ?_⟩, by simp [intOf]; omega⟩
          rw [hval, HN.out]
          exact HPP.out
        · have hj : ¬ (t : Int) < 64 := by omega
          have ht64 : t = 64 := by omega
          rw [ht64] at HK
          have hW : ∀ W j, KB w.heap.size w s (sw l 64) fr W → j < 64 → W.cell? ⟨w.heap.size + 1 + 1, j, none⟩ = some (.int .u32 (((sw l 64).getD j 0).toNat : Int)) := fun W j h hj => by
            rw [blk_cell h.row j]
            have := arr64_get (sw l 64) j (by rw [sw_length]; omega)
            simpa using this
          have HW := Lib.hid hW
          obtain ⟨L, hL⟩ : ∃ L, L = sw l 64 := ⟨_, rfl⟩
          have HT := Lib.hid (show (taken8 s l).val = (s.add (rounds L s 64)).val from by rw [hL]; rfl)
          rw [← hL] at HK HW
          have a0 := blk_cell HK.st 0
          have a1 := blk_cell HK.st 1
          have a2 := blk_cell HK.st 2
          have a3 := blk_cell HK.st 3
          have a4 := blk_cell HK.st 4
          have a5 := blk_cell HK.st 5
          have a6 := blk_cell HK.st 6
          have a7 := blk_cell HK.st 7
          simp at a0 a1 a2 a3 a4 a5 a6 a7
          clear hW hL ht64 hlt ht0 ht
          go_wp2
          go_quiet (fail)
          go_wp2
          have HK2 := HK.drewN nq
          clear HK a0 a1 a2 a3 a4 a5 a6 a7
          generalize wr.drewN nq = wc at *
          go_loopw [10, 11, 12, 13, 14, 15, 16, 17, 18] (fun v6 v7 v8 v9 v10 v11 v12 v13 i wr => ∃ (t : Nat) (r : S8), t ≤ 64 ∧ r = rounds L s t ∧ i = .int .i64 (t : Int) ∧ v6 = .int .u32 (r.a.toNat : Int) ∧ v7 = .int .u32 (r.b.toNat : Int) ∧ v8 = .int .u32 (r.c.toNat : Int) ∧ v9 = .int .u32 (r.d.toNat : Int)
              ∧ v10 = .int .u32 (r.e.toNat : Int) ∧ v11 = .int .u32 (r.f.toNat : Int) ∧ v12 = .int .u32 (r.g.toNat : Int) ∧ v13 = .int .u32 (r.h.toNat : Int) ∧ KB w.heap.size w s L fr wr)
            (fun _ _ _ _ _ _ _ _ i _ => 64 - (intOf i).toNat)
          case atStart => exact ⟨0, s, Nat.zero_le _, rfl, rfl, rfl, rfl, rfl, rfl, rfl, rfl, rfl, rfl, HK2⟩
          case round =>
            clear HK2
            obtain ⟨t, r, ht, hr, rfl, rfl, rfl, rfl, rfl, rfl, rfl, rfl, rfl, HK⟩ := hrel
            by_cases hlt : t < 64
            · have i1 : (0 : Int) ≤ (t : Int) := by omega
              have i2 : (t : Int) < 64 := by omega
              have e1 := HW.out wr t HK hlt
              have e2 : wr.cell? ⟨1, t, none⟩ = _ := (cell_of_row wr _ t kVals _ fr.2 HK.tab).trans (kTab_get t hlt)
              obtain ⟨k, hk⟩ : ∃ k, k = kTab.getD t 0 := ⟨_, rfl⟩
              obtain ⟨x, hx⟩ : ∃ x, x = L.getD t 0 := ⟨_, rfl⟩
              rw [← hk] at e2
              rw [← hx] at e1
              have HR := Lib.hid (And.intro hr (And.intro hk hx))
              clear hr hk hx
              have T6 := Lib.hid (show ∀ W n, Calls Tryd.prog 134 #[.int .u32 (r.e.toNat : Int), .int .u64 6] (W.drewN n) (fun e w'' => e = .returned (.int .u32 ((rotr r.e 6).toNat : Int)) ∧ ∃ k, w'' = W.drewN k) from fun W n => rturn_quiet r.e 6 W n (by omega) (by omega))
              have T11 := Lib.hid (show ∀ W n, Calls Tryd.prog 134 #[.int .u32 (r.e.toNat : Int), .int .u64 11] (W.drewN n) (fun e w'' => e = .returned (.int .u32 ((rotr r.e 11).toNat : Int)) ∧ ∃ k, w'' = W.drewN k) from fun W n => rturn_quiet r.e 11 W n (by omega) (by omega))
              have T25 := Lib.hid (show ∀ W n, Calls Tryd.prog 134 #[.int .u32 (r.e.toNat : Int), .int .u64 25] (W.drewN n) (fun e w'' => e = .returned (.int .u32 ((rotr r.e 25).toNat : Int)) ∧ ∃ k, w'' = W.drewN k) from fun W n => rturn_quiet r.e 25 W n (by omega) (by omega))
              go_wp2
              go_quiet ((go_at_call 134; first | with_reducible exact T6.out _ _ | with_reducible exact T11.out _ _ | with_reducible exact T25.out _ _))
              go_wp2_with fail
              have hnot : bits BinOp.xor IntKind.u32 IntKind.u32.max (r.e.toNat : Int) = ((~~~ r.e).toNat : Int) := w_not r.e
              have hT1 : ((r.h.toNat : Int) + bits BinOp.xor IntKind.u32 (bits BinOp.xor IntKind.u32 ↑(rotr r.e 6).toNat ↑(rotr r.e 11).toNat) ↑(rotr r.e 25).toNat + bits BinOp.xor IntKind.u32 (bits BinOp.and IntKind.u32 ↑r.e.toNat ↑r.f.toNat) (bits BinOp.and IntKind.u32 (bits BinOp.xor IntKind.u32 IntKind.u32.max ↑r.e.toNat) ↑r.g.toNat) + (k.toNat : Int) + (x.toNat : Int)) % 4294967296 = ((t1of k x r).toNat : Int) := by
                rw [hnot, w_xor, w_xor, w_and, w_and, w_xor]
                unfold t1of
                generalize rotr r.e 6 ^^^ rotr r.e 11 ^^^ rotr r.e 25 = A
                generalize (r.e &&& r.f ^^^ (~~~ r.e) &&& r.g) = B
                simp only [UInt32.toNat_add]
                omega
              rw [hT1]
              clear hT1 hnot
              obtain ⟨T, hT⟩ : ∃ T, T = t1of k x r := ⟨_, rfl⟩
              rw [← hT]
              have HT := Lib.hid hT
              have HK2 := HK.drewN nq
              clear hT HK e1 e2 T6 T11 T25
              generalize wr.drewN nq = wd at *
              refine (rturn_any r.a 2 _ (by omega) (by omega)).mono ?_
              rintro e w' ⟨rfl, rfl⟩
              go_wp2_with fail
              refine (rturn_any r.a 13 _ (by omega) (by omega)).mono ?_
              rintro e w' ⟨rfl, rfl⟩
              go_wp2_with fail
              refine (rturn_any r.a 22 _ (by omega) (by omega)).mono ?_
              rintro e w' ⟨rfl, rfl⟩
              go_wp2_with fail
              go_roundw
              case rel =>
                obtain ⟨h1, h2, h3⟩ := HR.out
                refine ⟨t + 1, r.step k x, by omega, ?_, by go_num, ?_, rfl, rfl, rfl, ?_, rfl, rfl, rfl, HK2⟩
                · rw [h1, h2, h3]; rfl
                · simp only [w_xor, w_and, S8.step, t2of, ← HT.out]
                  refine congrArg (Value.int .u32) ?_
                  simp only [UInt32.toNat_add]
                  omega
                · simp only [S8.step, ← HT.out]
                  refine congrArg (Value.int .u32) ?_
                  simp only [UInt32.toNat_add]
                  omega
              case measure => simp [intOf]; omega
            · have ht64 : t = 64 := by omega
              subst ht64
              have i3 : ¬ ((64 : Nat) : Int) < 64 := by omega
              have a0 := blk_cell HK.st 0
              have a1 := blk_cell HK.st 1
              have a2 := blk_cell HK.st 2
              have a3 := blk_cell HK.st 3
              have a4 := blk_cell HK.st 4
              have a5 := blk_cell HK.st 5
              have a6 := blk_cell HK.st 6
              have a7 := blk_cell HK.st 7
              simp at a0 a1 a2 a3 a4 a5 a6 a7
              have HR := Lib.hid hr
              clear hr hlt
              have q0 := w_sum s.a r.a
              have q1 := w_sum s.b r.b
              have q2 := w_sum s.c r.c
              have q3 := w_sum s.d r.d
              have q4 := w_sum s.e r.e
              have q5 := w_sum s.f r.f
              have q6 := w_sum s.g r.g
              have q7 := w_sum s.h r.h
              go_wp2_with (
                with_reducible refine at_build 153 ?_
                refine wpList_plain rfl fun K hK9 => wp_build_to 153 _ (s.add r).list.toArray rfl ?_ (hK9 _ _ ?_)
                · simp only [List.map_toArray, List.map_cons, List.map_nil]
                  exact rbuild8 _ _ _ _ _ _ _ _
                refine wpList_store_mid rfl 153 (.tmp 4) (.tmp 212) rfl (w.heap.size + 1) 0 (s.add r).list.toArray rfl rfl ?_ ?_ (all_oneCell_toArray (list_one _)) ?_
                · intro j hj
                  rw [show (0 + j) = j by omega, blk_cell HK.res j, blk_free HK.res j]
                  have hj8 : j < 8 := hj
                  simp [hj8]
                · rfl
                have hmid := World.rangeAt_setCells_same wr (w.heap.size + 1) 0 (s.add r).list (by
                  intro j hj
                  rw [show (0 + j) = j by omega, blk_cell HK.res j, blk_free HK.res j]
                  have hj8 : j < 8 := hj
                  simp [hj8])
                have hwf := Below.setCells (show w.heap.size ≤ w.heap.size + 1 by omega) (s.add r).list 0 HK.bel
                rw [show (s.add r).list.toArray.toList = (s.add r).list by simp]
                clear HK a0 a1 a2 a3 a4 a5 a6 a7 q0 q1 q2 q3 q4 q5 q6 q7
                generalize wr.setCells (w.heap.size + 1) 0 (s.add r).list = wf at *
                apply wpList_nil)
              go_wp2_with fail
              refine bodyPost_ret (results_cell_mid rfl _ wf (w.heap.size + 1) 0 (s.add r).list _ rfl hmid rfl rfl rfl) rfl ?_
              refine ⟨?_, hwf⟩
              have h1 := HT.out
              rw [← HR.out] at h1
              exact congrArg Ending.returned h1.symm
end Go.Proofs.YtlkkjnacolmmpaaDoor
namespace Go.Proofs.YtlkkjnacolmmpaaDoor
set_option maxRecDepth 100000
open Go.RowKit

/-! ### the whole message filled up is its whole blocks and the rest filled up -/
theorem pad_is (l : List UInt8) (size : Nat) : pad l size = l ++ (128 :: (List.replicate (fullOf l.length - 9 - l.length) 0 ++ be (8 * size % 18446744073709551616) 8)) := by
  have hf := fullOf_le l.length
  unfold pad
  generalize 8 * size % 18446744073709551616 = b
  generalize fullOf l.length = F at *
  have h1 : over (List.replicate F 0) 0 l = l ++ List.replicate (F - l.length) 0 := by
    unfold over
    rw [List.take_zero, List.nil_append, Nat.zero_add, List.drop_replicate]
  rw [h1]
  obtain ⟨k, hk⟩ : ∃ k, F - l.length = k + 1 + 8 := ⟨F - l.length - 9, by omega⟩
  rw [hk, List.set_append_right _ _ (Nat.le_refl _), Nat.sub_self, show k + 1 + 8 = (k + 8) + 1 by omega, List.replicate_succ, List.set_cons_zero]
  unfold over
  have h2 : (l ++ 128 :: List.replicate (k + 8) (0 : UInt8)) = (l ++ 128 :: List.replicate k 0) ++ List.replicate 8 0 := by
    rw [List.append_assoc, List.cons_append, List.replicate_append_replicate]
  have h3 : (l ++ 128 :: List.replicate k (0 : UInt8)).length = F - 8 := by simp; omega
  rw [h2, List.take_left' h3, be_length, List.drop_of_length_le (by rw [List.length_append, h3]; simp), List.append_nil, show F - 9 - l.length = k by omega]
  simp
theorem pad_parts (a b : List UInt8) (n size : Nat) (ha : a.length = 64 * n) : pad (a ++ b) size = a ++ pad b size := by
  rw [pad_is, pad_is, List.append_assoc]
  have : fullOf (a ++ b).length - 9 - (a ++ b).length = fullOf b.length - 9 - b.length := by
    unfold fullOf
    rw [List.length_append]
    omega
  rw [this]
theorem eat_cong {s : S8} {l m : List UInt8} {n : Nat} (h : ∀ i, i < n → (l.drop (64 * i)).take 64 = (m.drop (64 * i)).take 64) : eat s l n = eat s m n := by
  induction n with
  | zero => rfl
  | succ n ih => simp only [eat]; rw [ih fun i hi => h i (by omega), h n (by omega)]
theorem eat_more (s : S8) (a m : List UInt8) (n k : Nat) (ha : a.length = 64 * n) : eat s (a ++ m) (n + k) = eat (eat s (a ++ m) n) m k := by
  induction k with
  | zero => rfl
  | succ k ih =>
    rw [← Nat.add_assoc]
    simp only [eat]
    rw [ih, show 64 * (n + k) = a.length + 64 * k by omega, List.drop_append]
    rw [List.drop_of_length_le (by omega), List.nil_append, show a.length + 64 * k - a.length = 64 * k by omega]
theorem shaSum_pad (l : List UInt8) : shaSum l = (eat s0 (pad l l.length) ((pad l l.length).length / 64)).bytes := by
  unfold shaSum
  obtain ⟨n, hn⟩ : ∃ n, n = l.length / 64 := ⟨_, rfl⟩
  obtain ⟨a, ha⟩ : ∃ a, a = l.take (64 * n) := ⟨_, rfl⟩
  obtain ⟨b, hb⟩ : ∃ b, b = l.drop (64 * n) := ⟨_, rfl⟩
  have hal : a.length = 64 * n := by rw [ha, List.length_take]; omega
  have hl : l = a ++ b := by rw [ha, hb, List.take_append_drop]
  have hp : pad l l.length = a ++ shaEnd l := by
    unfold shaEnd
    rw [← hn, ← hb]
    conv => lhs; arg 1; rw [hl]
    exact pad_parts a b n _ hal
  rw [hp, ← hn]
  generalize shaEnd l = M
  rw [List.length_append, show (a.length + M.length) / 64 = n + M.length / 64 by omega, eat_more _ _ _ _ _ hal]
  congr 2
  refine eat_cong fun i hi => ?_
  rw [hl]
  have h1 : 64 * i + 64 ≤ a.length := by omega
  rw [List.drop_append_of_le_length (by omega), List.drop_append_of_le_length (by omega), List.take_append_of_le_length (by rw [List.length_drop]; omega), List.take_append_of_le_length (by rw [List.length_drop]; omega)]

/-- block g holds the state s -/
def RBlk (w : World) (g : Nat) (s : S8) : Prop := w.heap[g]? = some (.cells s.list.toArray 153 (0, 0))

theorem wpList_store_r8 {w : World} {ops : Array Oper} {rest : List Oper} {o : Oper} {a : Act} {Q : Exit → Act → World → Prop} (hgd : o.guard = none) (x y : Operand) (ho : o.op = .store 153 x y)
    (g : Nat) (s : S8) (hx : a.eval x = .pointer (some ⟨g, 0, none⟩)) (hy : a.eval y = .agg s.list.toArray) (C : Array Value) (hg : w.heap[g]? = some (.cells C 153 (0, 0))) (hC : C.size = 8)
    (h : ∀ w', RBlk w' g s → (∀ B, B ≤ g → Below B w w') → w'.heap.size = w.heap.size → (∀ k, k ≠ g → w'.heap[k]? = w.heap[k]?) → wpList Tryd.prog ops Q rest (a.put o.dst undef) w') : wpList Tryd.prog ops Q (o :: rest) a w := by
  refine wpList_store_row hgd 153 x y ho g _ hx hy 153 C hg (by kernel_rfl) (by rw [hC]; rfl) (all_oneCell_toArray (list_one _)) ?_
  exact h _ (setRow_heap w g C _ 153 (0, 0) hg) (fun B hB => below_setRow (Below.refl _ _) hB _) (by simp [World.setRow]) (fun k hk => setRow_other w g k _ hk)

theorem RBlk.cells {w : World} {g : Nat} {s : S8} (h : RBlk w g s) : w.rangeAt g 0 s.list := by
  have := World.rangeAt_of_block h 0 8
  rwa [show (s.list.toArray.extract 0 (0 + 8)).toList = s.list by simp [S8.list]] at this
theorem RBlk.below {w w' : World} {g : Nat} {s : S8} (h : RBlk w g s) (hb : Below w.heap.size w w') : RBlk w' g s := (hb.block g (blk_lt h)).trans h

theorem RBlk.at8 {w : World} {g : Nat} {s : S8} (h : RBlk w g s) : w.cell? ⟨g, 0, none⟩ = some (.int .u32 (s.a.toNat : Int)) ∧ w.cell? ⟨g, 1, none⟩ = some (.int .u32 (s.b.toNat : Int)) ∧ w.cell? ⟨g, 2, none⟩ = some (.int .u32 (s.c.toNat : Int)) ∧ w.cell? ⟨g, 3, none⟩ = some (.int .u32 (s.d.toNat : Int)) ∧
    w.cell? ⟨g, 4, none⟩ = some (.int .u32 (s.e.toNat : Int)) ∧ w.cell? ⟨g, 5, none⟩ = some (.int .u32 (s.f.toNat : Int)) ∧ w.cell? ⟨g, 6, none⟩ = some (.int .u32 (s.g.toNat : Int)) ∧ w.cell? ⟨g, 7, none⟩ = some (.int .u32 (s.h.toNat : Int)) :=
  ⟨blk_cell h 0, blk_cell h 1, blk_cell h 2, blk_cell h 3, blk_cell h 4, blk_cell h 5, blk_cell h 6, blk_cell h 7⟩


theorem RBlk.word {w : World} {g : Nat} {s : S8} (h : RBlk w g s) (t : Nat) (ht : t < 8) : w.cell? ⟨g, t, none⟩ = some (.int .u32 ((s.word t).toNat : Int)) := by
  rw [blk_cell h t]
  have : t = 0 ∨ t = 1 ∨ t = 2 ∨ t = 3 ∨ t = 4 ∨ t = 5 ∨ t = 6 ∨ t = 7 := by omega
  rcases this with rfl | rfl | rfl | rfl | rfl | rfl | rfl | rfl <;> rfl

set_option maxRecDepth 100000 in
set_option maxHeartbeats 4000000 in
theorem rsum_any (v : Value) (l : List UInt8) (w : World) (hr : Rd w w.heap.size v l) (hl : l.length ≤ 140737488355000) (fr : TypeId × Nat × Nat) (hk : w.heap[1]? = some (.cells kVals fr.1 fr.2)) :
    Calls Tryd.prog 114 #[v] w fun e w' => ∃ v', e = .returned v' ∧ Own w' w.heap.size v' (shaSum l) ∧ Below w.heap.size w w' := by
  have hn0 := blk_lt hk
  obtain ⟨i0, hi, hz, hsz, hby⟩ := info_parts Tryd.infoByte
  obtain ⟨A, c, rfl⟩ := hr.form
  have HQ0 := Lib.hid (shaSum_pad l)
  go_enter Tryd.func114, Tryd.ntmps114
  go_wp2_with (first
    | (
      with_reducible refine at_build 153 ?_
      refine wpList_plain rfl fun K hK => wp_build_to 153 _ s0.list.toArray rfl ?_ (hK _ _ ?_)
      · simp only [List.map_toArray, List.map_cons, List.map_nil]
        exact rbuild8 _ _ _ _ _ _ _ _)
    | (
      with_reducible refine at_store 153 ?_
      generalize hwa : World.alloc w _ = wa
      obtain ⟨Z, hZs, hG⟩ : ∃ Z : Array Value, Z.size = 8 ∧ wa.heap[w.heap.size]? = some (.cells Z 153 (0, 0)) := ⟨_, rfl, by rw [← hwa]; exact heap_alloc_new w _⟩
      have hba : Below w.heap.size w wa := by rw [← hwa]; exact (Below.refl _ _).alloc (Nat.le_refl _) _
      have hsza : wa.heap.size = w.heap.size + 1 := by rw [← hwa]; simp
      refine wpList_store_r8 rfl (.tmp 3) (.tmp 9) rfl w.heap.size s0 rfl rfl Z hG hZs ?_
      intro w2 hs2 hbx hsz2 _
      have hb2 : Below w.heap.size w w2 := hba.trans (hbx _ (Nat.le_refl _))
      clear hwa hG hba hbx hZs
      obtain ⟨g, hg⟩ : ∃ g, g = w.heap.size := ⟨_, rfl⟩
      rw [← hg] at hs2
      simp only [← hg]
      have hsz3 : w2.heap.size = g + 1 := by rw [hsz2, hsza, hg]
      clear hsz2 hsza
      have HG := Lib.hid hg
      clear hg
      apply wpList_nil))
  have hr2 := (hr.more (Nat.le_refl _)).below hb2 |>.more hb2.size
  refine (rpadded_any _ l w2 hr2 hl).mono ?_
  rintro e w3 ⟨v3, rfl, ho3, hb3⟩
  have hbw3 := below_chain hb2 hb2.size hb3
  have hs3 : RBlk w3 g s0 := hs2.below hb3
  have ho4 : Own w3 (g + 1) v3 (pad l l.length) := ho3.more (by omega)
  have hpl := pad_length l l.length
  have hfl := fullOf_le l.length
  have h64 : (pad l l.length).length % 64 = 0 := by rw [hpl]; unfold fullOf; omega
  have hML : (pad l l.length).length ≤ l.length + 72 := by omega
  have hgw : w.heap.size ≤ g := Nat.le_of_eq HG.out.symm
  obtain ⟨b3, c3, hv3, hc3, hcm3, -⟩ := id ho4.rd
  subst hv3
  generalize hM : pad l l.length = M at *
  have HM := Lib.hid hM
  obtain ⟨m, hm⟩ : ∃ m, M.length = 64 * m := ⟨M.length / 64, by omega⟩
  have HMM := Lib.hid hm
  clear hM hb3 hb2 hs2 ho3 hpl hfl h64 hm hr2 hr
  go_wp2
  go_loopw [5] (fun i wr => ∃ (p k : Nat), p = 64 * k ∧ p ≤ M.length ∧ i = .int .i64 (p : Int) ∧ RBlk wr g (eat s0 M k) ∧ Below w.heap.size w wr ∧ Own wr (g + 1) (.slice b3 M.length c3) M)
    (fun i _ => M.length - (intOf i).toNat)
  case atStart => exact ⟨0, 0, rfl, Nat.zero_le _, rfl, hs3, hbw3, ho4⟩
  case round =>
    clear hs3 hbw3 ho4
    obtain ⟨p, k, hpk, hpq, rfl, hs, hb, ho⟩ := hrel
    have hm := HMM.out
    by_cases hlt : p < M.length
    · have hp64 : p + 64 ≤ M.length := by omega
      have hrM := ho.rd
      obtain ⟨b, o, rfl⟩ : ∃ b o, b3 = some ⟨b, o, none⟩ := by
        obtain ⟨_, _, e, _, _, hq⟩ := id hrM
        obtain ⟨b, o, e2, _⟩ := hq (by omega)
        injection e with e
        exact ⟨b, o, e.trans e2⟩
      obtain ⟨a0, a1, a2, a3, a4, a5, a6, a7⟩ := hs.at8
      have hsub := Rd.sub hrM p 64 (c3 - p) (by omega) (by omega) (by omega)
      have hpl : ((M.drop p).take 64).length = 64 := by simp; omega
      have HK := Lib.hid hpk
      clear hpk hm hrM
      obtain ⟨s, hse⟩ : ∃ s, s = eat s0 M k := ⟨_, rfl⟩
      rw [← hse] at hs a0 a1 a2 a3 a4 a5 a6 a7
      have HS := Lib.hid hse
      clear hse
      have c2 : (0 : Int) ≤ (p : Int) := by omega
      have c3' : (p : Int) ≤ (p : Int) + 64 := by omega
      have c4 : (p : Int) + 64 ≤ (c3 : Int) := by omega
      have c1 : (0 : Int) ≤ (p : Int) + 64 := by omega
      have c0 : IntKind.i64.wrap ((p : Int) + 64) = (p : Int) + 64 := by rw [IntKind.wrap_i64]; omega
      have c8 : ((p : Int) + 64).toNat = p + 64 := by omega
      have c5 : (p : Int) < (M.length : Int) := by omega
      have c6 : ¬ c3 = p := by omega
      have c7 : p + 64 - p = 64 := by omega
      go_wp2
      refine wp_region_still_tail 6 (by kernel_rfl) (by kernel_rfl) ?_
      simp only [List.take_succ_cons, List.take_zero, List.drop_succ_cons, List.drop_zero]
      repeat still_step
      try refine wpStill_nil ?_
      change wpList _ _ _ _ _ wr.drew
      have hsd : RBlk wr.drew g s := hs
      have hbd : Below w.heap.size w wr.drew := hb.drew
      have hod : Own wr.drew (g + 1) _ M := ho
      have hsubd : Rd wr.drew wr.drew.heap.size _ _ := hsub
      clear a0 a1 a2 a3 a4 a5 a6 a7 hs hb ho hsub
      generalize wr.drew = wd at *
      go_wp2_with fail
      refine (rblock_any s _ _ wd hsubd hpl fr ((hbd.block _ hn0).trans hk)).mono ?_
      rintro e w4 ⟨rfl, hb4⟩
      have hb5 : Below w.heap.size w w4 := below_chain hbd hbd.size hb4
      have hs4 : RBlk w4 g s := hsd.below hb4
      have ho5 := hod.below hb4
      clear hb4 hsubd hod hsd hbd
      go_wp2_with (
        with_reducible refine at_store 153 ?_
        refine wpList_store_r8 rfl (.tmp 3) (.tmp 24) rfl g (taken8 s ((M.drop p).take 64)) rfl rfl _ hs4 rfl ?_
        intro w6 hs6 hb6 _ ho6
        have hb7 : Below w.heap.size w w6 := hb5.trans (hb6 _ hgw)
        have hb0 := hb6 0 (Nat.zero_le _)
        have ho7 : Own w6 (g + 1) _ M := ho5.grown (row := some g) ⟨hb0.os, hb0.tape, hb0.output, hb0.size, fun k _ hne => ho6 k (by rintro rfl; exact hne rfl)⟩ (.inr (by intro e; have := ho5.lt g e; omega))
        clear hs4 hb6 ho6 hb0 ho5)
      go_roundw
      case rel =>
        refine ⟨p + 64, k + 1, by have := HK.out; omega, by omega, by go_num, ?_, hb7, ho7⟩
        rw [HS.out, HK.out] at hs6
        exact hs6
      case measure => simp [intOf]; omega
    · have hpe : k = M.length / 64 := by omega
      have c5 : ¬ (p : Int) < (M.length : Int) := by omega
      have hs2 : RBlk wr g (eat s0 M (M.length / 64)) := by rw [← hpe]; exact hs
      have HQ := Lib.hid (show shaSum l = (eat s0 M (M.length / 64)).bytes from HQ0.out)
      clear hpe hpk hm hs HM ho HQ0
      obtain ⟨s2, hs9⟩ : ∃ s, s = eat s0 M (M.length / 64) := ⟨_, rfl⟩
      rw [← hs9] at hs2 HQ
      clear hs9
      go_wp2
      obtain ⟨wr', rfl⟩ : ∃ wq : World, wq = wr := ⟨_, rfl⟩
      go_loopw [6, 7] (fun v6 i wr => ∃ t : Nat, t ≤ 8 ∧ i = .int .i64 (t : Int) ∧ Own wr (g + 1) v6 (s2.out t) ∧ RBlk wr g s2 ∧ Below w.heap.size w wr)
        (fun _ i _ => 8 - (intOf i).toNat)
      case atStart => exact ⟨0, Nat.zero_le _, rfl, Own.nil _ _, hs2, hb⟩
      case round =>
        clear hb hs2
        obtain ⟨t, ht, rfl, ho, hs2, hb⟩ := hrel
        by_cases hlt8 : t < 8
        · have HX := Lib.hid (s2.out_succ t hlt8)
          have hol : (s2.out t).length = 4 * t := s2.out_length t ht
          have HC := Lib.hid (fun W (h : RBlk W g s2) => h.word t hlt8)
          obtain ⟨x, hxx⟩ : ∃ x, x = s2.word t := ⟨_, rfl⟩
          rw [← hxx] at HX HC
          clear hxx
          have i1 : (0 : Int) ≤ (t : Int) := by omega
          have i2 : (t : Int) < 8 := by omega
          go_wp2
          obtain ⟨wr'', rfl⟩ : ∃ wq : World, wq = wr := ⟨_, rfl⟩
          go_loopw [6, 8] (fun v6 i wr => ∃ (r : Nat) (dn : List UInt8), dn.length + r = 4 ∧ i = .int .i64 ((r : Int) - 1) ∧ dn ++ be x.toNat r = be x.toNat 4 ∧ Own wr (g + 1) v6 (s2.out t ++ dn) ∧ RBlk wr g s2 ∧ Below w.heap.size w wr)
            (fun _ i _ => (intOf i + 1).toNat)
          case atStart => exact ⟨4, [], rfl, rfl, rfl, by simpa using ho, hs2, hb⟩
          case round =>
            clear ho hs2 hb
            obtain ⟨r, dn, hdn, rfl, hbe, ho, hs2, hb⟩ := hrel
            have HD := Lib.hid hdn
            have HB := Lib.hid hbe
            have hr4 : r ≤ 4 := by omega
            clear hdn hbe
            by_cases h0 : r = 0
            · subst h0
              have HE := Lib.hid (show s2.out t ++ dn = s2.out (t + 1) from by have h1 := HB.out; rw [show be x.toNat 0 = [] from rfl, List.append_nil] at h1; rw [h1, HX.out])
              go_wp2
              go_roundw
              case rel => exact ⟨t + 1, by omega, by go_num, by rw [← HE.out]; exact ho, hs2, hb⟩
              case measure => simp [intOf]; omega
            · obtain ⟨q, rfl⟩ : ∃ q, r = q + 1 := ⟨r - 1, by omega⟩
              have hdl : dn.length ≤ 4 := by have := HD.out; omega
              have e1 := HC.out wr hs2
              have hgl := blk_lt hs2
              go_wp2_with (at_builtin; refine wpList_append_rd rfl (.tmp 33) (.tmp 42) _ rfl i0 Tryd.underlying41 hi hz hsz hby rfl (ho.alloc _) rfl (rd_lit wr _ [UInt8.ofNat (x.toNat / 2 ^ (8 * q))] 1 rfl (by simp [bcells, bval]) (by simp [maxLen])) (by rw [List.length_append, hol]; simp; omega) (by simp; omega) ?_; intro v1 w1 ho1 hg1 _)
              have hb1 : Below w.heap.size w w1 := Own.below_grown (hb.alloc hb.size _) (ho.alloc _) (by omega) (by have := hb.size; simp; omega) hg1
              have hs3 : RBlk w1 g s2 := (hg1.block g (by simp; omega) (by intro e; have := (ho.alloc (.cells #[.int .u8 ((x.toNat : Int) / 2 ^ (8 * q) % 256)] 5)).lt g e.symm; omega)).trans ((Below.heap_alloc wr _ g hgl).trans hs2)
              clear hg1 ho hb hs2 e1
              go_roundw
              case rel => exact ⟨q, dn ++ [UInt8.ofNat (x.toNat / 2 ^ (8 * q))], by have := HD.out; simp; omega, by go_num, by have := HB.out; rw [← this, List.append_assoc]; rfl, by rw [← List.append_assoc]; exact ho1, hs3, hb1⟩
              case measure => first | (simp [intOf]; done) | (simp [intOf]; omega)
        · have ht8 : t = 8 := by omega
          have i2 : ¬ (t : Int) < 8 := by omega
          subst ht8
          go_wp2
          go_ret
          refine ⟨_, rfl, ?_, hb⟩
          rw [HQ.out]
          exact ho.more (by omega)
end Go.Proofs.YtlkkjnacolmmpaaDoor
namespace Go.Proofs.YtlkkjnacolmmpaaDoor
set_option maxRecDepth 100000
open Go.RowKit

set_option maxHeartbeats 1000000 in
theorem rtagged_any (word : ByteArray) (v : Value) (ps : List (List UInt8)) (w : World) (hv : Parts w w.heap.size v ps) (hsm : word.size ≤ maxLen) (hn : ps.length ≤ 1000) (fr : TypeId × Nat × Nat) (hk : w.heap[1]? = some (.cells kVals fr.1 fr.2)) :
    Calls Tryd.prog 75 #[.string word, v] w fun e w' => ∃ v', e = .returned v' ∧ Own w' w.heap.size v' (shaSum (formB (strBytes word) ++ formBs ps)) ∧ Below w.heap.size w w' := by
  have hn0 := blk_lt hk
  obtain ⟨A, c, rfl, hp⟩ := hv
  go_enter Tryd.func75, Tryd.ntmps75
  go_wp2_with fail
  refine (refT_any (.slice none 0 0) word [] w (Rd.nil _ _) hsm (by simp)).mono ?_
  rintro e w1 ⟨v1, rfl, ho1, hb1⟩
  replace ho1 : Own w1 w.heap.size v1 (formB (strBytes word)) := ho1
  have HP := Lib.hid hp
  clear hp
  generalize hW : formB (strBytes word) = W at *
  have hWl : W.length ≤ 65539 := by rw [← hW]; exact formB_length _
  have HW := Lib.hid hW
  clear hW
  go_wp2
  go_loopw [5, 12] (fun v5 i wr => ∃ t : Nat, t ≤ ps.length ∧ i = .int .i64 (t : Int) ∧ Own wr w.heap.size v5 (W ++ formBs (ps.take t)) ∧ Below w.heap.size w wr)
    (fun _ i _ => ps.length - (intOf i).toNat)
  case atStart => exact ⟨0, Nat.zero_le _, rfl, by simpa [formBs] using ho1, hb1⟩
  case round =>
    clear ho1 hb1
    obtain ⟨t, ht, rfl, ho, hb⟩ := hrel
    have hfl := formBs_length (ps.take t)
    rw [List.length_take] at hfl
    by_cases hlt : t < ps.length
    · obtain ⟨b, o, rfl, hbl, hcell⟩ := HP.out (by omega)
      obtain ⟨x, e, hx⟩ := hcell t hlt
      have e2 := (hb.cell (p := ⟨b, o + t, none⟩) hbl).trans e
      have hx2 : Rd wr wr.heap.size x ps[t] := (hx.below hb).more hb.size
      have HN := Lib.hid (formBs_succ ps t hlt)
      clear hcell HP e hx
      generalize ps[t] = p at *
      have hrd := ho.rd
      have i1 : (0 : Int) ≤ (t : Int) := by omega
      have i2 : (t : Int) < (ps.length : Int) := by omega
      go_wp2_with fail
      refine (refB_any u5 x _ p wr hrd hx2 (by rw [List.length_append]; omega)).mono ?_
      rintro e w3 ⟨v3, rfl, ho3, hb3⟩
      have ho4 : Own w3 wr.heap.size v3 (W ++ formBs (ps.take (t + 1))) := by
        rw [HN.out, ← List.append_assoc]
        rw [List.append_assoc] at ho3
        exact ho3
      have ho5 := ho4.more hb.size
      have hb5 := below_chain hb hb.size hb3
      clear ho ho3 ho4 hb hb3 hrd
      go_wp2
      go_roundw
      case rel => exact ⟨t + 1, by omega, by go_num, ho5, hb5⟩
      case measure => simp [intOf]; omega
    · have hte : t = ps.length := by omega
      have i2 : ¬ (t : Int) < (ps.length : Int) := by omega
      rw [hte, List.take_of_length_le (Nat.le_refl _)] at ho
      have hrd := ho.rd
      clear hte HP
      go_wp2_with fail
      refine (rsum_any u5 _ wr hrd (by rw [List.length_append]; have := formBs_length ps; omega) fr ((hb.block _ hn0).trans hk)).mono ?_
      rintro e w3 ⟨v3, rfl, ho3, hb3⟩
      go_wp2_with fail
      go_ret
      rw [HW.out]
      exact ⟨v3, rfl, ho3.more hb.size, below_chain hb hb.size hb3⟩
end Go.Proofs.YtlkkjnacolmmpaaDoor
