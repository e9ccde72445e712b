
/- The walk of the document's From. The walk of package limb's From. -/
import Derived.Test.YtaafaaoioleokaaGreatDoorLimbX0
import Derived.Test.YtaafaaoioleokaaGreatDoorLimbS0
namespace Go.Proofs.YtaafaaoioleokaaGreatDoor
set_option maxRecDepth 100000
open Go Go.RowKit

/-- the first k numbers are there, the others are 0 -/
def partI (L : List Nat) (k : Nat) : List Nat := L.take k ++ List.replicate (32 - k) 0
theorem partI_set (L : List Nat) (hl : L.length = 32) (k : Nat) (hk : k < 32) : (partI L k).set k (L.getD k 0) = partI L (k + 1) := by
  unfold partI
  obtain ⟨m, hm⟩ : ∃ m, 32 - k = m + 1 := ⟨31 - k, by omega⟩
  have h0 : k - (L.take k).length = 0 := by rw [List.length_take]; omega
  rw [hm, show 32 - (k + 1) = m by omega, List.set_append_right _ _ (by rw [List.length_take]; omega), h0, List.replicate_succ, List.set_cons_zero, List.take_succ_eq_append_getElem (by omega), List.append_assoc, List.getD_eq_getElem?_getD, List.getElem?_eq_getElem (by omega)]
  rfl
theorem partI_length (L : List Nat) (hl : L.length = 32) (k : Nat) (hk : k ≤ 32) : (partI L k).length = 32 := by
  unfold partI
  rw [List.length_append, List.length_take, List.length_replicate]; omega
theorem OwnI.made (w : World) {B : Nat} (D : List Nat) (hb : B ≤ w.heap.size) (hm : D.length ≤ maxLen) : OwnI (w.alloc (.cells (dcells D).toArray 3)) B (.slice (some ⟨w.heap.size, 0, none⟩) D.length D.length) D :=
  ⟨by simp [dcells], .inr ⟨w.heap.size, D.length, _, rfl, hb, heap_alloc_new w _, Nat.le_refl _, hm, by simp [dcells], by simp [dcells, List.take_of_length_le]⟩⟩
theorem rev_getD (l : List UInt8) (hl : l.length = 32) (k : Nat) (hk : k < 32) : (l.reverse.map UInt8.toNat).getD k 0 = (l.getD (31 - k) 0).toNat := by
  rw [List.getD_eq_getElem?_getD, List.getElem?_map, List.getElem?_reverse (by omega), show l.length - 1 - k = 31 - k by omega, List.getD_eq_getElem?_getD, List.getElem?_eq_getElem (by omega)]
  rfl

set_option maxHeartbeats 2000000 in
theorem rfrom_any (v : Value) (l : List UInt8) (w : World) (hr : Rd w w.heap.size v l) :
    Calls Tryz.prog 210 #[v] w fun e w' => e = .returned (.tuple #[(fromU l).1.val, .int .i64 (fromU l).2]) ∧ Below w.heap.size w w' := by
  have hlm := hr.len
  unfold maxLen at hlm
  obtain ⟨A, c, rfl⟩ := hr.form
  have hbx := LBlk.new w U4.zero.cells
  have hbw : Below w.heap.size w (w.alloc (.cells U4.zero.cells 32)) := (Below.refl _ _).alloc (Nat.le_refl _) _
  by_cases hl : l.length = 32
  · have hU : fromU l = (ofN (valB l), 0) := if_pos hl
    obtain ⟨hn, b, o, rfl, hbB, hcell⟩ := hr.cell (by omega)
    rw [hU]
    have hmk : ∀ W : World, (Instr.makeSlice 223 (.int .i64 32) (.int .i64 32)).run Tryz.prog W = .ok (.slice (some ⟨W.heap.size, 0, none⟩) 32 32) (W.alloc (.cells (dcells (List.replicate 32 0)).toArray 3)) := by
      obtain ⟨i0, hi, hz, hsz, hby⟩ := info_parts Tryz.infoInt
      intro W
      have h := run_make W 223 3 i0 (.int .i64 0) Tryz.underlying223 hi hz .i64 .i64 32 32 (by omega) (by omega) (by rw [hby]; omega) (by omega)
      rw [hsz] at h
      have e : madeCells (Value.int .i64 0).cells (Int.toNat 32 * 1) = (dcells (List.replicate 32 0)).toArray := by
        rw [show Int.toNat 32 * 1 = 32 from rfl]
        apply Array.ext'
        rw [show (Value.int IntKind.i64 0).cells = #[Value.int .i64 0] from rfl, toList_madeCells_one]
        rfl
      rw [e] at h
      exact h
    obtain ⟨L, hL⟩ : ∃ L, L = l.reverse.map UInt8.toNat := ⟨_, rfl⟩
    have HG := Lib.hid (fun k hk => rev_getD l hl k hk)
    have HLV : Hid (valL L = valB l) := Lib.hid (by rw [hL]; rfl)
    have HLL : Hid (L.length = 32) := Lib.hid (by rw [hL]; simp [hl])
    have HLT : Hid (∀ d ∈ L, d < 256) := Lib.hid (fun d hd => by
      rw [hL, List.mem_map] at hd
      obtain ⟨x, -, rfl⟩ := hd
      exact x.toNat_lt)
    rw [← hL] at HG
    have HC : Hid (∀ k, k < 32 → w.cell? ⟨b, o + (31 - k), none⟩ = some (.int .u8 ((l.getD (31 - k) 0).toNat : Int))) := Lib.hid (fun k hk => by
      rw [hcell (31 - k) (by omega), List.getD_eq_getElem?_getD, List.getElem?_eq_getElem (by omega)]
      rfl)
    have hl32 : (l.length : Int) = 32 := by omega
    have HPL := Lib.hid (partI_length L HLL.out)
    have HPS := Lib.hid (partI_set L HLL.out)
    have hp0 : Hid (List.replicate 32 0 = partI L 0) := Lib.hid rfl
    have HPF : Hid (partI L 32 = L) := Lib.hid (by unfold partI; rw [List.take_of_length_le (by rw [HLL.out]; omega)]; simp)
    clear hL hcell hU hr
    rw [hl]
    clear hl32
    have HL := Lib.hid hl
    clear hl hn hlm
    have hO := OwnI.made (B := w.heap.size + 1) (w.alloc (.cells U4.zero.cells 32)) (List.replicate 32 0) (by simp) (by simp [maxLen])
    have hze : (w.alloc (.cells U4.zero.cells 32)).heap.size = w.heap.size + 1 := by simp
    rw [hze] at hO
    have hbw2 : Below (w.heap.size + 1) (w.alloc (.cells U4.zero.cells 32)) ((w.alloc (.cells U4.zero.cells 32)).alloc (.cells (dcells (List.replicate 32 0)).toArray 3)) := (Below.refl _ _).alloc (by simp) _
    rw [hp0.out] at hO hbw2
    have hfo : OwnI ((w.alloc (.cells U4.zero.cells 32)).alloc (.cells (dcells (partI L 0)).toArray 3)) (w.heap.size + 1) (.slice (some ⟨w.heap.size + 1, 0, none⟩) 32 32) (partI L 0) := by
      have := HPL.out 0 (by omega)
      rw [this] at hO
      exact hO
    clear hO
    go_enter Tryz.func210, Tryz.ntmps210
    go_wp2_with fail
    clear hmk
    generalize hw0 : w.alloc (.cells #[.int .u64 0, .int .u64 0, .int .u64 0, .int .u64 0] 32) = w0
    replace hbx : LBlk w0 w.heap.size U4.zero.cells := by rw [← hw0]; exact hbx
    replace hbw : Below w.heap.size w w0 := by rw [← hw0]; exact hbw
    replace hfo : OwnI (w0.alloc (.cells (dcells [0, 0, 0, 0, 0, 0, 0, 0, 0, 0, 0, 0, 0, 0, 0, 0, 0, 0, 0, 0, 0, 0, 0, 0, 0, 0, 0, 0, 0, 0, 0, 0]).toArray 3)) (w.heap.size + 1) (.slice (some ⟨w.heap.size + 1, 0, none⟩) 32 32) (partI L 0) := by rw [← hw0]; exact hfo
    replace hbw2 : Below (w.heap.size + 1) w0 (w0.alloc (.cells (dcells [0, 0, 0, 0, 0, 0, 0, 0, 0, 0, 0, 0, 0, 0, 0, 0, 0, 0, 0, 0, 0, 0, 0, 0, 0, 0, 0, 0, 0, 0, 0, 0]).toArray 3)) := by rw [← hw0]; exact hbw2
    have HZ : Hid (w0.heap.size = w.heap.size + 1) := Lib.hid (by rw [← hw0]; simp)
    clear hw0 hze
    go_loopw [5] (fun i wr => ∃ k : Nat, k ≤ 32 ∧ i = .int .i64 (k : Int) ∧ OwnI wr (w.heap.size + 1) (.slice (some ⟨w.heap.size + 1, 0, none⟩) 32 32) (partI L k) ∧ Below (w.heap.size + 1) w0 wr)
      (fun i _ => 32 - (intOf i).toNat)
    case atStart => exact ⟨0, Nat.zero_le _, rfl, hfo, hbw2⟩
    case round =>
      clear hfo hbw2
      obtain ⟨k, hk, rfl, ho, hb⟩ := hrel
      by_cases hlt : k < 32
      · have i1 : (k : Int) < 32 := by omega
        have j0 : (0 : Int) ≤ (k : Int) := by omega
        obtain ⟨gA, hgA, _, hgs, hcell, hfz, hput⟩ := ho.put (k := k) (by rw [HPL.out k hk]; exact hlt)
        injection hgA with hgA
        injection hgA with hgA _ _
        subst hgA
        have hps := HPS.out k hlt
        have hg := HG.out k hlt
        obtain ⟨low, hlow⟩ : ∃ low, low = 31 - k := ⟨_, rfl⟩
        have hc := ((hbw.cell (p := ⟨b, o + (31 - k), none⟩) hbB).trans (HC.out k hlt))
        replace hc := (hb.cell (p := ⟨b, o + (31 - k), none⟩) (Nat.lt_succ_of_lt hbB)).trans hc
        rw [← hlow] at hc hg
        have hx256 := (l.getD low 0).toNat_lt
        rw [← hg] at hc hx256
        generalize L.getD k 0 = x at *
        have HS := Lib.hid (by have h := hput x; rw [hps] at h; exact h)
        generalize (partI L k).getD k 0 = old at hcell
        have e31 : (31 : Int) - (k : Int) = (low : Int) := by omega
        have l0 : (0 : Int) ≤ (low : Int) := by omega
        have l32 : (low : Int) < 32 := by omega
        clear hput hps hlow ho hg
        go_wp2_with fail
        refine ⟨⟨k + 1, by omega, rfl, HS.out, hb.setCell (Nat.le_refl _) _⟩, ?_⟩
        simp only [intOf]
        omega
      · have hk32 : k = 32 := by omega
        subst hk32
        rw [HPF.out] at ho
        have hbo := hbw.trans (hb.mono (by omega))
        replace hbx := hbx.below hb (by omega)
        have KS := Lib.hid (rshort_any (some ⟨w.heap.size + 1, 0, none⟩) 32 32 (w.heap.size + 1) L wr ho HLL.out HLT.out)
        clear ho
        go_wp2_with fail
        refine KS.out.mono ?_
        rintro e w2 ⟨rfl, hb2⟩
        replace hbx := hbx.below hb2 hbx.lt
        have hbo2 := below_chain hbo hbo.size hb2
        obtain ⟨d0, d1, d2, d3⟩ := hbx.all
        have f0 := hbx.free 0
        have f1 := hbx.free 1
        have f2 := hbx.free 2
        have f3 := hbx.free 3
        rw [HLV.out]
        obtain ⟨s, hs⟩ : ∃ s, s = ofN (valB l) := ⟨_, rfl⟩
        rw [← hs]
        have BB := Lib.hid hbo2
        have HS := Lib.hid hs
        clear hb hbo hbo2 hs hbx hbw hb2
        unfold U4.val U4.cells
        go_wp2
        refine bodyPost_ret (v := .tuple #[.agg s.cells, .int .i64 0]) ?_ rfl ⟨by rw [← HS.out]; rfl, ?_⟩
        · simp [results, Tryz.results210, go_sem, U4.cells, d0, d1, d2, d3]
        · have hg : w.heap.size ≤ w.heap.size := by omega
          exact (((BB.out.setCell hg _).setCell hg _).setCell hg _).setCell hg _
  · have hU : fromU l = (U4.zero, 21) := if_neg hl
    rw [hU]
    have hl32 : ¬ (l.length : Int) = 32 := by omega
    obtain ⟨d0, d1, d2, d3⟩ := hbx.all
    have f0 := hbx.free 0
    have f1 := hbx.free 1
    have f2 := hbx.free 2
    have f3 := hbx.free 3
    clear hU hr hl
    replace hbw : Below w.heap.size w (w.alloc (.cells #[.int .u64 0, .int .u64 0, .int .u64 0, .int .u64 0] 32)) := hbw
    replace d0 : (w.alloc (.cells #[.int .u64 0, .int .u64 0, .int .u64 0, .int .u64 0] 32)).cell? ⟨w.heap.size, 0, none⟩ = some (.int .u64 0) := d0
    replace d1 : (w.alloc (.cells #[.int .u64 0, .int .u64 0, .int .u64 0, .int .u64 0] 32)).cell? ⟨w.heap.size, 1, none⟩ = some (.int .u64 0) := d1
    replace d2 : (w.alloc (.cells #[.int .u64 0, .int .u64 0, .int .u64 0, .int .u64 0] 32)).cell? ⟨w.heap.size, 2, none⟩ = some (.int .u64 0) := d2
    replace d3 : (w.alloc (.cells #[.int .u64 0, .int .u64 0, .int .u64 0, .int .u64 0] 32)).cell? ⟨w.heap.size, 3, none⟩ = some (.int .u64 0) := d3
    clear hbx f0 f1 f2 f3
    go_enter Tryz.func210, Tryz.ntmps210
    go_wp2
    refine bodyPost_ret (v := .tuple #[U4.zero.val, .int .i64 21]) ?_ rfl ⟨rfl, hbw⟩
    simp [results, Tryz.results210, go_sem, U4.val, U4.cells, U4.zero, d0, d1, d2, d3]
end Go.Proofs.YtaafaaoioleokaaGreatDoor
namespace Go.Proofs.YtaafaaoioleokaaGreatDoor
set_option maxRecDepth 100000
open Go Go.RowKit

theorem pow_v (r : Nat) (h : r < 8) : ∃ v, 1 ≤ v ∧ 18446744073709551616 = 256 ^ r * 256 * v := by
  have : r = 0 ∨ r = 1 ∨ r = 2 ∨ r = 3 ∨ r = 4 ∨ r = 5 ∨ r = 6 ∨ r = 7 := by omega
  rcases this with rfl | rfl | rfl | rfl | rfl | rfl | rfl | rfl
  · exact ⟨2 ^ 56, by decide, by decide⟩
  · exact ⟨2 ^ 48, by decide, by decide⟩
  · exact ⟨2 ^ 40, by decide, by decide⟩
  · exact ⟨2 ^ 32, by decide, by decide⟩
  · exact ⟨2 ^ 24, by decide, by decide⟩
  · exact ⟨2 ^ 16, by decide, by decide⟩
  · exact ⟨2 ^ 8, by decide, by decide⟩
  · exact ⟨1, by decide, by decide⟩
theorem high_step (M k d : Nat) (hk : k < 32) (hd : d < 256) :
    (ofN (M * 256 ^ (k + 1) + 256 ^ k * d)).cells = (ofN (M * 256 ^ (k + 1))).cells.setIfInBounds (k / 8) (.int .u64 (((ofN (M * 256 ^ (k + 1))).at (k / 8) + d * 256 ^ (k % 8) : Nat) : Int)) ∧
      (ofN (M * 256 ^ (k + 1))).at (k / 8) + d * 256 ^ (k % 8) < 18446744073709551616 ∧ ∃ e, (ofN (M * 256 ^ (k + 1))).at (k / 8) = 256 ^ (k % 8) * 256 * e := by
  obtain ⟨p0, p1, p2, p3⟩ := pow8
  have hr : k % 8 < 8 := Nat.mod_lt _ (by decide)
  obtain ⟨v, hv1, hv⟩ := pow_v (k % 8) hr
  have he : 256 ^ k = 256 ^ (8 * (k / 8)) * 256 ^ (k % 8) := by rw [← Nat.pow_add, Nat.div_add_mod]
  have ht : d * 256 ^ (k % 8) ≤ 255 * 256 ^ (k % 8) := Nat.mul_le_mul_right _ (by omega)
  have hp1 : 0 < 256 ^ (k % 8) := Nat.pow_pos (by decide)
  have hm : 256 ^ k * d = 256 ^ (8 * (k / 8)) * (d * 256 ^ (k % 8)) := by rw [he, Nat.mul_assoc, Nat.mul_comm (256 ^ (k % 8)) d]
  have hV : M * 256 ^ (k + 1) = 256 ^ (8 * (k / 8)) * (256 ^ (k % 8) * 256 * M) := by
    rw [Nat.pow_succ, he, Nat.mul_comm M, Nat.mul_assoc, Nat.mul_assoc, Nat.mul_assoc]
  have hq : k / 8 = 0 ∨ k / 8 = 1 ∨ k / 8 = 2 ∨ k / 8 = 3 := by omega
  rw [hm, hV]
  generalize d * 256 ^ (k % 8) = t at *
  generalize 256 ^ (k % 8) = P at *
  generalize k / 8 = q at *
  clear he hm hV hr hk hd
  obtain ⟨m, hm⟩ : ∃ m, m = P * 256 * M := ⟨_, rfl⟩
  rw [← hm]
  have hmm : m % 18446744073709551616 = P * 256 * (M % v) := by rw [hm, hv, Nat.mul_mod_mul_left]
  have hlt : P * 256 * (M % v) + P * 256 ≤ 18446744073709551616 := by
    rw [hv, ← Nat.mul_succ]
    exact Nat.mul_le_mul_left _ (Nat.mod_lt _ hv1)
  have hsum : m % 18446744073709551616 + t < 18446744073709551616 := by omega
  have hex : ∃ e, m % 18446744073709551616 = P * 256 * e := ⟨_, hmm⟩
  clear hmm hlt hm hv hv1 ht hp1
  rcases hq with rfl | rfl | rfl | rfl
  · rw [p0]
    have e0 : (ofN (1 * m)).at 0 = m % 18446744073709551616 := by simp only [ofN, U4.at]; omega
    refine ⟨?_, by rw [e0]; exact hsum, by rw [e0]; exact hex⟩
    rw [e0]
    simp only [ofN, U4.cells, List.setIfInBounds_toArray, List.set_cons_zero]
    exact cells4 (by omega) (by omega) (by omega) (by omega)
  · rw [p1]
    have e0 : (ofN (18446744073709551616 * m)).at 1 = m % 18446744073709551616 := by simp only [ofN, U4.at]; omega
    refine ⟨?_, by rw [e0]; exact hsum, by rw [e0]; exact hex⟩
    rw [e0]
    simp only [ofN, U4.cells, List.setIfInBounds_toArray, List.set_cons_zero, List.set_cons_succ]
    exact cells4 (by omega) (by omega) (by omega) (by omega)
  · rw [p2]
    have e0 : (ofN (340282366920938463463374607431768211456 * m)).at 2 = m % 18446744073709551616 := by simp only [ofN, U4.at]; omega
    refine ⟨?_, by rw [e0]; exact hsum, by rw [e0]; exact hex⟩
    rw [e0]
    simp only [ofN, U4.cells, List.setIfInBounds_toArray, List.set_cons_zero, List.set_cons_succ]
    exact cells4 (by omega) (by omega) (by omega) (by omega)
  · rw [p3]
    have e0 : (ofN (6277101735386680763835789423207666416102355444464034512896 * m)).at 3 = m % 18446744073709551616 := by simp only [ofN, U4.at]; omega
    refine ⟨?_, by rw [e0]; exact hsum, by rw [e0]; exact hex⟩
    rw [e0]
    simp only [ofN, U4.cells, List.setIfInBounds_toArray, List.set_cons_zero, List.set_cons_succ]
    exact cells4 (by omega) (by omega) (by omega) (by omega)
theorem or_high (a d r : Nat) (hr : r < 8) (hd : d < 256) (hs : a + d * 256 ^ r < 18446744073709551616) (ha : ∃ e, a = 256 ^ r * 256 * e) : bits .or .u64 (a : Int) (IntKind.u64.wrap ((d : Int) * 2 ^ min (8 * r) 64)) = ((a + d * 256 ^ r : Nat) : Int) := by
  obtain ⟨e', hae⟩ := ha
  have ht : d * 256 ^ r ≤ 255 * 256 ^ r := Nat.mul_le_mul_right _ (by omega)
  have hp1 : 0 < 256 ^ r := Nat.pow_pos (by decide)
  have e : (d : Int) * 2 ^ min (8 * r) 64 = ((d * 256 ^ r : Nat) : Int) := by
    rw [Nat.min_eq_left (by omega), show 256 ^ r = 2 ^ (8 * r) by rw [Nat.pow_mul]]
    push_cast
    rfl
  have hp : 256 ^ r * 256 = 2 ^ (8 * (r + 1)) := by rw [Nat.pow_mul]; rfl
  have hlt : d * 256 ^ r < 2 ^ (8 * (r + 1)) := by rw [← hp]; omega
  have hor := Nat.two_pow_add_eq_or_of_lt (i := 8 * (r + 1)) hlt e'
  rw [e, IntKind.wrap_u64]
  rw [show ((d * 256 ^ r : Nat) : Int) % 18446744073709551616 = ((d * 256 ^ r : Nat) : Int) by omega, bits_or_u64_nat _ _ (by omega) (by omega)]
  congr 1
  rw [hae, hp, ← hor]
theorem or_high' (a d r : Nat) (hr : r < 8) (hd : d < 256) (hs : a + d * 256 ^ r < 18446744073709551616) (ha : ∃ e, a = 256 ^ r * 256 * e) : bits .or .u64 (a : Int) (IntKind.u64.wrap ((d : Int) * 2 ^ (8 * r))) = ((a + d * 256 ^ r : Nat) : Int) := by
  have h := or_high a d r hr hd hs ha
  rw [Nat.min_eq_left (by omega)] at h
  exact h
theorem valB_snoc (l : List UInt8) (d : UInt8) : valB (l ++ [d]) = d.toNat + 256 * valB l := by
  simp [valB, valL]
/-- the number that the first k of 32 bytes make -/
def highB (l : List UInt8) (k : Nat) : Nat := valB (l.take k) * 256 ^ (32 - k)
theorem highB_step (l : List UInt8) (hl : l.length = 32) (k : Nat) (hk : k < 32) : highB l k = valB (l.take k) * 256 ^ (31 - k + 1) ∧ highB l (k + 1) = valB (l.take k) * 256 ^ (31 - k + 1) + 256 ^ (31 - k) * (l.getD k 0).toNat := by
  unfold highB
  refine ⟨by rw [show 32 - k = 31 - k + 1 by omega], ?_⟩
  rw [List.take_succ_eq_append_getElem (by omega), valB_snoc, show 32 - (k + 1) = 31 - k by omega, List.getD_eq_getElem?_getD, List.getElem?_eq_getElem (by omega), Nat.pow_succ, Nat.add_mul, Nat.add_comm]
  show 256 * valB (l.take k) * 256 ^ (31 - k) + l[k].toNat * 256 ^ (31 - k) = valB (l.take k) * (256 ^ (31 - k) * 256) + 256 ^ (31 - k) * l[k].toNat
  rw [Nat.mul_comm l[k].toNat, Nat.mul_comm 256, Nat.mul_assoc, Nat.mul_comm 256]

set_option maxHeartbeats 2000000 in
theorem from_any (v : Value) (l : List UInt8) (w : World) (hr : Rd w w.heap.size v l) :
    Calls Tryz.prog 128 #[v] w fun e w' => e = .returned (.tuple #[(fromU l).1.val, .int .i64 (fromU l).2]) ∧ Below w.heap.size w w' := by
  have hlm := hr.len
  unfold maxLen at hlm
  obtain ⟨A, c, rfl⟩ := hr.form
  have hbx := LBlk.new w U4.zero.cells
  have hbw : Below w.heap.size w (w.alloc (.cells U4.zero.cells 32)) := (Below.refl _ _).alloc (Nat.le_refl _) _
  by_cases hl : l.length = 32
  · have hU : fromU l = (ofN (valB l), 0) := if_pos hl
    obtain ⟨hn, b, o, rfl, hbB, hcell⟩ := hr.cell (by omega)
    rw [hU]
    have HC : Hid (∀ k, k < 32 → w.cell? ⟨b, o + k, none⟩ = some (.int .u8 ((l.getD k 0).toNat : Int))) := Lib.hid (fun k hk => by
      rw [hcell k (by omega), List.getD_eq_getElem?_getD, List.getElem?_eq_getElem (by omega)]
      rfl)
    have HST := Lib.hid (highB_step l hl)
    have HF : Hid (highB l 32 = valB l) := Lib.hid (by
      unfold highB
      rw [List.take_of_length_le (by omega), Nat.sub_self, Nat.pow_zero, Nat.mul_one])
    have H0 : Hid (highB l 0 = 0) := Lib.hid (by
      unfold highB
      rw [List.take_zero, show valB [] = 0 from rfl, Nat.zero_mul])
    clear hcell hU hr
    rw [hl]
    clear hl hn hlm
    have h3 := two w U4.zero.cells U4.zero.cells
    clear hbx hbw
    go_enter Tryz.func128, Tryz.ntmps128
    go_wp2_with fail
    generalize hw0 : (w.alloc (.cells #[.int .u64 0, .int .u64 0, .int .u64 0, .int .u64 0] 32)).alloc (.cells #[.int .u64 0, .int .u64 0, .int .u64 0, .int .u64 0] 32) = w0
    replace h3 : LBlk w0 w.heap.size U4.zero.cells ∧ LBlk w0 (w.heap.size + 1) U4.zero.cells ∧ Below w.heap.size w w0 := by rw [← hw0]; exact h3
    clear hw0
    obtain ⟨h0, h1, h2⟩ := h3
    go_loopw [14] (fun i wr => ∃ k : Nat, k ≤ 32 ∧ i = .int .i64 (k : Int) ∧ LBlk wr w.heap.size U4.zero.cells ∧ LBlk wr (w.heap.size + 1) (ofN (highB l k)).cells ∧ Below w.heap.size w wr)
      (fun i _ => 32 - (intOf i).toNat)
    case atStart => exact ⟨0, Nat.zero_le _, rfl, h0, by rw [H0.out]; exact h1, h2⟩
    case round =>
      clear h0 h1 h2
      obtain ⟨j, hj, rfl, hb0, hb1, hb⟩ := hrel
      by_cases hlt : j < 32
      · have i1 : (j : Int) < 32 := by omega
        have i0 : (0 : Int) ≤ (j : Int) := by omega
        have hc := (hb.cell (p := ⟨b, o + j, none⟩) hbB).trans (HC.out j hlt)
        have hdv : (l.getD j 0).toNat < 256 := (l.getD j 0).toNat_lt
        obtain ⟨t1, t2⟩ := HST.out j hlt
        obtain ⟨k, hk⟩ : ∃ k, k = 31 - j := ⟨_, rfl⟩
        rw [← hk] at t1 t2
        rw [t1] at hb1
        have T2 := Lib.hid t2
        generalize valB (l.take j) = M at *
        obtain ⟨s1, s2, s3⟩ := high_step M k (l.getD j 0).toNat (by omega) hdv
        have e1 := (blk_cell hb1 (k / 8)).trans (U4.cell_at _ (by omega))
        have e2 := blk_free hb1 (k / 8)
        rw [← t2] at s1
        clear t1 t2
        generalize (l.getD j 0).toNat = d at *
        generalize M * 256 ^ (k + 1) = V at *
        generalize (ofN V).at (k / 8) = a at *
        have S1 := Lib.hid s1
        have S2 := Lib.hid s2
        have S3 := Lib.hid s3
        have e31 : (31 : Int) - (j : Int) = (k : Int) := by omega
        have l0 : (0 : Int) ≤ (k : Int) := by omega
        have l32 : (k : Int) < 32 := by omega
        have k8 : (k : Int) / 8 < 4 := by omega
        have k80 : (0 : Int) ≤ (k : Int) / 8 := by omega
        have w1 : IntKind.i64.wrap ((k : Int) / 8) = (k : Int) / 8 := IntWalk.i64_in _ (by omega)
        have w2 : (k : Int).tmod 8 = (k : Int) % 8 := Int.tmod_eq_emod_of_nonneg (by omega)
        have w3 : IntKind.i64.wrap ((k : Int) % 8) = (k : Int) % 8 := IntWalk.i64_in _ (by omega)
        have w4 : IntKind.i64.wrap (8 * ((k : Int) % 8)) = 8 * ((k : Int) % 8) := IntWalk.i64_in _ (by omega)
        have w5 : (k : Int).tdiv 8 = (k : Int) / 8 := Int.tdiv_eq_ediv_of_nonneg (by omega)
        have w6 : ((k : Int) / 8).toNat = k / 8 := by omega
        clear s1 s2 s3 hk T2
        go_wp2_with fail
        go_still_tail 12, (by kernel_rfl)
        change wpList _ _ _ _ _ wr.drew
        go_wp2_with fail
        rw [or_high' a d (k % 8) (Nat.mod_lt _ (by decide)) hdv S2.out S3.out]
        refine ⟨⟨j + 1, by omega, by go_num, (LBlk.far hb0 (by omega) _ _).drew, ?_, below_drewN' (hb.setCell (by simp) _) 1⟩, by simp [intOf]; omega⟩
        rw [S1.out]
        exact (hb1.set_ _ _).drew
      · have i1 : ¬ (j : Int) < 32 := by omega
        obtain rfl : j = 32 := by omega
        rw [HF.out] at hb1
        obtain ⟨c0, c1, c2, c3⟩ := hb1.all
        obtain ⟨d0, d1, d2, d3⟩ := hb0.all
        have f0 := hb0.free 0
        have f1 := hb0.free 1
        have f2 := hb0.free 2
        have f3 := hb0.free 3
        have BB := Lib.hid hb
        obtain ⟨s, hs⟩ : ∃ s, s = ofN (valB l) := ⟨_, rfl⟩
        rw [← hs] at c0 c1 c2 c3
        have HS := Lib.hid hs
        clear hb hb0 hb1 hs
        go_wp2
        refine bodyPost_ret (v := .tuple #[.agg s.cells, .int .i64 0]) ?_ rfl ⟨by first | rfl | (rw [← HS.out]; rfl), ?_⟩
        · simp [results, Tryz.results128, go_sem, U4.cells, d0, d1, d2, d3]
        · have hg : w.heap.size ≤ w.heap.size := by omega
          exact (((BB.out.setCell hg _).setCell hg _).setCell hg _).setCell hg _
  · have hU : fromU l = (U4.zero, 21) := if_neg hl
    rw [hU]
    have hl32 : ¬ (l.length : Int) = 32 := by omega
    obtain ⟨d0, d1, d2, d3⟩ := hbx.all
    clear hU hr hl
    replace hbw : Below w.heap.size w (w.alloc (.cells #[.int .u64 0, .int .u64 0, .int .u64 0, .int .u64 0] 32)) := hbw
    replace d0 : (w.alloc (.cells #[.int .u64 0, .int .u64 0, .int .u64 0, .int .u64 0] 32)).cell? ⟨w.heap.size, 0, none⟩ = some (.int .u64 0) := d0
    replace d1 : (w.alloc (.cells #[.int .u64 0, .int .u64 0, .int .u64 0, .int .u64 0] 32)).cell? ⟨w.heap.size, 1, none⟩ = some (.int .u64 0) := d1
    replace d2 : (w.alloc (.cells #[.int .u64 0, .int .u64 0, .int .u64 0, .int .u64 0] 32)).cell? ⟨w.heap.size, 2, none⟩ = some (.int .u64 0) := d2
    replace d3 : (w.alloc (.cells #[.int .u64 0, .int .u64 0, .int .u64 0, .int .u64 0] 32)).cell? ⟨w.heap.size, 3, none⟩ = some (.int .u64 0) := d3
    clear hbx
    go_enter Tryz.func128, Tryz.ntmps128
    go_wp2
    refine bodyPost_ret (v := .tuple #[U4.zero.val, .int .i64 21]) ?_ rfl ⟨rfl, hbw⟩
    simp [results, Tryz.results128, go_sem, U4.val, U4.cells, U4.zero, d0, d1, d2, d3]
end Go.Proofs.YtaafaaoioleokaaGreatDoor
