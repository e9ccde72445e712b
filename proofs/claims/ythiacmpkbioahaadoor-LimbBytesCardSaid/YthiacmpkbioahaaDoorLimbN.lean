/- The walk of the document's From. -/
import Derived.Test.YthiacmpkbioahaaDoorLimbY
import Derived.Test.YthiacmpkbioahaaDoorLimbJ
namespace Go.Proofs.YthiacmpkbioahaaDoor
open Go Go.RowKit

/-- what 32 bytes are as a number; anything else is refused -/
def fromU (l : List UInt8) : U4 × Int := if l.length = 32 then (ofN (valB l), 0) else (U4.zero, 21)
/-- the first k numbers are there, the others are 0 -/
def partI (L : List Nat) (k : Nat) : List Nat := L.take k ++ List.replicate (32 - k) 0
theorem partI_set (L : List Nat) (hl : L.length = 32) (k : Nat) (hk : k < 32) : (partI L k).set k (L.getD k 0) = partI L (k + 1) := by
  unfold partI
  obtain ⟨m, hm⟩ : ∃ m, 32 - k = m + 1 := ⟨31 - k, by omega⟩
  have h0 : k - (L.take k).length = 0 := by rw [List.length_take]; omega
  rw [hm, show 32 - (k + 1) = m by omega, List.set_append_right _ _ (by rw [List.length_take]; omega), h0, List.replicate_succ, List.set_cons_zero, List.take_succ_eq_append_getElem (by omega), List.append_assoc, List.getD_eq_getElem?_getD, List.getElem?_eq_getElem (by omega)]
  rfl
theorem partI_length (L : List Nat) (hl : L.length = 32) (k : Nat) (hk : k ≤ 32) : (partI L k).length = 32 := by
  unfold partI
  rw [List.length_append, List.length_take, List.length_replicate]; omega
theorem OwnI.made (w : World) {B : Nat} (D : List Nat) (hb : B ≤ w.heap.size) (hm : D.length ≤ maxLen) : OwnI (w.alloc (.cells (dcells D).toArray 3)) B (.slice (some ⟨w.heap.size, 0, none⟩) D.length D.length) D :=
  ⟨by simp [dcells], .inr ⟨w.heap.size, D.length, _, rfl, hb, heap_alloc_new w _, Nat.le_refl _, hm, by simp [dcells], by simp [dcells, List.take_of_length_le]⟩⟩
theorem rev_getD (l : List UInt8) (hl : l.length = 32) (k : Nat) (hk : k < 32) : (l.reverse.map UInt8.toNat).getD k 0 = (l.getD (31 - k) 0).toNat := by
  rw [List.getD_eq_getElem?_getD, List.getElem?_map, List.getElem?_reverse (by omega), show l.length - 1 - k = 31 - k by omega, List.getD_eq_getElem?_getD, List.getElem?_eq_getElem (by omega)]
  rfl

set_option maxHeartbeats 2000000 in
theorem rfrom_any (v : Value) (l : List UInt8) (w : World) (hr : Rd w w.heap.size v l) :
    Calls Tryd.prog 30 #[v] w fun e w' => e = .returned (.tuple #[(fromU l).1.val, .int .i64 (fromU l).2]) ∧ Below w.heap.size w w' := by
  have hlm := hr.len
  unfold maxLen at hlm
  obtain ⟨A, c, rfl⟩ := hr.form
  have hbx := Blk.new w U4.zero.cells
  have hbw : Below w.heap.size w (w.alloc (.cells U4.zero.cells 24)) := (Below.refl _ _).alloc (Nat.le_refl _) _
  by_cases hl : l.length = 32
  · have hU : fromU l = (ofN (valB l), 0) := if_pos hl
    obtain ⟨hn, b, o, rfl, hbB, hcell⟩ := hr.cell (by omega)
    rw [hU]
    have hmk : ∀ W : World, (Instr.makeSlice 51 (.int .i64 32) (.int .i64 32)).run Tryd.prog W = .ok (.slice (some ⟨W.heap.size, 0, none⟩) 32 32) (W.alloc (.cells (dcells (List.replicate 32 0)).toArray 3)) := by
      obtain ⟨i0, hi, hz, hsz, hby⟩ := info_parts Tryd.infoInt
      intro W
      have h := run_make W 51 3 i0 (.int .i64 0) Tryd.underlying51 hi hz .i64 .i64 32 32 (by omega) (by omega) (by rw [hby]; omega) (by omega)
      rw [hsz] at h
      have e : madeCells (Value.int .i64 0).cells (Int.toNat 32 * 1) = (dcells (List.replicate 32 0)).toArray := by
        rw [show Int.toNat 32 * 1 = 32 from rfl]
        apply Array.ext'
        rw [show (Value.int IntKind.i64 0).cells = #[Value.int .i64 0] from rfl, toList_madeCells_one]
        rfl
      rw [e] at h
      exact h
    obtain ⟨L, hL⟩ : ∃ L, L = l.reverse.map UInt8.toNat := ⟨_, rfl⟩
    have HG := Lib.hid (fun k hk => rev_getD l hl k hk)
    have HLV : Hid (valL L = valB l) := Lib.hid (by rw [hL]; rfl)
    have HLL : Hid (L.length = 32) := Lib.hid (by rw [hL]; simp [hl])
    have HLT : Hid (∀ d ∈ L, d < 256) := Lib.hid (fun d hd => by
      rw [hL, List.mem_map] at hd
      obtain ⟨x, -, rfl⟩ := hd
      exact x.toNat_lt)
    rw [← hL] at HG
    have HC : Hid (∀ k, k < 32 → w.cell? ⟨b, o + (31 - k), none⟩ = some (.int .u8 ((l.getD (31 - k) 0).toNat : Int))) := Lib.hid (fun k hk => by
      rw [hcell (31 - k) (by omega), List.getD_eq_getElem?_getD, List.getElem?_eq_getElem (by omega)]
      rfl)
    have hl32 : (l.length : Int) = 32 := by omega
    have HPL := Lib.hid (partI_length L HLL.out)
    have HPS := Lib.hid (partI_set L HLL.out)
    have hp0 : Hid (List.replicate 32 0 = partI L 0) := Lib.hid rfl
    have HPF : Hid (partI L 32 = L) := Lib.hid (by unfold partI; rw [List.take_of_length_le (by rw [HLL.out]; omega)]; simp)
    clear hL hcell hU hr
    rw [hl]
    clear hl32
    have HL := Lib.hid hl
    clear hl hn hlm
    have hO := OwnI.made (B := w.heap.size + 1) (w.alloc (.cells U4.zero.cells 24)) (List.replicate 32 0) (by simp) (by simp [maxLen])
    have hze : (w.alloc (.cells U4.zero.cells 24)).heap.size = w.heap.size + 1 := by simp
    rw [hze] at hO
    have hbw2 : Below (w.heap.size + 1) (w.alloc (.cells U4.zero.cells 24)) ((w.alloc (.cells U4.zero.cells 24)).alloc (.cells (dcells (List.replicate 32 0)).toArray 3)) := (Below.refl _ _).alloc (by simp) _
    rw [hp0.out] at hO hbw2
    have hfo : OwnI ((w.alloc (.cells U4.zero.cells 24)).alloc (.cells (dcells (partI L 0)).toArray 3)) (w.heap.size + 1) (.slice (some ⟨w.heap.size + 1, 0, none⟩) 32 32) (partI L 0) := by
      have := HPL.out 0 (by omega)
      rw [this] at hO
      exact hO
    clear hO
    go_enter Tryd.func30, Tryd.ntmps30
    go_wp2_with fail
    clear hmk
    generalize hw0 : w.alloc (.cells #[.int .u64 0, .int .u64 0, .int .u64 0, .int .u64 0] 24) = w0
    replace hbx : Blk w0 w.heap.size U4.zero.cells := by rw [← hw0]; exact hbx
    replace hbw : Below w.heap.size w w0 := by rw [← hw0]; exact hbw
    replace hfo : OwnI (w0.alloc (.cells (dcells [0, 0, 0, 0, 0, 0, 0, 0, 0, 0, 0, 0, 0, 0, 0, 0, 0, 0, 0, 0, 0, 0, 0, 0, 0, 0, 0, 0, 0, 0, 0, 0]).toArray 3)) (w.heap.size + 1) (.slice (some ⟨w.heap.size + 1, 0, none⟩) 32 32) (partI L 0) := by rw [← hw0]; exact hfo
    replace hbw2 : Below (w.heap.size + 1) w0 (w0.alloc (.cells (dcells [0, 0, 0, 0, 0, 0, 0, 0, 0, 0, 0, 0, 0, 0, 0, 0, 0, 0, 0, 0, 0, 0, 0, 0, 0, 0, 0, 0, 0, 0, 0, 0]).toArray 3)) := by rw [← hw0]; exact hbw2
    have HZ : Hid (w0.heap.size = w.heap.size + 1) := Lib.hid (by rw [← hw0]; simp)
    clear hw0 hze
    go_loopw [5] (fun i wr => ∃ k : Nat, k ≤ 32 ∧ i = .int .i64 (k : Int) ∧ OwnI wr (w.heap.size + 1) (.slice (some ⟨w.heap.size + 1, 0, none⟩) 32 32) (partI L k) ∧ Below (w.heap.size + 1) w0 wr)
      (fun i _ => 32 - (intOf i).toNat)
    case atStart => exact ⟨0, Nat.zero_le _, rfl, hfo, hbw2⟩
    case round =>
      clear hfo hbw2
      obtain ⟨k, hk, rfl, ho, hb⟩ := hrel
      by_cases hlt : k < 32
      · have i1 : (k : Int) < 32 := by omega
        have j0 : (0 : Int) ≤ (k : Int) := by omega
        obtain ⟨gA, hgA, _, hgs, hcell, hfz, hput⟩ := ho.put (k := k) (by rw [HPL.out k hk]; exact hlt)
        injection hgA with hgA
        injection hgA with hgA _ _
        subst hgA
        have hps := HPS.out k hlt
        have hg := HG.out k hlt
        obtain ⟨low, hlow⟩ : ∃ low, low = 31 - k := ⟨_, rfl⟩
        have hc := ((hbw.cell (p := ⟨b, o + (31 - k), none⟩) hbB).trans (HC.out k hlt))
        replace hc := (hb.cell (p := ⟨b, o + (31 - k), none⟩) (Nat.lt_succ_of_lt hbB)).trans hc
        rw [← hlow] at hc hg
        have hx256 := (l.getD low 0).toNat_lt
        rw [← hg] at hc hx256
        generalize L.getD k 0 = x at *
        have HS := Lib.hid (by have h := hput x; rw [hps] at h; exact h)
        generalize (partI L k).getD k 0 = old at hcell
        have e31 : (31 : Int) - (k : Int) = (low : Int) := by omega
        have l0 : (0 : Int) ≤ (low : Int) := by omega
        have l32 : (low : Int) < 32 := by omega
        clear hput hps hlow ho hg
        go_wp2_with fail
        refine ⟨⟨k + 1, by omega, rfl, HS.out, hb.setCell (Nat.le_refl _) _⟩, ?_⟩
        simp only [intOf]
        omega
      · have hk32 : k = 32 := by omega
        subst hk32
        rw [HPF.out] at ho
        have hbo := hbw.trans (hb.mono (by omega))
        replace hbx := hbx.below hb (by omega)
        have KS := Lib.hid (rshort_any (some ⟨w.heap.size + 1, 0, none⟩) 32 32 (w.heap.size + 1) L wr ho HLL.out HLT.out)
        clear ho
        go_wp2_with fail
        refine KS.out.mono ?_
        rintro e w2 ⟨rfl, hb2⟩
        replace hbx := hbx.below hb2 hbx.lt
        have hbo2 := below_chain hbo hbo.size hb2
        obtain ⟨d0, d1, d2, d3⟩ := hbx.all
        have f0 := hbx.free 0
        have f1 := hbx.free 1
        have f2 := hbx.free 2
        have f3 := hbx.free 3
        rw [HLV.out]
        obtain ⟨s, hs⟩ : ∃ s, s = ofN (valB l) := ⟨_, rfl⟩
        rw [← hs]
        have BB := Lib.hid hbo2
        have HS := Lib.hid hs
        clear hb hbo hbo2 hs hbx hbw hb2
        unfold U4.val U4.cells
        go_wp2
        refine bodyPost_ret (v := .tuple #[.agg s.cells, .int .i64 0]) ?_ rfl ⟨by rw [← HS.out]; rfl, ?_⟩
        · simp [results, Tryd.results30, go_sem, U4.cells, d0, d1, d2, d3]
        · have hg : w.heap.size ≤ w.heap.size := by omega
          exact (((BB.out.setCell hg _).setCell hg _).setCell hg _).setCell hg _
  · have hU : fromU l = (U4.zero, 21) := if_neg hl
    rw [hU]
    have hl32 : ¬ (l.length : Int) = 32 := by omega
    obtain ⟨d0, d1, d2, d3⟩ := hbx.all
    have f0 := hbx.free 0
    have f1 := hbx.free 1
    have f2 := hbx.free 2
    have f3 := hbx.free 3
    clear hU hr hl
    replace hbw : Below w.heap.size w (w.alloc (.cells #[.int .u64 0, .int .u64 0, .int .u64 0, .int .u64 0] 24)) := hbw
    replace d0 : (w.alloc (.cells #[.int .u64 0, .int .u64 0, .int .u64 0, .int .u64 0] 24)).cell? ⟨w.heap.size, 0, none⟩ = some (.int .u64 0) := d0
    replace d1 : (w.alloc (.cells #[.int .u64 0, .int .u64 0, .int .u64 0, .int .u64 0] 24)).cell? ⟨w.heap.size, 1, none⟩ = some (.int .u64 0) := d1
    replace d2 : (w.alloc (.cells #[.int .u64 0, .int .u64 0, .int .u64 0, .int .u64 0] 24)).cell? ⟨w.heap.size, 2, none⟩ = some (.int .u64 0) := d2
    replace d3 : (w.alloc (.cells #[.int .u64 0, .int .u64 0, .int .u64 0, .int .u64 0] 24)).cell? ⟨w.heap.size, 3, none⟩ = some (.int .u64 0) := d3
    clear hbx f0 f1 f2 f3
    go_enter Tryd.func30, Tryd.ntmps30
    go_wp2
    refine bodyPost_ret (v := .tuple #[U4.zero.val, .int .i64 21]) ?_ rfl ⟨rfl, hbw⟩
    simp [results, Tryd.results30, go_sem, U4.val, U4.cells, U4.zero, d0, d1, d2, d3]
end Go.Proofs.YthiacmpkbioahaaDoor
