/- A number out of its bytes, one after the other: the mathematics, and the walk of the document's short. -/
import Derived.Test.YthiacmpkbioahaaDoorLimbX
import Derived.Laws.Bits64b
namespace Go.Proofs.YthiacmpkbioahaaDoor
open Go Go.RowKit

theorem pow_r (r : Nat) (h : r < 8) : 1 ≤ 256 ^ r ∧ 256 ^ r * 256 ≤ 18446744073709551616 := by
  have : r = 0 ∨ r = 1 ∨ r = 2 ∨ r = 3 ∨ r = 4 ∨ r = 5 ∨ r = 6 ∨ r = 7 := by omega
  rcases this with rfl | rfl | rfl | rfl | rfl | rfl | rfl | rfl <;> decide
theorem cells4 {a b c d a' b' c' d' : Nat} (h1 : a = a') (h2 : b = b') (h3 : c = c') (h4 : d = d') : (#[.int .u64 (a : Int), .int .u64 (b : Int), .int .u64 (c : Int), .int .u64 (d : Int)] : Array Value) = #[.int .u64 (a' : Int), .int .u64 (b' : Int), .int .u64 (c' : Int), .int .u64 (d' : Int)] := by
  subst h1; subst h2; subst h3; subst h4; rfl
theorem short_step (V i d : Nat) (hi : i < 32) (hd : d < 256) (hV : V < 256 ^ i) :
    (ofN (V + 256 ^ i * d)).cells = (ofN V).cells.setIfInBounds (i / 8) (.int .u64 (((ofN V).at (i / 8) + d * 256 ^ (i % 8) : Nat) : Int)) ∧ (ofN V).at (i / 8) < 256 ^ (i % 8) := by
  obtain ⟨p0, p1, p2, p3⟩ := pow8
  have hr : i % 8 < 8 := Nat.mod_lt _ (by decide)
  obtain ⟨h1, h2⟩ := pow_r (i % 8) hr
  have he : 256 ^ i = 256 ^ (8 * (i / 8)) * 256 ^ (i % 8) := by rw [← Nat.pow_add, Nat.div_add_mod]
  have ht : d * 256 ^ (i % 8) ≤ 255 * 256 ^ (i % 8) := Nat.mul_le_mul_right _ (by omega)
  have hm : 256 ^ i * d = 256 ^ (8 * (i / 8)) * (d * 256 ^ (i % 8)) := by rw [he, Nat.mul_assoc, Nat.mul_comm (256 ^ (i % 8)) d]
  have hq : i / 8 = 0 ∨ i / 8 = 1 ∨ i / 8 = 2 ∨ i / 8 = 3 := by omega
  rw [hm]
  rw [he] at hV
  generalize d * 256 ^ (i % 8) = t at *
  generalize 256 ^ (i % 8) = P at *
  generalize i / 8 = q at *
  clear he hm hr hi hd
  rcases hq with rfl | rfl | rfl | rfl
  · rw [p0] at hV ⊢
    refine ⟨?_, ?_⟩
    · simp only [ofN, U4.cells, U4.at, List.setIfInBounds_toArray, List.set_cons_zero]
      exact cells4 (by omega) (by omega) (by omega) (by omega)
    · simp only [ofN, U4.at]; omega
  · rw [p1] at hV ⊢
    refine ⟨?_, ?_⟩
    · simp only [ofN, U4.cells, U4.at, List.setIfInBounds_toArray, List.set_cons_zero, List.set_cons_succ]
      exact cells4 (by omega) (by omega) (by omega) (by omega)
    · simp only [ofN, U4.at]; omega
  · rw [p2] at hV ⊢
    refine ⟨?_, ?_⟩
    · simp only [ofN, U4.cells, U4.at, List.setIfInBounds_toArray, List.set_cons_zero, List.set_cons_succ]
      exact cells4 (by omega) (by omega) (by omega) (by omega)
    · simp only [ofN, U4.at]; omega
  · rw [p3] at hV ⊢
    refine ⟨?_, ?_⟩
    · simp only [ofN, U4.cells, U4.at, List.setIfInBounds_toArray, List.set_cons_zero, List.set_cons_succ]
      exact cells4 (by omega) (by omega) (by omega) (by omega)
    · simp only [ofN, U4.at]; omega
theorem or_put (a d r : Nat) (hr : r < 8) (hd : d < 256) (ha : a < 256 ^ r) : bits .or .u64 (a : Int) (IntKind.u64.wrap ((d : Int) * 2 ^ min (8 * r) 64)) = ((a + d * 256 ^ r : Nat) : Int) := by
  obtain ⟨h1, h2⟩ := pow_r r hr
  have ht : d * 256 ^ r ≤ 255 * 256 ^ r := Nat.mul_le_mul_right _ (by omega)
  have e : (d : Int) * 2 ^ min (8 * r) 64 = ((d * 256 ^ r : Nat) : Int) := by
    rw [Nat.min_eq_left (by omega), show 256 ^ r = 2 ^ (8 * r) by rw [Nat.pow_mul]]
    push_cast
    rfl
  have hp : 256 ^ r = 2 ^ (8 * r) := by rw [Nat.pow_mul]
  have hor := Nat.two_pow_add_eq_or_of_lt (i := 8 * r) (b := a) (by rw [← hp]; exact ha) d
  rw [e, IntKind.wrap_u64]
  rw [show ((d * 256 ^ r : Nat) : Int) % 18446744073709551616 = ((d * 256 ^ r : Nat) : Int) by omega, bits_or_u64_nat _ _ (by omega) (by omega)]
  congr 1
  rw [hp, Nat.mul_comm d, Nat.or_comm, ← hor]
  omega
theorem two (w : World) (X Y : Array Value) : Blk ((w.alloc (.cells X 24)).alloc (.cells Y 24)) w.heap.size X ∧
    Blk ((w.alloc (.cells X 24)).alloc (.cells Y 24)) (w.heap.size + 1) Y ∧
    Below w.heap.size w ((w.alloc (.cells X 24)).alloc (.cells Y 24)) := by
  refine ⟨(Blk.new w X).alloc _, ?_, ((Below.refl _ _).alloc (Nat.le_refl _) _).alloc (by simp) _⟩
  have := Blk.new (w.alloc (.cells X 24)) Y
  simpa using this

set_option maxHeartbeats 2000000 in
theorem rshort_any (A : Option Addr) (n c B : Nat) (D : List Nat) (w : World) (hD : OwnI w B (.slice A n c) D) (hl : D.length = 32) (hlt : ∀ d ∈ D, d < 256) :
    Calls Tryd.prog 35 #[.slice A n c] w fun e w' => e = .returned (ofN (valL D)).val ∧ Below w.heap.size w w' := by
  obtain ⟨g, rfl, rfl, hgl, _⟩ := hD.at_ 0 (by omega)
  have HL := Lib.hid hl
  have HLT := Lib.hid hlt
  have hcell : ∀ j, j < 32 → w.cell? ⟨g, j, none⟩ = some (.int .i64 (D.getD j 0 : Int)) := fun j hj => by
    obtain ⟨g', e, _, _, h⟩ := hD.at_ j (by omega)
    injection e with e
    injection e with e _ _
    subst e
    exact h
  have HC := Lib.hid hcell
  rw [hl]
  clear hl hlt hcell hD
  go_enter Tryd.func35, Tryd.ntmps35
  go_wp2_with fail
  go_loopw [4] (fun i wr => ∃ k : Nat, k ≤ 32 ∧ i = .int .i64 (k : Int) ∧ Blk wr w.heap.size U4.zero.cells ∧ Blk wr (w.heap.size + 1) (ofN (valL (D.take k))).cells ∧ Below w.heap.size w wr)
    (fun i _ => 32 - (intOf i).toNat)
  case atStart =>
    obtain ⟨h1, h2, h3⟩ := two w U4.zero.cells U4.zero.cells
    exact ⟨0, Nat.zero_le _, rfl, h1, by rw [show (ofN (valL (D.take 0))).cells = U4.zero.cells from by rw [List.take_zero]; rfl]; exact h2, h3⟩
  case round =>
    obtain ⟨k, hk, rfl, hb0, hb1, hb⟩ := hrel
    by_cases hlt : k < 32
    · have i1 : (k : Int) < 32 := by omega
      have i0 : (0 : Int) ≤ (k : Int) := by omega
      have hkl : k < D.length := by have := HL.out; omega
      have hc := (hb.cell (p := ⟨g, k, none⟩) hgl).trans (HC.out k hlt)
      have hdv : D.getD k 0 < 256 := by
        rw [List.getD_eq_getElem?_getD, List.getElem?_eq_getElem hkl]
        exact HLT.out _ (List.getElem_mem _)
      have hVlt := valL_lt (D.take k) (fun d hd => HLT.out d (List.mem_of_mem_take hd))
      rw [List.length_take, HL.out, Nat.min_eq_left (by omega)] at hVlt
      obtain ⟨s1, s2⟩ := short_step (valL (D.take k)) k (D.getD k 0) hlt hdv hVlt
      have hvt : Hid (valL (D.take (k + 1)) = valL (D.take k) + 256 ^ k * D.getD k 0) := Lib.hid (by
        rw [valL_take D k hkl, List.getD_eq_getElem?_getD, List.getElem?_eq_getElem hkl]; rfl)
      have e1 := (blk_cell hb1 (k / 8)).trans (U4.cell_at _ (by omega))
      have e2 := blk_free hb1 (k / 8)
      have S1 := Lib.hid s1
      generalize D.getD k 0 = d at *
      generalize valL (D.take k) = V at *
      generalize (ofN V).at (k / 8) = a at *
      have k8 : (k : Int) / 8 < 4 := by omega
      have k80 : (0 : Int) ≤ (k : Int) / 8 := by omega
      have S2 := Lib.hid s2
      have HV := Lib.hid hVlt
      clear s1 s2 hVlt
      have w1 : IntKind.i64.wrap ((k : Int) / 8) = (k : Int) / 8 := IntWalk.i64_in _ (by omega)
      have w2 : (k : Int).tmod 8 = (k : Int) % 8 := Int.tmod_eq_emod_of_nonneg (by omega)
      have w3 : IntKind.i64.wrap ((k : Int) % 8) = (k : Int) % 8 := IntWalk.i64_in _ (by omega)
      have w4 : IntKind.i64.wrap (8 * ((k : Int) % 8)) = 8 * ((k : Int) % 8) := IntWalk.i64_in _ (by omega)
      have w5 : (k : Int).tdiv 8 = (k : Int) / 8 := Int.tdiv_eq_ediv_of_nonneg (by omega)
      have w6 : ((k : Int) / 8).toNat = k / 8 := by omega
      go_wp2_with fail
      go_still_tail 16, (by kernel_rfl)
      change wpList _ _ _ _ _ wr.drew
      go_wp2_with fail
      rw [or_put a d (k % 8) (Nat.mod_lt _ (by decide)) hdv S2.out]
      refine ⟨⟨k + 1, by omega, by go_num, (Blk.far hb0 (by omega) _ _).drew, ?_, below_drewN' (hb.setCell (by simp) _) 1⟩, by simp [intOf]; omega⟩
      rw [hvt.out, S1.out]
      exact (hb1.set_ _ _).drew
    · have i1 : ¬ (k : Int) < 32 := by omega
      obtain rfl : k = 32 := by omega
      rw [List.take_of_length_le (by have := HL.out; omega)] at hb1
      obtain ⟨c0, c1, c2, c3⟩ := hb1.all
      obtain ⟨d0, d1, d2, d3⟩ := hb0.all
      have f0 := hb0.free 0
      have f1 := hb0.free 1
      have f2 := hb0.free 2
      have f3 := hb0.free 3
      have BB := Lib.hid hb
      obtain ⟨s, hs⟩ : ∃ s, s = ofN (valL D) := ⟨_, rfl⟩
      rw [← hs] at c0 c1 c2 c3
      have HS := Lib.hid hs
      clear hb hb0 hb1 hs
      go_wp2
      refine bodyPost_ret (v := .agg s.cells) ?_ rfl ⟨?_, ?_⟩
      · simp [results, Tryd.results35, go_sem, U4.cells, d0, d1, d2, d3]
      · rw [← HS.out]; rfl
      · have hg : w.heap.size ≤ w.heap.size := by omega
        exact (((BB.out.setCell hg _).setCell hg _).setCell hg _).setCell hg _
end Go.Proofs.YthiacmpkbioahaaDoor
