/- The walks: the document's reader, its counts, what is left, its faults; a new one. -/
import Derived.Test.YtmmmbllbnfaboaaWireE
namespace Go.Proofs.Ytmmmbllbnfaboaa
open Go.RowKit

variable {w : World} {lo g : Nat} {rest : List UInt8} {fault : Int}

theorem Rd.grown {w w' : World} {g : Nat} {v : Value} {l : List UInt8} (h : Rd w g v l) (hg : w.grownBy w' (some g)) (hlt : g ≤ w.heap.size) : Rd w' g v l :=
  h.keep fun p hp => World.cell?_of_block (hg.block p.block (by omega) (by intro e; injection e with e; omega))

set_option maxHeartbeats 1000000 in
theorem dC_any (h : Ddr w lo g rest fault) (most : Int) (hm : most ≤ 9223372036854775807) (hm' : -9223372036854775808 ≤ most) :
    Calls Try.prog 38 #[.pointer (some ⟨g, 0, none⟩), .int .i64 most] w fun e w' => e = .returned (.int .i64 (rC most rest fault).1) ∧ Ddr w' lo g (rC most rest fault).2.1 (rC most rest fault).2.2 ∧ w.grownBy w' (some g) := by
  obtain ⟨sv, hg, hlo, hr, hs⟩ := id h
  have hlt := blk_lt hg
  obtain ⟨A0, c0', rfl⟩ := hr.form
  have c0 : w.cell? ⟨g, 0, none⟩ = some (.slice A0 rest.length c0') := blk_cell hg 0
  by_cases hf : fault = 0
  · subst hf
    by_cases hl : rest.length < 8
    · have e : rC most rest 0 = (0, rest, 20) := by simp [rC, hl]
      rw [e]
      clear e
      have hN := dN_any h
      have e : rN rest 0 = (0, rest, 20) := by simp [rN, hl]
      rw [e] at hN
      clear e
      go_enter Try.func38, Try.ntmps38
      go_wp2_with fail
      refine hN.mono ?_
      rintro e w1 ⟨rfl, hd1, hg1⟩
      obtain ⟨sv1, hb1, -⟩ := id hd1
      have d1 : w1.cell? ⟨g, 1, none⟩ = some (.int .i64 20) := blk_cell hb1 1
      go_wp2_with fail
      go_ret
      exact ⟨rfl, hd1, hg1⟩
    · have hbv : beVal (rest.take 8) < 256 ^ 8 := beVal_lt8 _ 8 (by simp; omega)
      have hN := dN_any h
      have e : rN rest 0 = (beVal (rest.take 8), rest.drop 8, 0) := by simp [rN, hl]
      rw [e] at hN
      clear e
      have e0 : rC most rest 0 = if most < 0 ∨ most < (beVal (rest.take 8) : Int) then (0, rest, 22) else ((beVal (rest.take 8) : Int), rest.drop 8, 0) := by simp [rC, hl]
      rw [e0]
      clear e0
      generalize beVal (rest.take 8) = n at *
      by_cases hneg : most < 0
      · rw [if_pos (Or.inl hneg)]
        go_enter Try.func38, Try.ntmps38
        go_wp2_with fail
        refine hN.mono ?_
        rintro e w1 ⟨rfl, hd1, hg1⟩
        obtain ⟨sv1, hb1, -⟩ := id hd1
        have d0 : w1.cell? ⟨g, 0, none⟩ = some sv1 := blk_cell hb1 0
        have d1 : w1.cell? ⟨g, 1, none⟩ = some (.int .i64 0) := blk_cell hb1 1
        have z0 := blk_free hb1 0
        have z1 := blk_free hb1 1
        go_wp2_with fail
        go_ret
        exact ⟨rfl, (RdT.put0 hb1 hlo (hr.grown hg1 (by omega)) hs).put1 22, grownBy_trans (grownBy_trans hg1 (grown_set _ _ _ _)) (grown_set _ _ _ _)⟩
      · by_cases hbig : most < (n : Int)
        · rw [if_pos (Or.inr hbig)]
          have k0 : 0 ≤ most := by omega
          go_enter Try.func38, Try.ntmps38
          go_wp2_with fail
          refine hN.mono ?_
          rintro e w1 ⟨rfl, hd1, hg1⟩
          obtain ⟨sv1, hb1, -⟩ := id hd1
          have d0 : w1.cell? ⟨g, 0, none⟩ = some sv1 := blk_cell hb1 0
          have d1 : w1.cell? ⟨g, 1, none⟩ = some (.int .i64 0) := blk_cell hb1 1
          have z0 := blk_free hb1 0
          have z1 := blk_free hb1 1
          go_wp2_with fail
          go_ret
          exact ⟨rfl, (RdT.put0 hb1 hlo (hr.grown hg1 (by omega)) hs).put1 22, grownBy_trans (grownBy_trans hg1 (grown_set _ _ _ _)) (grown_set _ _ _ _)⟩
        · rw [if_neg (by omega)]
          have k0 : 0 ≤ most := by omega
          have k1 : (n : Int) ≤ most := by omega
          go_enter Try.func38, Try.ntmps38
          go_wp2_with fail
          refine hN.mono ?_
          rintro e w1 ⟨rfl, hd1, hg1⟩
          obtain ⟨sv1, hb1, -⟩ := id hd1
          have d1 : w1.cell? ⟨g, 1, none⟩ = some (.int .i64 0) := blk_cell hb1 1
          go_wp2_with fail
          go_ret
          exact ⟨rfl, hd1, hg1⟩
  · have e : rC most rest fault = (0, rest, fault) := by simp [rC, hf]
    rw [e]
    clear e
    have hN := dN_any h
    have e : rN rest fault = (0, rest, fault) := by simp [rN, hf]
    rw [e] at hN
    clear e
    have j : (fault == 0) = false := by simp [hf]
    have j' : (fault != 0) = true := by simp [hf]
    go_enter Try.func38, Try.ntmps38
    go_wp2_with fail
    refine hN.mono ?_
    rintro e w1 ⟨rfl, hd1, hg1⟩
    obtain ⟨sv1, hb1, -⟩ := id hd1
    have d1 : w1.cell? ⟨g, 1, none⟩ = some (.int .i64 fault) := blk_cell hb1 1
    go_wp2_with fail
    go_ret
    exact ⟨rfl, hd1, hg1⟩

theorem dLeft_any (h : Ddr w lo g rest fault) :
    Calls Try.prog 22 #[.pointer (some ⟨g, 0, none⟩)] w fun e w' => e = .returned (.int .i64 (rest.length : Int)) ∧ w = w' := by
  obtain ⟨sv, hg, hlo, ⟨A, c, rfl, hc, hcm, hp⟩, hs⟩ := h
  have c0 : w.cell? ⟨g, 0, none⟩ = some (.slice A rest.length c) := blk_cell hg 0
  go_enter Try.func22, Try.ntmps22
  go_wp2
  go_ret
  exact ⟨rfl, rfl⟩

theorem dErr_any (h : Ddr w lo g rest fault) :
    Calls Try.prog 39 #[.pointer (some ⟨g, 0, none⟩)] w fun e w' => e = .returned (.int .i64 fault) ∧ w = w' := by
  obtain ⟨sv, hg, hlo, hr, hs⟩ := h
  have c1 : w.cell? ⟨g, 1, none⟩ = some (.int .i64 fault) := blk_cell hg 1
  go_enter Try.func39, Try.ntmps39
  go_wp2
  go_ret
  exact ⟨rfl, rfl⟩

set_option maxHeartbeats 400000 in
theorem dEnd_any (h : Ddr w lo g rest fault) :
    Calls Try.prog 24 #[.pointer (some ⟨g, 0, none⟩)] w fun e w' => e = .returned (.int .i64 (rEnd rest fault)) ∧ w = w' := by
  obtain ⟨sv, hg, hlo, ⟨A, c, rfl, hc, hcm, hp⟩, hs⟩ := h
  have c0 : w.cell? ⟨g, 0, none⟩ = some (.slice A rest.length c) := blk_cell hg 0
  have c1 : w.cell? ⟨g, 1, none⟩ = some (.int .i64 fault) := blk_cell hg 1
  unfold rEnd
  by_cases hf : fault = 0
  · subst hf
    by_cases hl : 0 < rest.length
    · have j : (0 : Int) < (rest.length : Int) := by omega
      rw [if_neg (by simp), if_pos hl]
      go_enter Try.func24, Try.ntmps24
      go_wp2
      go_ret
      exact ⟨rfl, rfl⟩
    · have j : ¬ (0 : Int) < (rest.length : Int) := by omega
      rw [if_neg (by simp), if_neg hl]
      go_enter Try.func24, Try.ntmps24
      go_wp2
      go_ret
      exact ⟨rfl, rfl⟩
  · have j : (fault == 0) = false := by simp [hf]
    rw [if_pos hf]
    go_enter Try.func24, Try.ntmps24
    go_wp2
    go_ret
    exact ⟨rfl, rfl⟩

set_option maxHeartbeats 400000 in
theorem open_dd (v : Value) (l : List UInt8) (w : World) (hr : Rd w w.heap.size v l) (hl : l.length ≤ 140737488355320) :
    Calls Try.prog 19 #[v] w fun e w' => ∃ g, e = .returned (.pointer (some ⟨g, 0, none⟩)) ∧ Ddr w' w.heap.size g l 0 ∧ Below w.heap.size w w' := by
  obtain ⟨i0, hi, hz, hsz, hby⟩ := info_parts Try.infoByte
  have hbe : Below w.heap.size w (w.alloc (.cells #[] 5)) := (Below.refl _ _).alloc (Nat.le_refl _) _
  go_enter Try.func19, Try.ntmps19
  go_wp2_with (at_builtin; refine wpList_append_rd rfl (.tmp 3) (.tmp 4) _ rfl i0 Try.underlying22 hi hz hsz hby rfl (own_empty w (Nat.le_refl _)) rfl (hr.below hbe) (by simp; omega) hbe.size ?_; intro v1 w1 ho1 hg1 _; have hb1 : Below w.heap.size w w1 := Own.below_grown hbe (own_empty w (Nat.le_refl _)) (Nat.le_refl _) hbe.size hg1; clear hg1; simp only [List.nil_append] at ho1; obtain ⟨A1, c1, rfl⟩ := ho1.form)
  go_ret
  refine ⟨_, rfl, ⟨_, heap_alloc_new _ _, hb1.size, (ho1.rd).alloc (Nat.le_refl _) _, fun k hk => (ho1.lt k hk).1⟩, hb1.alloc hb1.size _⟩
end Go.Proofs.Ytmmmbllbnfaboaa
