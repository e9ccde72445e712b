/- The walks: the reader's bytes, texts, flags, counts. -/
import Derived.Test.YtmmmbllbnfaboaaWireRe
namespace Go.Proofs.Ytmmmbllbnfaboaa
open Go.RowKit

variable {w : World} {lo g : Nat} {rest : List UInt8} {fault : Int}

/-- what a reader answers for bytes, what is left, the fault -/
def rB (l : List UInt8) (f : Int) : List UInt8 × List UInt8 × Int :=
  if f ≠ 0 then ([], l, f) else if l.length < 4 then ([], l, 20) else if 65535 < beVal (l.take 4) then ([], l, 22)
  else if l.length < 4 + beVal (l.take 4) then ([], l, 20) else ((l.drop 4).take (beVal (l.take 4)), l.drop (4 + beVal (l.take 4)), 0)

set_option maxHeartbeats 1000000 in
theorem field_any (h : Rdr w lo g rest fault) :
    Calls Try.prog 42 #[.pointer (some ⟨g, 0, none⟩)] w fun e w' => ∃ v, e = .returned v ∧ Rd w' g v (rB rest fault).1 ∧ Rdr w' lo g (rB rest fault).2.1 (rB rest fault).2.2 ∧ w.grownBy w' (some g) := by
  by_cases hf : fault = 0
  · have h0 := h
    obtain ⟨sv, hg, hlo, hr, hs⟩ := h
    obtain ⟨A, c, rfl, hc, hcm, hp⟩ := hr
    have c0 : w.cell? ⟨g, 0, none⟩ = some (.slice A rest.length c) := blk_cell hg 0
    have c1 : w.cell? ⟨g, 1, none⟩ = some (.int .i64 fault) := blk_cell hg 1
    have z0 : w.frozen? ⟨g, 0, none⟩ = false := blk_free hg 0
    have z1 : w.frozen? ⟨g, 1, none⟩ = false := blk_free hg 1
    by_cases hl : rest.length < 4
    · have e : rB rest fault = ([], rest, 20) := by simp [rB, hf, hl]
      rw [e]
      clear e
      have i1 : (rest.length : Int) < 4 := by omega
      go_enter Try.func42, Try.ntmps42
      go_wp2_with fail
      refine (ready_any h0 true (by simp [hf])).mono ?_
      rintro e w' ⟨rfl, rfl⟩
      go_wp2_with fail
      go_ret
      exact ⟨_, rfl, Rd.nil _ _, h0.put1 20, grown_set _ _ _ _⟩
    · obtain ⟨b, o, rfl, hb, hcell⟩ := hp (by omega)
      have i1 : (4 : Int) ≤ (rest.length : Int) := by omega
      have i2 : (rest.length : Int) ≤ (c : Int) := by omega
      have hbv : beVal (rest.take 4) < 256 ^ 4 := beVal_lt8 _ 4 (by simp; omega)
      have hbound : (beVal (rest.take 4) : Int) ≤ 4294967295 := by omega
      by_cases hn : 65535 < beVal (rest.take 4)
      · have e : rB rest fault = ([], rest, 22) := by simp [rB, hf, hl, hn]
        rw [e]
        clear e
        have i3 : (65535 : Int) < (beVal (rest.take 4) : Int) := by omega
        go_enter Try.func42, Try.ntmps42
        go_wp2_with fail
        refine (ready_any h0 true (by simp [hf])).mono ?_
        rintro e w' ⟨rfl, rfl⟩
        go_wp2_with fail
        refine (high_any h0 4 (by omega) (by omega)).mono ?_
        rintro e w' ⟨rfl, rfl⟩
        go_wp2_with fail
        go_ret
        exact ⟨_, rfl, Rd.nil _ _, h0.put1 22, grown_set _ _ _ _⟩
      · by_cases hm : rest.length < 4 + beVal (rest.take 4)
        · have e : rB rest fault = ([], rest, 20) := by simp [rB, hf, hl, hn, hm]
          rw [e]
          clear e
          have i3 : (beVal (rest.take 4) : Int) ≤ 65535 := by omega
          have i4 : (rest.length : Int) < 4 + (beVal (rest.take 4) : Int) := by omega
          go_enter Try.func42, Try.ntmps42
          go_wp2_with fail
          refine (ready_any h0 true (by simp [hf])).mono ?_
          rintro e w' ⟨rfl, rfl⟩
          go_wp2_with fail
          refine (high_any h0 4 (by omega) (by omega)).mono ?_
          rintro e w' ⟨rfl, rfl⟩
          go_wp2_with fail
          go_ret
          exact ⟨_, rfl, Rd.nil _ _, h0.put1 20, grown_set _ _ _ _⟩
        · have e : rB rest fault = ((rest.drop 4).take (beVal (rest.take 4)), rest.drop (4 + beVal (rest.take 4)), 0) := by simp [rB, hf, hl, hn, hm]
          rw [e]
          clear e
          have i3 : (beVal (rest.take 4) : Int) ≤ 65535 := by omega
          have i4 : 4 + (beVal (rest.take 4) : Int) ≤ (rest.length : Int) := by omega
          have i5 : 4 + (beVal (rest.take 4) : Int) ≤ (c : Int) := by omega
          obtain ⟨n, hn'⟩ : ∃ n, n = beVal (rest.take 4) := ⟨_, rfl⟩
          rw [← hn'] at i3 i4 i5 hbv hbound ⊢
          have HN := Lib.hid hn'
          obtain ⟨p, hp1⟩ : ∃ p, p = (rest.drop 4).take n := ⟨_, rfl⟩
          obtain ⟨q, hq1⟩ : ∃ q, q = rest.drop (4 + n) := ⟨_, rfl⟩
          rw [← hp1, ← hq1]
          have HP := Lib.hid hp1
          have HQ := Lib.hid hq1
          clear hp1 hq1
          have hm' : 4 + n ≤ rest.length := by omega
          clear hn' hm hn
          go_enter Try.func42, Try.ntmps42
          go_wp2_with fail
          refine (ready_any h0 true (by simp [hf])).mono ?_
          rintro e w' ⟨rfl, rfl⟩
          go_wp2_with fail
          refine (high_any h0 4 (by omega) (by omega)).mono ?_
          rintro e w' ⟨rfl, rfl⟩
          rw [← HN.out]
          go_wp2_with fail
          all_goals
            subst hf
            go_ret
            refine ⟨_, rfl, ?_, ?_, grown_set _ _ _ _⟩
            · rw [HP.out]
              exact Rd.set (rd_piece hb hcell (by omega) (by omega) (by omega) (by omega) (by omega)) _ _
            · rw [HQ.out]
              exact RdT.put0 hg hlo (rd_cut hb hcell (by omega) (by omega) (by omega) (by omega) (by omega)) hs
  · have e : rB rest fault = ([], rest, fault) := by simp [rB, hf]
    rw [e]
    clear e
    go_enter Try.func42, Try.ntmps42
    go_wp2_with fail
    refine (ready_any h false (by simp [hf])).mono ?_
    rintro e w' ⟨rfl, rfl⟩
    go_wp2_with fail
    go_ret
    exact ⟨_, rfl, Rd.nil _ _, h, World.grownBy.refl _ _⟩
end Go.Proofs.Ytmmmbllbnfaboaa
