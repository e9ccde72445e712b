/- The walks: the reader's bytes, texts, flags, counts. -/
import Derived.Test.YtmmmbllbnfaboaaWireRf
namespace Go.Proofs.Ytmmmbllbnfaboaa
open Go.RowKit

theorem rB_le (l : List UInt8) (f : Int) : (rB l f).1.length ≤ 65535 := by
  unfold rB
  split
  · simp
  · split
    · simp
    · split
      · simp
      · split
        · simp
        · simp; omega

theorem below_of_grownBy {w w' : World} {lo g : Nat} (h : w.grownBy w' (some g)) (hlo : lo ≤ g) (hg : g < w.heap.size) : Below lo w w' :=
  ⟨h.os, h.tape, h.output, h.size, fun k hk => h.block k (by omega) (by intro e; injection e with e; omega)⟩
theorem grownBy_trans {w w1 w2 : World} {row : Option Nat} (h : w.grownBy w1 row) (k : w1.grownBy w2 row) : w.grownBy w2 row :=
  ⟨k.os.trans h.os, k.tape.trans h.tape, k.output.trans h.output, Nat.le_trans h.size k.size, fun i hi hne => (k.block i (Nat.lt_of_lt_of_le hi h.size) hne).trans (h.block i hi hne)⟩
theorem grownBy_of_below {w w' : World} (h : Below w.heap.size w w') (row : Option Nat) : w.grownBy w' row := ⟨h.os, h.tape, h.output, h.size, fun i hi _ => h.block i hi⟩
theorem grownBy_below {w w1 w2 : World} {row : Option Nat} (h : w.grownBy w1 row) (k : Below w1.heap.size w1 w2) : w.grownBy w2 row := grownBy_trans h (grownBy_of_below k row)

variable {w : World} {lo g : Nat} {rest : List UInt8} {fault : Int}

set_option maxHeartbeats 400000 in
theorem rdB_any (h : Rdr w lo g rest fault) :
    Calls Try.prog 26 #[.pointer (some ⟨g, 0, none⟩)] w fun e w' => ∃ v, e = .returned v ∧ Own w' w.heap.size v (rB rest fault).1 ∧ Rdr w' lo g (rB rest fault).2.1 (rB rest fault).2.2 ∧ w.grownBy w' (some g) := by
  obtain ⟨i0, hi, hz, hsz, hby⟩ := info_parts Try.infoByte
  have hle := rB_le rest fault
  go_enter Try.func26, Try.ntmps26
  go_wp2_with fail
  refine (field_any h).mono ?_
  rintro e w1 ⟨v1, rfl, hr1, hrd1, hg1⟩
  have hs1 := hg1.size
  go_wp2_with (at_builtin; refine wpList_append_rd (B := w.heap.size) rfl (.const (.slice none 0 0)) (.tmp 4) _ rfl i0 Try.underlying22 hi hz hsz hby rfl (Own.nil _ _) rfl hr1 (by simp; omega) hs1 ?_; intro v3 w3 ho3 hg3 _)
  go_ret
  have hb3 : Below w1.heap.size w1 w3 := (Below.refl _ _).grown hg3 (Nat.le_refl _) (by simp [Act.eval, Value.ownBlock])
  exact ⟨_, rfl, by simpa using ho3, hrd1.below hb3, grownBy_below hg1 hb3⟩

set_option maxHeartbeats 400000 in
theorem rdT_any (h : Rdr w lo g rest fault) :
    Calls Try.prog 27 #[.pointer (some ⟨g, 0, none⟩)] w fun e w' => e = .returned (.string ⟨(rB rest fault).1.toArray⟩) ∧ Rdr w' lo g (rB rest fault).2.1 (rB rest fault).2.2 ∧ w.grownBy w' (some g) := by
  go_enter Try.func27, Try.ntmps27
  go_wp2_with fail
  refine (field_any h).mono ?_
  rintro e w1 ⟨v1, rfl, hr1, hrd1, hg1⟩
  have hcv := run_str (P := Try.prog) Try.underlying22 Try.underlying5 Try.isString hr1
  go_wp2_with fail
  go_ret
  exact ⟨rfl, hrd1, hg1⟩

/-- what a reader answers for a flag -/
def rF (l : List UInt8) (f : Int) : Bool × List UInt8 × Int :=
  if f ≠ 0 then (false, l, f) else match l with
  | [] => (false, l, 20)
  | x :: r => if 1 < x.toNat then (false, l, 21) else (x.toNat == 1, r, 0)

set_option maxHeartbeats 1000000 in
theorem rdF_any (h : Rdr w lo g rest fault) :
    Calls Try.prog 28 #[.pointer (some ⟨g, 0, none⟩)] w fun e w' => e = .returned (.bool (rF rest fault).1) ∧ Rdr w' lo g (rF rest fault).2.1 (rF rest fault).2.2 ∧ w.grownBy w' (some g) := by
  by_cases hf : fault = 0
  · have h0 := h
    obtain ⟨sv, hg, hlo, hr, hs⟩ := h
    obtain ⟨A, c, rfl, hc, hcm, hp⟩ := hr
    have c0 : w.cell? ⟨g, 0, none⟩ = some (.slice A rest.length c) := blk_cell hg 0
    have c1 : w.cell? ⟨g, 1, none⟩ = some (.int .i64 fault) := blk_cell hg 1
    have z0 : w.frozen? ⟨g, 0, none⟩ = false := blk_free hg 0
    have z1 : w.frozen? ⟨g, 1, none⟩ = false := blk_free hg 1
    rcases rest with _ | ⟨x, r⟩
    · have e : rF [] fault = (false, [], 20) := by simp [rF, hf]
      rw [e]
      clear e
      go_enter Try.func28, Try.ntmps28
      go_wp2_with fail
      refine (ready_any h0 true (by simp [hf])).mono ?_
      rintro e w' ⟨rfl, rfl⟩
      go_wp2_with fail
      go_ret
      exact ⟨rfl, h0.put1 20, grown_set _ _ _ _⟩
    · obtain ⟨b, o, rfl, hb, hcell⟩ := hp (by simp)
      have cx : w.cell? ⟨b, o, none⟩ = some (.int .u8 (x.toNat : Int)) := hcell 0 (by simp)
      simp only [List.length_cons] at c0 hc hg
      have i2 : ((r.length + 1 : Nat) : Int) ≤ (c : Int) := by omega
      have i3 : (1 : Int) ≤ ((r.length + 1 : Nat) : Int) := by omega
      have i4 : (((r.length + 1 : Nat) : Int) == 0) = false := by simp; omega
      have i5 : (0 : Int) < ((r.length + 1 : Nat) : Int) := by omega
      by_cases hx : 1 < x.toNat
      · have e : rF (x :: r) fault = (false, x :: r, 21) := by simp [rF, hf, hx]
        rw [e]
        clear e
        have j1 : (1 : Int) < (x.toNat : Int) := by omega
        go_enter Try.func28, Try.ntmps28
        go_wp2_with fail
        refine (ready_any h0 true (by simp [hf])).mono ?_
        rintro e w' ⟨rfl, rfl⟩
        go_wp2_with fail
        go_ret
        exact ⟨rfl, h0.put1 21, grown_set _ _ _ _⟩
      · have e : rF (x :: r) fault = (x.toNat == 1, r, 0) := by simp [rF, hf, hx]
        rw [e]
        clear e
        have j1 : (x.toNat : Int) ≤ 1 := by omega
        have j2 : ((x.toNat : Int) == 1) = (x.toNat == 1) := by rw [Bool.eq_iff_iff]; simp; omega
        go_enter Try.func28, Try.ntmps28
        go_wp2_with fail
        refine (ready_any h0 true (by simp [hf])).mono ?_
        rintro e w' ⟨rfl, rfl⟩
        go_wp2_with fail
        all_goals
          subst hf
          go_ret
          exact ⟨rfl, RdT.put0 hg hlo (rd_cut (rest := x :: r) (k := 1) hb hcell (by simp) (by simp) (by intro h; omega) (by omega) (by omega)) hs, grown_set _ _ _ _⟩
  · have e : rF rest fault = (false, rest, fault) := by simp [rF, hf]
    rw [e]
    clear e
    go_enter Try.func28, Try.ntmps28
    go_wp2_with fail
    refine (ready_any h false (by simp [hf])).mono ?_
    rintro e w' ⟨rfl, rfl⟩
    go_wp2_with fail
    go_ret
    exact ⟨rfl, h, World.grownBy.refl _ _⟩
end Go.Proofs.Ytmmmbllbnfaboaa
