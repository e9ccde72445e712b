/- The walk of the law on readers. -/
import Derived.Test.YtmmmbllbnfaboaaWireP
import Derived.Test.YtmmmbllbnfaboaaOps
namespace Go.Proofs.Ytmmmbllbnfaboaa
open Go.RowKit

set_option maxRecDepth 100000 in
set_option maxHeartbeats 4000000 in
theorem reads_walk (bv sv : Value) (l : List UInt8) (ops : List OpD) (w : World) (hb : Rd w w.heap.size bv l) (ho : OpsAt w w.heap.size sv ops) (hl : l.length ≤ 140737488355320) :
    Calls Try.prog 4 #[bv, sv] w fun e w' => e = .returned (.bool true) ∧ Below w.heap.size w w' := by
  obtain ⟨i0, hi, hz, hsz, hby⟩ := info_parts Try.infoByte
  obtain ⟨A, c, rfl⟩ := hb.form
  obtain ⟨A', c', rfl, hc', hcm', hp'⟩ := id ho
  have hbe : Below w.heap.size w (w.alloc (.cells #[] 5)) := (Below.refl _ _).alloc (Nat.le_refl _) _
  have hemp := own_empty w (Nat.le_refl _)
  go_enter Try.func4, Try.ntmps4
  go_wp2_with (at_builtin; refine wpList_append_rd rfl (.tmp 11) (.tmp 12) _ rfl i0 Try.underlying22 hi hz hsz hby rfl hemp rfl (hb.below hbe) (by simp; omega) hbe.size ?_; intro v1 w1 ho1 hg1 _; have hb1 : Below w.heap.size w w1 := Own.below_grown hbe hemp (Nat.le_refl _) hbe.size hg1; clear hg1; simp only [List.nil_append] at ho1; obtain ⟨A1, c1, rfl⟩ := ho1.form)
  have hlt1 := ho1.lt
  have hs01 := hb1.size
  refine (open_rd _ l w1 ho1.rd hl).mono ?_
  rintro e w2 ⟨g, rfl, hr2, hb2⟩
  have hB2 := below_chain hb1 hb1.size hb2
  go_wp2_with fail
  refine (open_dd _ l w2 (hb.up (Nat.le_refl _) hB2) hl).mono ?_
  rintro e w3 ⟨g2, rfl, hd3, hb3⟩
  have hr3 := hr2.below hb3
  have ho3 := (ho1.below hb2).below hb3
  have hB3 := below_chain hB2 hB2.size hb3
  go_wp2_with fail
  refine (fixed_any w3).mono ?_
  rintro e w4 ⟨rfl, hb4⟩
  have hr4 := hr3.below hb4
  have hd4 := hd3.below hb4
  have ho4 := ho3.below hb4
  have hB4 := below_chain hB3 hB3.size hb4
  have h12 : g < w2.heap.size := hr2.lt
  clear ho1 hb1 hb2 hr2 hb3 hr3 ho3 hB2 hB3 hd3 hb4 hbe hemp
  have hll : (l.length : Int) ≤ 140737488355320 := by omega
  have hol : (ops.length : Int) ≤ 9223372036854775807 := by unfold maxLen at hcm'; omega
  obtain ⟨B1, hB1⟩ : ∃ B1, B1 = w1.heap.size := ⟨_, rfl⟩
  obtain ⟨B2, hB2e⟩ : ∃ B2, B2 = w2.heap.size := ⟨_, rfl⟩
  rw [← hB1] at hlt1 hr4 hs01
  rw [← hB2e] at hd4 h12
  have hs1 := hB4.size
  clear hB1 hB2e
  go_wp2
  go_loopw [26] (fun i wr => ∃ (k : Nat) (l' : List UInt8), k ≤ l.length ∧ i = .int .i64 (k : Int) ∧ l'.length = l.length ∧ Own wr w.heap.size (.slice A1 l.length c1) l' ∧ Rdr wr B1 g l 0 ∧ Ddr wr B2 g2 l 0 ∧ Below w.heap.size w wr)
    (fun i _ => l.length - (intOf i).toNat)
  case atStart => exact ⟨0, l, Nat.zero_le _, rfl, rfl, ho4, hr4, hd4, hB4⟩
  case round =>
    obtain ⟨k, l', hk, rfl, hl', ho, hr, hd, hbw⟩ := hrel
    have HL := Lib.hid hl'
    by_cases hlt : k < l.length
    · obtain ⟨gA, rfl, _, hgs, hcell, hfz, hput⟩ := ho.at_ hlt (by omega)
      have hgA := hlt1 gA rfl
      have i1 : (0 : Int) ≤ (k : Int) := by omega
      have i2 : (k : Int) < (l.length : Int) := by omega
      have hx := bits_xor_byte (l'[k]'(by have := HL.out; omega)) 85
      rw [show ((85 : UInt8).toNat : Int) = 85 from rfl] at hx
      have hput' := hput ((l'[k]'(by have := HL.out; omega)) ^^^ 85)
      unfold bval at hput'
      have HP := Lib.hid hput'
      clear hput hput'
      go_wp2
      go_roundw
      case rel => exact ⟨k + 1, _, by omega, by go_num, by rw [List.length_set]; exact HL.out, HP.out, hr.grown (grown_set _ _ _ _) (.inl hgA.2), hd.grown (grown_set _ _ _ _) (.inl (by have := hr.from_; omega)), hbw.setCell (by exact hgA.1) _⟩
      case measure => simp [intOf]; omega
    · have hk2 : ¬ (k : Int) < (l.length : Int) := by omega
      go_wp2
      clear ho hlt1 hlt hk2
      obtain ⟨wq, rfl⟩ : ∃ wq : World, wq = wr := ⟨_, rfl⟩
      go_loopw [38] (fun i wr => ∃ (j : Nat) (rest : List UInt8) (fault : Int), j ≤ ops.length ∧ i = .int .i64 (j : Int) ∧ Rdr wr B1 g rest fault ∧ Ddr wr B2 g2 rest fault ∧ Below w.heap.size w wr)
        (fun i _ => ops.length - (intOf i).toNat)
      case atStart => exact ⟨0, l, 0, Nat.zero_le _, rfl, hr, hd, hbw⟩
      case round =>
        clear hr hd hbw
        obtain ⟨j, rest, fault, hj, rfl, hr, hd, hbw⟩ := hrel
        by_cases hlt : j < ops.length
        · obtain ⟨b, o, rfl, hbb, hat⟩ := hp' (by omega)
          obtain ⟨xv, q0, q1, q2, q3, q4, hxr⟩ := (hat j hlt).below hbb hbw
          obtain ⟨A3, c3, rfl⟩ := hxr.form
          clear hat hp'
          obtain ⟨x, hx⟩ : ∃ x, x = ops[j] := ⟨_, rfl⟩
          rw [← hx] at q0 q1 q2 q3 q4 hxr
          clear hx
          have i1 : (0 : Int) ≤ (j : Int) := by omega
          have i2 : (j : Int) < (ops.length : Int) := by omega
          go_wp2_with fail
          have hba : Below wr.heap.size wr (wr.alloc (.cells #[.int .i64 x.kind, .int .i64 x.most, .int .u64 x.num, .slice A3 x.bytes.length c3, .bool x.yes] 25)) := (Below.refl _ _).alloc (Nat.le_refl _) _
          refine (play_walk (hr.below hba) (hd.below hba) h12 x.kind x.most x.num _ x.yes ⟨_, _, _, rfl⟩ x.m1 x.m0).mono ?_
          rintro e w5 ⟨rfl, rest', fault', hr', hd', hb'⟩
          have hbw5 := (below_chain hbw hbw.size hba).trans (hb'.mono hs01)
          clear hr hd hbw hba hb' q0 q1 q2 q3 q4 hxr
          go_wp2_with fail
          go_roundw
          case rel => exact ⟨j + 1, rest', fault', by omega, by go_num, hr', hd', hbw5⟩
          case measure => simp [intOf]; omega
        · have hj2 : ¬ (j : Int) < (ops.length : Int) := by omega
          go_wp2_with fail
          refine (rdLeft_any hr).mono ?_
          rintro e w5 ⟨rfl, rfl⟩
          go_wp2_with fail
          refine (dLeft_any hd).mono ?_
          rintro e w5 ⟨rfl, rfl⟩
          go_wp2_with fail
          refine (rdEnd_any hr).mono ?_
          rintro e w5 ⟨rfl, rfl⟩
          go_wp2_with fail
          refine (dEnd_any hd).mono ?_
          rintro e w5 ⟨rfl, rfl⟩
          go_wp2_with fail
          go_ret
          exact ⟨rfl, hbw⟩
end Go.Proofs.Ytmmmbllbnfaboaa
