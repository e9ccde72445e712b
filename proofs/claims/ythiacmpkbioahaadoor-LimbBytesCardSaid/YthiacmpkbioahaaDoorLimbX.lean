/- The walk of the document's long: a number as its 32 bytes. -/
import Derived.Test.YthiacmpkbioahaaDoorLimbA
import Derived.Test.YthiacmpkbioahaaDoorLimbI
import Derived.Test.YthiacmpkbioahaaDoorLimbW
namespace Go.Proofs.YthiacmpkbioahaaDoor
open Go Go.RowKit

theorem at_eq (x : U4) (i : Nat) : x.at i = x.at' i := by
  unfold U4.at U4.at'
  rfl
theorem and255 (n : Nat) (h : n < 18446744073709551616) : bits .and .u64 (n : Int) 255 = ((n % 256 : Nat) : Int) := by
  have h1 : (BitVec.ofInt 64 (n : Int)).toNat = n := by
    rw [BitVec.ofInt_natCast, BitVec.toNat_ofNat]; exact Nat.mod_eq_of_lt (by omega)
  show IntKind.u64.wrap ((BitVec.ofInt 64 (n : Int) &&& BitVec.ofInt 64 255).toNat : Int) = _
  rw [BitVec.toNat_and, h1, show (BitVec.ofInt 64 255).toNat = 2 ^ 8 - 1 from rfl, Nat.and_two_pow_sub_one_eq_mod, IntKind.wrap_u64]
  omega
theorem byte_at (a k : Nat) (h : a < 18446744073709551616) : wrap64 (bits .and .u64 ((a : Int) / 2 ^ (8 * k)) 255) = ((a / 256 ^ k % 256 : Nat) : Int) := by
  have e : (a : Int) / 2 ^ (8 * k) = ((a / 256 ^ k : Nat) : Int) := by
    rw [show 256 ^ k = 2 ^ (8 * k) by rw [Nat.pow_mul]]
    push_cast
    rfl
  rw [e, and255 _ (Nat.lt_of_le_of_lt (Nat.div_le_self _ _) h)]
  generalize a / 256 ^ k = m
  have : m % 256 < 256 := Nat.mod_lt _ (by decide)
  unfold wrap64
  omega
theorem at_lt' {x : U4} (hx : x.ok) (k : Nat) : x.at k < 18446744073709551616 := by
  unfold U4.at
  split
  · exact hx.1
  · exact hx.2.1
  · exact hx.2.2.1
  · exact hx.2.2.2
theorem OwnI.zero (w : World) (B : Nat) (n : Nat) : OwnI w B (.slice none 0 0) (byL n 0) := OwnI.nil w B

set_option maxHeartbeats 2000000 in
theorem rlong_any (x : U4) (w : World) (hx : x.ok) : Calls Tryd.prog 34 #[x.val] w fun e w' => ∃ v', e = .returned v' ∧ OwnI w' w.heap.size v' (byL x.nat 32) ∧ Below w.heap.size w w' := by
  obtain ⟨i0, hi, hz, hsz, hby⟩ := info_parts Tryd.infoInt
  have HX := Lib.hid hx
  have HAB := Lib.hid (fun i k hi hk => at_byte hx i k hi hk)
  clear hx
  obtain ⟨X, hX⟩ : ∃ X, X = x.cells := ⟨_, rfl⟩
  unfold U4.val
  rw [← hX]
  have CX := Lib.hid (fun (k : Nat) (h : k < 4) => hX ▸ x.cell_at h)
  clear hX
  have hblk := Blk.new w X
  have hbw : Below w.heap.size w (w.alloc (.cells X 24)) := (Below.refl _ _).alloc (Nat.le_refl _) _
  go_enter Tryd.func34, Tryd.ntmps34
  go_wp2_with fail
  generalize w.alloc (.cells X 24) = w0 at *
  obtain ⟨N, hN⟩ : ∃ N, N = x.nat := ⟨_, rfl⟩
  rw [← hN] at HAB
  have HN := Lib.hid hN
  clear hN
  go_loopw [3, 4] (fun ov i wr => ∃ k : Nat, k ≤ 4 ∧ i = .int .i64 (k : Int) ∧ OwnI wr w0.heap.size ov (byL N (8 * k)) ∧ Below w0.heap.size w0 wr)
    (fun _ i _ => 4 - (intOf i).toNat)
  case atStart => exact ⟨0, Nat.zero_le _, rfl, OwnI.zero _ _ N, Below.refl _ _⟩
  case round =>
    rename World => wo
    obtain ⟨i, hi4, rfl, ho, hb⟩ := hrel
    by_cases hlt : i < 4
    · have i1 : (i : Int) < 4 := by omega
      have i0' : (0 : Int) ≤ (i : Int) := by omega
      go_wp2_with fail
      go_loopw [3, 5] (fun ov j wr => ∃ k : Nat, k ≤ 8 ∧ j = .int .i64 (k : Int) ∧ OwnI wr w0.heap.size ov (byL N (8 * i + k)) ∧ Below w0.heap.size w0 wr)
        (fun _ j _ => 8 - (intOf j).toNat)
      case atStart => exact ⟨0, Nat.zero_le _, rfl, ho, hb⟩
      case round =>
        clear ho hb
        obtain ⟨k, hk8, rfl, ho, hb⟩ := hrel
        by_cases hltk : k < 8
        · have j1 : (k : Int) < 8 := by omega
          have j0 : (0 : Int) ≤ (k : Int) := by omega
          have hS : Hid (byL N (8 * i + (k + 1)) = byL N (8 * i + k) ++ [x.at i / 256 ^ k % 256]) := Lib.hid (by rw [at_eq, HAB.out i k hlt hltk]; rfl)
          have hc := ((hb.cell (p := ⟨w.heap.size, i, none⟩) hblk.lt).trans (blk_cell hblk i)).trans (CX.out i hlt)
          have hl1 : (byL N (8 * i + k)).length ≤ 1000 := by rw [byL_length]; omega
          generalize byL N (8 * i + k) = L at *
          have ha := at_lt' HX.out i
          generalize x.at i = a at *
          have HV := Lib.hid (byte_at a k ha)
          obtain ⟨Ao, co, rfl⟩ := ho.form
          have hbx : Below wr.heap.size wr (wr.alloc (.cells #[.int .i64 (wrap64 (bits .and .u64 ((a : Int) / 2 ^ (8 * k)) 255))] 3)) := (Below.refl _ _).alloc (Nat.le_refl _) _
          have hc1 : Hid ((wr.alloc (.cells #[.int .i64 (wrap64 (bits .and .u64 ((a : Int) / 2 ^ (8 * k)) 255))] 3)).cell? ⟨wr.heap.size, 0, none⟩ = some (.int .i64 ((a / 256 ^ k % 256 : Nat) : Int))) := Lib.hid (by rw [HV.out]; exact blk_cell (heap_alloc_new wr _) 0)
          have hy1 := below_chain hb hb.size hbx
          have ho1 := ho.up hbx
          clear hbx ho hb ha
          go_wp2_with (at_builtin; refine wpList_append_int rfl (.tmp 14) (.tmp 24) _ rfl i0 Tryd.underlying51 hi hz hsz hby rfl ho1 rfl hc1.out hl1 hy1.size ?_; intro v6 w6 ho6 hg6; have hy6 := ho1.below hy1 hy1.size hg6)
          go_roundw
          case rel => exact ⟨k + 1, by omega, by go_num, by rw [hS.out]; exact ho6, hy6⟩
          case measure => simp [intOf]; omega
        · have j1 : ¬ (k : Int) < 8 := by omega
          obtain rfl : k = 8 := by omega
          go_wp2_with fail
          go_roundw
          case rel => exact ⟨i + 1, by omega, by go_num, by rw [show 8 * (i + 1) = 8 * i + 8 by omega]; exact ho, hb⟩
          case measure => simp [intOf]; omega
    · have i1 : ¬ (i : Int) < 4 := by omega
      obtain rfl : i = 4 := by omega
      replace ho : OwnI wo w0.heap.size u3 (byL N 32) := ho
      obtain ⟨Ao, co, rfl⟩ := ho.form
      go_wp2_with fail
      go_ret
      rw [← HN.out]
      exact ⟨_, rfl, ho.more hbw.size, below_chain hbw hbw.size hb⟩
end Go.Proofs.YthiacmpkbioahaaDoor
