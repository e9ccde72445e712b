
/- The walk of the document's Bytes. -/
import Derived.Test.YtgiciaeaibonbaaGreatLimbX0
namespace Go.Proofs.YtgiciaeaibonbaaGreat
set_option maxRecDepth 100000
open Go Go.RowKit

theorem byL_getD (n : Nat) : ∀ k i, i < k → (byL n k).getD i 0 = n / 256 ^ i % 256
  | 0, i, h => by omega
  | k + 1, i, h => by
    rw [byL, List.getD_eq_getElem?_getD]
    by_cases hi : i < k
    · rw [List.getElem?_append_left (by rw [byL_length]; exact hi), ← List.getD_eq_getElem?_getD]
      exact byL_getD n k i hi
    · obtain rfl : i = k := by omega
      rw [List.getElem?_append_right (by rw [byL_length]; exact Nat.le_refl _), byL_length, Nat.sub_self]
      rfl
theorem be_head (n k : Nat) : UInt8.ofNat (n / 256 ^ k % 256) = UInt8.ofNat (n / 2 ^ (8 * k)) := by
  rw [show 2 ^ (8 * k) = 256 ^ k by rw [Nat.pow_mul]]
  apply UInt8.toNat_inj.1
  simp only [UInt8.toNat_ofNat']
  omega
theorem byte_val (d : Nat) (h : d < 256) : (UInt8.ofNat d).toNat = d := by simp only [UInt8.toNat_ofNat']; omega

set_option maxHeartbeats 2000000 in
theorem rbytes_any (x : U4) (w : World) (hx : x.ok) : Calls Tryz.prog 70 #[x.val] w fun e w' => ∃ v', e = .returned v' ∧ Own w' w.heap.size v' (be x.nat 32) ∧ Below w.heap.size w w' := by
  obtain ⟨i0, hi, hz, hsz, hby⟩ := info_parts Tryz.infoByte
  have kl := (rlong_any x · hx)
  obtain ⟨N, hN⟩ : ∃ N, N = x.nat := ⟨_, rfl⟩
  rw [← hN] at kl ⊢
  clear hN
  have hblk := (LBlk.new w x.cells).all
  have hbw : Below w.heap.size w (w.alloc (.cells x.cells 34)) := (Below.refl _ _).alloc (Nat.le_refl _) _
  unfold U4.val at kl ⊢
  unfold U4.cells at kl hblk hbw ⊢
  have KL := Lib.hid kl
  obtain ⟨b0, b1, b2, b3⟩ := hblk
  clear kl hx
  go_enter Tryz.func70, Tryz.ntmps70
  go_wp2_with fail
  generalize w.alloc (.cells #[.int .u64 (x.a : Int), .int .u64 (x.b : Int), .int .u64 (x.c : Int), .int .u64 (x.d : Int)] 34) = w0 at *
  clear b0 b1 b2 b3
  refine (KL.out _).mono ?_
  rintro e w1 ⟨vx, rfl, hox, hb1⟩
  have hbw1 := below_chain hbw hbw.size hb1
  have hLn := byL_length N 32
  have HG := Lib.hid (byL_getD N 32)
  generalize byL N 32 = L at *
  obtain ⟨Ax, cx, rfl⟩ := hox.form
  obtain ⟨g, rfl, _, hgl, _⟩ := hox.at_ 0 (by omega)
  have HC : Hid (∀ j, j < 32 → w1.cell? ⟨g, j, none⟩ = some (.int .i64 ((N / 256 ^ j % 256 : Nat) : Int))) := Lib.hid fun j hj => by
    obtain ⟨g', e, _, _, h⟩ := hox.at_ j (by omega)
    injection e with e
    injection e with e _ _
    subst e
    rw [HG.out j hj] at h
    exact h
  rw [hLn]
  clear hox hLn HG hb1 hbw
  go_wp2_with fail
  go_loopw [3, 5] (fun ov i wr => ∃ (r : Nat) (dn : List UInt8), dn.length + r = 32 ∧ i = .int .i64 ((r : Int) - 1) ∧ dn ++ be N r = be N 32 ∧ Own wr w1.heap.size ov dn ∧ Below w1.heap.size w1 wr)
    (fun _ i _ => (intOf i + 1).toNat)
  case atStart => exact ⟨32, [], rfl, rfl, rfl, Own.nil _ _, Below.refl _ _⟩
  case round =>
    obtain ⟨r, dn, hdn, rfl, hbe, ho, hb⟩ := hrel
    have HD := Lib.hid hdn
    have HB := Lib.hid hbe
    have hr8 : r ≤ 32 := by omega
    clear hdn hbe
    by_cases h0 : r = 0
    · subst h0
      obtain ⟨Ao, co, rfl⟩ := ho.form
      go_wp2_with fail
      go_ret
      have := HB.out
      rw [show be N 0 = [] from rfl, List.append_nil] at this
      rw [← this]
      exact ⟨_, rfl, ho.more (by have := hbw1.size; omega), below_chain hbw1 hbw1.size hb⟩
    · obtain ⟨q, rfl⟩ : ∃ q, r = q + 1 := ⟨r - 1, by omega⟩
      have hdl : dn.length ≤ 31 := by have := HD.out; omega
      have hc := (hb.cell (p := ⟨g, q, none⟩) hgl).trans (HC.out q (by omega))
      have hdv : N / 256 ^ q % 256 < 256 := Nat.mod_lt _ (by decide)
      have HE := Lib.hid (be_head N q)
      generalize N / 256 ^ q % 256 = d at *
      have e1 : ((q + 1 : Nat) : Int) - 1 = (q : Int) := by omega
      have q0 : (0 : Int) ≤ (q : Int) := by omega
      have q32 : (q : Int) < 32 := by omega
      rw [e1]
      clear h0
      go_wp2_with (at_builtin; refine wpList_append_rd rfl (.tmp 12) (.tmp 18) _ rfl i0 Tryz.underlying44 hi hz hsz hby rfl (ho.alloc _) rfl (rd_lit wr _ [UInt8.ofNat d] 1 rfl (by simp [bcells, bval, byte_val d hdv]) (by simp [maxLen])) (by simp; omega) (by have := hb.size; simp; omega) ?_; intro v2 w2 ho2 hg2 _)
      have hb2 : Below w1.heap.size w1 w2 := Own.below_grown (hb.alloc (by have := hb.size; omega) _) (ho.alloc _) (Nat.le_refl _) (by have := hb.size; simp; omega) hg2
      clear hg2 ho hb
      go_roundw
      case rel => exact ⟨q, dn ++ [UInt8.ofNat d], by have := HD.out; simp; omega, by go_num, by have := HB.out; rw [← this, List.append_assoc, HE.out]; rfl, ho2, hb2⟩
      case measure => first | (simp [intOf]; done) | (simp [intOf]; omega)
end Go.Proofs.YtgiciaeaibonbaaGreat
