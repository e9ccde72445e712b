/- The walk of package limb's Bytes. -/
import Derived.Test.YthiacmpkbioahaaDoorLimbX
namespace Go.Proofs.YthiacmpkbioahaaDoor
open Go Go.RowKit

theorem be_get (n : Nat) : ∀ k j (h : j < (be n k).length), (be n k)[j] = UInt8.ofNat (n / 2 ^ (8 * (k - 1 - j)))
  | 0, j, h => by simp [be] at h
  | k + 1, 0, h => by simp [be]
  | k + 1, j + 1, h => by
    have ih := be_get n k j (by simpa [be] using h)
    simp only [be, List.getElem_cons_succ, ih]
    rw [show k + 1 - 1 - (j + 1) = k - 1 - j by omega]
theorem be_byte {x : U4} (hx : x.ok) (k : Nat) (hk : k < 32) : (be x.nat 32)[k]'(by rw [be_length]; omega) = UInt8.ofNat (x.at ((31 - k) / 8) / 256 ^ ((31 - k) % 8)) := by
  have h := at_byte hx ((31 - k) / 8) ((31 - k) % 8) (by omega) (Nat.mod_lt _ (by decide))
  rw [Nat.div_add_mod] at h
  rw [be_get, show 32 - 1 - k = 31 - k by omega, show 2 ^ (8 * (31 - k)) = 256 ^ (31 - k) by rw [Nat.pow_mul], at_eq]
  apply UInt8.toNat_inj.1
  simp only [UInt8.toNat_ofNat']
  exact h.symm
/-- the first k bytes are there, the others are 0 -/
def partB (n k : Nat) : List UInt8 := (be n 32).take k ++ List.replicate (32 - k) 0
theorem partB_set (n k : Nat) (hk : k < 32) : (partB n k).set k ((be n 32)[k]'(by rw [be_length]; omega)) = partB n (k + 1) := by
  have hl := be_length n 32
  unfold partB
  obtain ⟨m, hm⟩ : ∃ m, 32 - k = m + 1 := ⟨31 - k, by omega⟩
  have h0 : k - ((be n 32).take k).length = 0 := by rw [List.length_take]; omega
  rw [hm, show 32 - (k + 1) = m by omega, List.set_append_right _ _ (by rw [List.length_take]; omega), h0, List.replicate_succ, List.set_cons_zero, List.take_succ_eq_append_getElem (by omega), List.append_assoc]
  rfl
theorem partB_length (n k : Nat) (hk : k ≤ 32) : (partB n k).length = 32 := by
  unfold partB
  rw [List.length_append, List.length_take, be_length, List.length_replicate]; omega

set_option maxHeartbeats 2000000 in
theorem bytes_any (x : U4) (w : World) (hx : x.ok) : Calls Tryd.prog 28 #[x.val] w fun e w' => ∃ v', e = .returned v' ∧ Own w' w.heap.size v' (be x.nat 32) ∧ Below w.heap.size w w' := by
  have HX := Lib.hid hx
  have HBB := Lib.hid (fun k hk => be_byte hx k hk)
  clear hx
  obtain ⟨X, hX⟩ : ∃ X, X = x.cells := ⟨_, rfl⟩
  unfold U4.val
  rw [← hX]
  have CX := Lib.hid (fun (k : Nat) (h : k < 4) => hX ▸ x.cell_at h)
  clear hX
  have hblk := Blk.new w X
  have hbw : Below w.heap.size w (w.alloc (.cells X 24)) := (Below.refl _ _).alloc (Nat.le_refl _) _
  obtain ⟨i0, hi, hz, hsz, hby⟩ := info_parts Tryd.infoByte
  have hmk : ∀ W : World, (Instr.makeSlice 41 (.int .i64 32) (.int .i64 32)).run Tryd.prog W = .ok (.slice (some ⟨W.heap.size, 0, none⟩) 32 32) (W.alloc (.cells (bcells (List.replicate 32 0)).toArray 5)) := by
    intro W
    have h := run_make W 41 5 i0 (.int .u8 0) Tryd.underlying41 hi hz .i64 .i64 32 32 (by omega) (by omega) (by rw [hby]; omega) (by omega)
    rw [hsz] at h
    have e : madeCells (Value.int .u8 0).cells (Int.toNat 32 * 1) = (bcells (List.replicate 32 0)).toArray := by
      rw [show Int.toNat 32 * 1 = 32 from rfl]
      apply Array.ext'
      rw [show (Value.int IntKind.u8 0).cells = #[Value.int .u8 0] from rfl, toList_madeCells_one]
      rfl
    rw [e] at h
    exact h
  obtain ⟨N, hN⟩ : ∃ N, N = x.nat := ⟨_, rfl⟩
  have HN := Lib.hid hN
  clear hN
  go_enter Tryd.func28, Tryd.ntmps28
  go_wp2_with fail
  have hO := Own.made (B := (w.alloc (.cells X 24)).heap.size) (w.alloc (.cells X 24)) (List.replicate 32 0) (Nat.le_refl _) (by simp [maxLen])
  have hbw2 : Below (w.alloc (.cells X 24)).heap.size (w.alloc (.cells X 24)) ((w.alloc (.cells X 24)).alloc (.cells (bcells (List.replicate 32 0)).toArray 5)) := (Below.refl _ _).alloc (Nat.le_refl _) _
  have hze : (w.alloc (.cells X 24)).heap.size = w.heap.size + 1 := by simp
  rw [hze] at hO hbw2
  have hp0 : partB N 0 = List.replicate 32 0 := rfl
  generalize w.alloc (.cells X 24) = w0 at *
  have HZ := Lib.hid hze
  clear hze hmk
  go_loopw [9] (fun i wr => ∃ k : Nat, k ≤ 32 ∧ i = .int .i64 (k : Int) ∧ Own wr (w.heap.size + 1) (.slice (some ⟨w.heap.size + 1, 0, none⟩) 32 32) (partB N k) ∧ Below (w.heap.size + 1) w0 wr)
    (fun i _ => 32 - (intOf i).toNat)
  case atStart => exact ⟨0, Nat.zero_le _, rfl, by rw [hp0]; exact hO, hbw2⟩
  case round =>
    clear hO hbw2
    obtain ⟨k, hk, rfl, ho, hb⟩ := hrel
    have hpl := partB_length N k hk
    by_cases hlt : k < 32
    · have i1 : (k : Int) < 32 := by omega
      have j0 : (0 : Int) ≤ (k : Int) := by omega
      obtain ⟨gA, hgA, _, hgs, hcell, hfz, hput⟩ := ho.at_ hlt (by omega)
      injection hgA with hgA
      injection hgA with hgA _ _
      subst hgA
      have hps := partB_set N k hlt
      have hby2 := HBB.out k hlt
      rw [← HN.out] at hby2
      rw [hby2] at hps
      obtain ⟨low, hlow⟩ : ∃ low, low = 31 - k := ⟨_, rfl⟩
      rw [← hlow] at hps hby2
      have hlt4 : low / 8 < 4 := by omega
      have hc := ((hb.cell (p := ⟨w.heap.size, low / 8, none⟩) (by simp)).trans (blk_cell hblk (low / 8))).trans (CX.out (low / 8) hlt4)
      have ha := at_lt' HX.out (low / 8)
      generalize x.at (low / 8) = a at *
      have HS := Lib.hid (by have h := hput (UInt8.ofNat (a / 256 ^ (low % 8))); rw [hps] at h; exact h)
      have e31 : (31 : Int) - (k : Int) = (low : Int) := by omega
      have l0 : (0 : Int) ≤ (low : Int) := by omega
      have l32 : (low : Int) < 32 := by omega
      have HPL := Lib.hid hpl
      generalize (partB N k)[k]'_ = old at hcell
      clear hput hps hby2 hlow ho hpl
      go_wp2_with fail
      have hv : Value.int .u8 ((a : Int) / 2 ^ (8 * (low % 8)) % 256) = bval (UInt8.ofNat (a / 256 ^ (low % 8))) := by
        have h : (2 : Nat) ^ (8 * (low % 8)) = 256 ^ (low % 8) := by rw [Nat.pow_mul]
        unfold bval
        rw [UInt8.toNat_ofNat', ← h]
        congr 1
      rw [hv]
      refine ⟨⟨k + 1, by omega, rfl, HS.out, hb.setCell (Nat.le_refl _) _⟩, ?_⟩
      simp only [intOf]
      omega
    · have hk32 : k = 32 := by omega
      subst hk32
      have hfull : partB N 32 = be N 32 := by
        unfold partB
        rw [List.take_of_length_le (by rw [be_length]; omega)]
        simp
      rw [hfull, HN.out] at ho
      clear hfull hpl hp0
      go_wp2_with fail
      try go_ret
      refine ⟨_, rfl, Own.more ho (by omega), hbw.trans (hb.mono (by omega))⟩
end Go.Proofs.YthiacmpkbioahaaDoor
