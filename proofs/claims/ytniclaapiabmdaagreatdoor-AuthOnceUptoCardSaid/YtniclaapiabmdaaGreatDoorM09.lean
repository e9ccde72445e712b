/- Texts joined: LimbN1, BankA0, BankD, BankDs, Sto1. -/
import Derived.Test.YtniclaapiabmdaaGreatDoorM01
import Derived.Deep.Onto
import Derived.Test.YtniclaapiabmdaaGreatDoorM06
import Derived.Laws.Bits64b
import Derived.Test.YtniclaapiabmdaaGreatDoorM07
import Derived.Test.YtniclaapiabmdaaGreatDoorM08
import Derived.Deep.RegionHeldLaw
import Derived.Lib.Strings
import Derived.Lib.Slices
namespace Go.Proofs.YtniclaapiabmdaaGreatDoor
set_option maxRecDepth 100000
open Go Go.RowKit

def intV (d : Nat) : Value := .int .i64 (d : Int)
def dcells (p : List Nat) : List Value := p.map intV
section
variable {w w' : World} {B B' b k : Nat} {t : TypeId} {v : Value} {D : List Nat}
/-- a row of numbers, of the call's own from B on -/
def OwnI (w : World) (B : Nat) (v : Value) (D : List Nat) : Prop := w.ownsRow B 3 1 v D.length (dcells D)
theorem OwnI.form (h : OwnI w B v D) : ∃ A c, v = .slice A D.length c := by
  rcases h.2 with ⟨rfl, h0⟩ | ⟨g, cap, cur, rfl, _⟩
  · exact ⟨none, 0, by rw [h0]⟩
  · exact ⟨_, _, rfl⟩
theorem OwnI.nil (w : World) (B : Nat) : OwnI w B (.slice none 0 0) [] := World.ownsRow_nil w B _ 1
theorem OwnI.more (h : OwnI w B v D) (hB : B' ≤ B) : OwnI w B' v D := World.ownsRow.mono h hB
theorem OwnI.up (h : OwnI w B v D) (hb : Below w.heap.size w w') : OwnI w' B v D := by
  refine ⟨h.1, ?_⟩
  rcases h.2 with h0 | ⟨g, cap, cur, hv, hB, hg, rest⟩
  · exact .inl h0
  · exact .inr ⟨g, cap, cur, hv, hB, (hb.block g (Array.getElem?_eq_some_iff.1 hg).1).trans hg, rest⟩
theorem OwnI.at_ {A : Option Addr} {n c : Nat} (h : OwnI w B (.slice A n c) D) (j : Nat) (hj : j < D.length) : ∃ g, A = some ⟨g, 0, none⟩ ∧ n = D.length ∧ g < w.heap.size ∧ w.cell? ⟨g, j, none⟩ = some (.int .i64 (D.getD j 0 : Int)) := by
  rcases h.2 with ⟨_, h0⟩ | ⟨g, cap, cur, hv, hb, hg, hn, hm, hs, ht⟩
  · omega
  · injection hv with h1 h2 h3
    subst h1; subst h2; subst h3
    refine ⟨g, rfl, rfl, (Array.getElem?_eq_some_iff.1 hg).1, ?_⟩
    have hx : (dcells D)[j]? = some (.int .i64 (D.getD j 0 : Int)) := by simp [dcells, intV, hj, List.getD_eq_getElem?_getD]
    rw [cell_of_row w g _ cur _ (0, 0) hg]
    rw [← ht, List.getElem?_take] at hx
    split at hx
    · simpa using hx
    · cases hx
/-- a number of it is written -/
theorem OwnI.put {A : Option Addr} {n c k : Nat} (h : OwnI w B (.slice A n c) D) (hk : k < D.length) :
    ∃ g, A = some ⟨g, 0, none⟩ ∧ B ≤ g ∧ g < w.heap.size ∧ w.cell? ⟨g, k, none⟩ = some (.int .i64 (D.getD k 0 : Int)) ∧ w.frozen? ⟨g, k, none⟩ = false ∧
      ∀ x : Nat, OwnI (w.setCell ⟨g, k, none⟩ (.int .i64 (x : Int))) B (.slice A n c) (D.set k x) := by
  obtain ⟨g, rfl, hn, hlt, hcell⟩ := h.at_ k hk
  have hlt2 := World.ownsRow.lt h g rfl
  subst hn
  refine ⟨g, rfl, hlt2.1, hlt, hcell, World.ownsRow.frozenAt (h : w.ownsRow B _ 1 _ _ _) k, fun x => ?_⟩
  have h2 := World.ownsRow.stored (h : w.ownsRow B _ 1 _ _ _) k (.int .i64 (x : Int))
  unfold OwnI
  rw [List.length_set]
  have e : dcells (D.set k x) = (dcells D).set k (.int .i64 (x : Int)) := by simp [dcells, List.map_set, intV]
  rw [e]
  exact h2.1
theorem OwnI.grown (h : OwnI w B v D) {row : Option Nat} (hg : w.grownBy w' row) (hne : v.ownBlock = none ∨ v.ownBlock ≠ row) : OwnI w' B v D := World.ownsRow.kept h hg hne
theorem OwnI.drew (h : OwnI w B v D) : OwnI w.drew B v D := h
theorem OwnI.drewN (h : OwnI w B v D) (q : Nat) : OwnI (w.drewN q) B v D := h
theorem OwnI.alloc (h : OwnI w B v D) (o : Obj) : OwnI (w.alloc o) B v D := World.ownsRow.alloc h o
theorem OwnI.lt (h : OwnI w B v D) : ∀ k, v.ownBlock = some k → B ≤ k ∧ k < w.heap.size := World.ownsRow.lt h
theorem OwnI.below (h : OwnI w B v D) {w0 : World} (h0 : Below B w0 w) (hB : B ≤ w.heap.size) (hg : w.grownBy w' v.ownBlock) : Below B w0 w' := h0.grown hg hB fun k hk => (h.lt k hk).1

variable {P : Program}
end
end Go.Proofs.YtniclaapiabmdaaGreatDoor
namespace Go.Proofs.YtniclaapiabmdaaGreatDoor
set_option maxRecDepth 100000
open Go Go.RowKit

theorem at_eq (x : U4) (i : Nat) : x.at i = x.at' i := by
  unfold U4.at U4.at'
  rfl
theorem at_lt' {x : U4} (hx : x.ok) (k : Nat) : x.at k < 18446744073709551616 := by
  unfold U4.at
  split
  · exact hx.1
  · exact hx.2.1
  · exact hx.2.2.1
  · exact hx.2.2.2
theorem OwnI.zero (w : World) (B : Nat) (n : Nat) : OwnI w B (.slice none 0 0) (byL n 0) := OwnI.nil w B

end Go.Proofs.YtniclaapiabmdaaGreatDoor
namespace Go.Proofs.YtniclaapiabmdaaGreatDoor
set_option maxRecDepth 100000
open Go Go.RowKit

theorem cells4 {a b c d a' b' c' d' : Nat} (h1 : a = a') (h2 : b = b') (h3 : c = c') (h4 : d = d') : (#[.int .u64 (a : Int), .int .u64 (b : Int), .int .u64 (c : Int), .int .u64 (d : Int)] : Array Value) = #[.int .u64 (a' : Int), .int .u64 (b' : Int), .int .u64 (c' : Int), .int .u64 (d' : Int)] := by
  subst h1; subst h2; subst h3; subst h4; rfl
theorem two (w : World) (X Y : Array Value) : LBlk ((w.alloc (.cells X 25)).alloc (.cells Y 25)) w.heap.size X ∧
    LBlk ((w.alloc (.cells X 25)).alloc (.cells Y 25)) (w.heap.size + 1) Y ∧
    Below w.heap.size w ((w.alloc (.cells X 25)).alloc (.cells Y 25)) := by
  refine ⟨(LBlk.new w X).alloc _, ?_, ((Below.refl _ _).alloc (Nat.le_refl _) _).alloc (by simp) _⟩
  have := LBlk.new (w.alloc (.cells X 25)) Y
  simpa using this

end Go.Proofs.YtniclaapiabmdaaGreatDoor
namespace Go.Proofs.YtniclaapiabmdaaGreatDoor
set_option maxRecDepth 100000
open Go Go.RowKit

theorem be_get (n : Nat) : ∀ k j (h : j < (be n k).length), (be n k)[j] = UInt8.ofNat (n / 2 ^ (8 * (k - 1 - j)))
  | 0, j, h => by simp [be] at h
  | k + 1, 0, h => by simp [be]
  | k + 1, j + 1, h => by
    have ih := be_get n k j (by simpa [be] using h)
    simp only [be, List.getElem_cons_succ, ih]
    rw [show k + 1 - 1 - (j + 1) = k - 1 - j by omega]
theorem be_byte {x : U4} (hx : x.ok) (k : Nat) (hk : k < 32) : (be x.nat 32)[k]'(by rw [be_length]; omega) = UInt8.ofNat (x.at ((31 - k) / 8) / 256 ^ ((31 - k) % 8)) := by
  have h := at_byte hx ((31 - k) / 8) ((31 - k) % 8) (by omega) (Nat.mod_lt _ (by decide))
  rw [Nat.div_add_mod] at h
  rw [be_get, show 32 - 1 - k = 31 - k by omega, show 2 ^ (8 * (31 - k)) = 256 ^ (31 - k) by rw [Nat.pow_mul], at_eq]
  apply UInt8.toNat_inj.1
  simp only [UInt8.toNat_ofNat']
  exact h.symm
/-- the first k bytes are there, the others are 0 -/
def partB (n k : Nat) : List UInt8 := (be n 32).take k ++ List.replicate (32 - k) 0
theorem partB_set (n k : Nat) (hk : k < 32) : (partB n k).set k ((be n 32)[k]'(by rw [be_length]; omega)) = partB n (k + 1) := by
  have hl := be_length n 32
  unfold partB
  obtain ⟨m, hm⟩ : ∃ m, 32 - k = m + 1 := ⟨31 - k, by omega⟩
  have h0 : k - ((be n 32).take k).length = 0 := by rw [List.length_take]; omega
  rw [hm, show 32 - (k + 1) = m by omega, List.set_append_right _ _ (by rw [List.length_take]; omega), h0, List.replicate_succ, List.set_cons_zero, List.take_succ_eq_append_getElem (by omega), List.append_assoc]
  rfl
theorem partB_length (n k : Nat) (hk : k ≤ 32) : (partB n k).length = 32 := by
  unfold partB
  rw [List.length_append, List.length_take, be_length, List.length_replicate]; omega

set_option maxHeartbeats 2000000 in
theorem bytes_any (x : U4) (w : World) (hx : x.ok) : Calls Tryz.prog 142 #[x.val] w fun e w' => ∃ v', e = .returned v' ∧ Own w' w.heap.size v' (be x.nat 32) ∧ Below w.heap.size w w' := by
  have HX := Lib.hid hx
  have HBB := Lib.hid (fun k hk => be_byte hx k hk)
  clear hx
  obtain ⟨X, hX⟩ : ∃ X, X = x.cells := ⟨_, rfl⟩
  unfold U4.val
  rw [← hX]
  have CX := Lib.hid (fun (k : Nat) (h : k < 4) => hX ▸ x.cell_at h)
  clear hX
  have hblk := LBlk.new w X
  have hbw : Below w.heap.size w (w.alloc (.cells X 25)) := (Below.refl _ _).alloc (Nat.le_refl _) _
  obtain ⟨i0, hi, hz, hsz, hby⟩ := info_parts Tryz.infoByte
  have hmk : ∀ W : World, (Instr.makeSlice 27 (.int .i64 32) (.int .i64 32)).run Tryz.prog W = .ok (.slice (some ⟨W.heap.size, 0, none⟩) 32 32) (W.alloc (.cells (bcells (List.replicate 32 0)).toArray 5)) := by
    intro W
    have h := run_make W 27 5 i0 (.int .u8 0) Tryz.underlying27 hi hz .i64 .i64 32 32 (by omega) (by omega) (by rw [hby]; omega) (by omega)
    rw [hsz] at h
    have e : madeCells (Value.int .u8 0).cells (Int.toNat 32 * 1) = (bcells (List.replicate 32 0)).toArray := by
      rw [show Int.toNat 32 * 1 = 32 from rfl]
      apply Array.ext'
      rw [show (Value.int IntKind.u8 0).cells = #[Value.int .u8 0] from rfl, toList_madeCells_one]
      rfl
    rw [e] at h
    exact h
  obtain ⟨N, hN⟩ : ∃ N, N = x.nat := ⟨_, rfl⟩
  have HN := Lib.hid hN
  clear hN
  go_enter Tryz.func142, Tryz.ntmps142
  go_wp2_with fail
  have hO := Own.made (B := (w.alloc (.cells X 25)).heap.size) (w.alloc (.cells X 25)) (List.replicate 32 0) (Nat.le_refl _) (by simp [maxLen])
  have hbw2 : Below (w.alloc (.cells X 25)).heap.size (w.alloc (.cells X 25)) ((w.alloc (.cells X 25)).alloc (.cells (bcells (List.replicate 32 0)).toArray 5)) := (Below.refl _ _).alloc (Nat.le_refl _) _
  have hze : (w.alloc (.cells X 25)).heap.size = w.heap.size + 1 := by simp
  rw [hze] at hO hbw2
  have hp0 : partB N 0 = List.replicate 32 0 := rfl
  generalize w.alloc (.cells X 25) = w0 at *
  have HZ := Lib.hid hze
  clear hze hmk
  go_loopw [9] (fun i wr => ∃ k : Nat, k ≤ 32 ∧ i = .int .i64 (k : Int) ∧ Own wr (w.heap.size + 1) (.slice (some ⟨w.heap.size + 1, 0, none⟩) 32 32) (partB N k) ∧ Below (w.heap.size + 1) w0 wr)
    (fun i _ => 32 - (intOf i).toNat)
  case atStart => exact ⟨0, Nat.zero_le _, rfl, by rw [hp0]; exact hO, hbw2⟩
  case round =>
    clear hO hbw2
    obtain ⟨k, hk, rfl, ho, hb⟩ := hrel
    have hpl := partB_length N k hk
    by_cases hlt : k < 32
    · have i1 : (k : Int) < 32 := by omega
      have j0 : (0 : Int) ≤ (k : Int) := by omega
      obtain ⟨gA, hgA, _, hgs, hcell, hfz, hput⟩ := ho.at_ hlt (by omega)
      injection hgA with hgA
      injection hgA with hgA _ _
      subst hgA
      have hps := partB_set N k hlt
      have hby2 := HBB.out k hlt
      rw [← HN.out] at hby2
      rw [hby2] at hps
      obtain ⟨low, hlow⟩ : ∃ low, low = 31 - k := ⟨_, rfl⟩
      rw [← hlow] at hps hby2
      have hlt4 : low / 8 < 4 := by omega
      have hc := ((hb.cell (p := ⟨w.heap.size, low / 8, none⟩) (by simp)).trans (blk_cell hblk (low / 8))).trans (CX.out (low / 8) hlt4)
      have ha := at_lt' HX.out (low / 8)
      generalize x.at (low / 8) = a at *
      have HS := Lib.hid (by have h := hput (UInt8.ofNat (a / 256 ^ (low % 8))); rw [hps] at h; exact h)
      have e31 : (31 : Int) - (k : Int) = (low : Int) := by omega
      have l0 : (0 : Int) ≤ (low : Int) := by omega
      have l32 : (low : Int) < 32 := by omega
      have HPL := Lib.hid hpl
      generalize (partB N k)[k]'_ = old at hcell
      clear hput hps hby2 hlow ho hpl
      go_wp2_with fail
      have hv : Value.int .u8 ((a : Int) / 2 ^ (8 * (low % 8)) % 256) = bval (UInt8.ofNat (a / 256 ^ (low % 8))) := by
        have h : (2 : Nat) ^ (8 * (low % 8)) = 256 ^ (low % 8) := by rw [Nat.pow_mul]
        unfold bval
        rw [UInt8.toNat_ofNat', ← h]
        congr 1
      rw [hv]
      refine ⟨⟨k + 1, by omega, rfl, HS.out, hb.setCell (Nat.le_refl _) _⟩, ?_⟩
      simp only [intOf]
      omega
    · have hk32 : k = 32 := by omega
      subst hk32
      have hfull : partB N 32 = be N 32 := by
        unfold partB
        rw [List.take_of_length_le (by rw [be_length]; omega)]
        simp
      rw [hfull, HN.out] at ho
      clear hfull hpl hp0
      go_wp2_with fail
      try go_ret
      refine ⟨_, rfl, Own.more ho (by omega), hbw.trans (hb.mono (by omega))⟩
end Go.Proofs.YtniclaapiabmdaaGreatDoor
namespace Go.Proofs.YtniclaapiabmdaaGreatDoor
set_option maxRecDepth 100000
open Go Go.RowKit

/-- the first k numbers are there, the others are 0 -/
def partI (L : List Nat) (k : Nat) : List Nat := L.take k ++ List.replicate (32 - k) 0
theorem OwnI.made (w : World) {B : Nat} (D : List Nat) (hb : B ≤ w.heap.size) (hm : D.length ≤ maxLen) : OwnI (w.alloc (.cells (dcells D).toArray 3)) B (.slice (some ⟨w.heap.size, 0, none⟩) D.length D.length) D :=
  ⟨by simp [dcells], .inr ⟨w.heap.size, D.length, _, rfl, hb, heap_alloc_new w _, Nat.le_refl _, hm, by simp [dcells], by simp [dcells, List.take_of_length_le]⟩⟩
end Go.Proofs.YtniclaapiabmdaaGreatDoor
namespace Go.Proofs.YtniclaapiabmdaaGreatDoor
set_option maxRecDepth 100000
open Go Go.RowKit

theorem pow_v (r : Nat) (h : r < 8) : ∃ v, 1 ≤ v ∧ 18446744073709551616 = 256 ^ r * 256 * v := by
  have : r = 0 ∨ r = 1 ∨ r = 2 ∨ r = 3 ∨ r = 4 ∨ r = 5 ∨ r = 6 ∨ r = 7 := by omega
  rcases this with rfl | rfl | rfl | rfl | rfl | rfl | rfl | rfl
  · exact ⟨2 ^ 56, by decide, by decide⟩
  · exact ⟨2 ^ 48, by decide, by decide⟩
  · exact ⟨2 ^ 40, by decide, by decide⟩
  · exact ⟨2 ^ 32, by decide, by decide⟩
  · exact ⟨2 ^ 24, by decide, by decide⟩
  · exact ⟨2 ^ 16, by decide, by decide⟩
  · exact ⟨2 ^ 8, by decide, by decide⟩
  · exact ⟨1, by decide, by decide⟩
theorem high_step (M k d : Nat) (hk : k < 32) (hd : d < 256) :
    (ofN (M * 256 ^ (k + 1) + 256 ^ k * d)).cells = (ofN (M * 256 ^ (k + 1))).cells.setIfInBounds (k / 8) (.int .u64 (((ofN (M * 256 ^ (k + 1))).at (k / 8) + d * 256 ^ (k % 8) : Nat) : Int)) ∧
      (ofN (M * 256 ^ (k + 1))).at (k / 8) + d * 256 ^ (k % 8) < 18446744073709551616 ∧ ∃ e, (ofN (M * 256 ^ (k + 1))).at (k / 8) = 256 ^ (k % 8) * 256 * e := by
  obtain ⟨p0, p1, p2, p3⟩ := pow8
  have hr : k % 8 < 8 := Nat.mod_lt _ (by decide)
  obtain ⟨v, hv1, hv⟩ := pow_v (k % 8) hr
  have he : 256 ^ k = 256 ^ (8 * (k / 8)) * 256 ^ (k % 8) := by rw [← Nat.pow_add, Nat.div_add_mod]
  have ht : d * 256 ^ (k % 8) ≤ 255 * 256 ^ (k % 8) := Nat.mul_le_mul_right _ (by omega)
  have hp1 : 0 < 256 ^ (k % 8) := Nat.pow_pos (by decide)
  have hm : 256 ^ k * d = 256 ^ (8 * (k / 8)) * (d * 256 ^ (k % 8)) := by rw [he, Nat.mul_assoc, Nat.mul_comm (256 ^ (k % 8)) d]
  have hV : M * 256 ^ (k + 1) = 256 ^ (8 * (k / 8)) * (256 ^ (k % 8) * 256 * M) := by
    rw [Nat.pow_succ, he, Nat.mul_comm M, Nat.mul_assoc, Nat.mul_assoc, Nat.mul_assoc]
  have hq : k / 8 = 0 ∨ k / 8 = 1 ∨ k / 8 = 2 ∨ k / 8 = 3 := by omega
  rw [hm, hV]
  generalize d * 256 ^ (k % 8) = t at *
  generalize 256 ^ (k % 8) = P at *
  generalize k / 8 = q at *
  clear he hm hV hr hk hd
  obtain ⟨m, hm⟩ : ∃ m, m = P * 256 * M := ⟨_, rfl⟩
  rw [← hm]
  have hmm : m % 18446744073709551616 = P * 256 * (M % v) := by rw [hm, hv, Nat.mul_mod_mul_left]
  have hlt : P * 256 * (M % v) + P * 256 ≤ 18446744073709551616 := by
    rw [hv, ← Nat.mul_succ]
    exact Nat.mul_le_mul_left _ (Nat.mod_lt _ hv1)
  have hsum : m % 18446744073709551616 + t < 18446744073709551616 := by omega
  have hex : ∃ e, m % 18446744073709551616 = P * 256 * e := ⟨_, hmm⟩
  clear hmm hlt hm hv hv1 ht hp1
  rcases hq with rfl | rfl | rfl | rfl
  · rw [p0]
    have e0 : (ofN (1 * m)).at 0 = m % 18446744073709551616 := by simp only [ofN, U4.at]; omega
    refine ⟨?_, by rw [e0]; exact hsum, by rw [e0]; exact hex⟩
    rw [e0]
    simp only [ofN, U4.cells, List.setIfInBounds_toArray, List.set_cons_zero]
    exact cells4 (by omega) (by omega) (by omega) (by omega)
  · rw [p1]
    have e0 : (ofN (18446744073709551616 * m)).at 1 = m % 18446744073709551616 := by simp only [ofN, U4.at]; omega
    refine ⟨?_, by rw [e0]; exact hsum, by rw [e0]; exact hex⟩
    rw [e0]
    simp only [ofN, U4.cells, List.setIfInBounds_toArray, List.set_cons_zero, List.set_cons_succ]
    exact cells4 (by omega) (by omega) (by omega) (by omega)
  · rw [p2]
    have e0 : (ofN (340282366920938463463374607431768211456 * m)).at 2 = m % 18446744073709551616 := by simp only [ofN, U4.at]; omega
    refine ⟨?_, by rw [e0]; exact hsum, by rw [e0]; exact hex⟩
    rw [e0]
    simp only [ofN, U4.cells, List.setIfInBounds_toArray, List.set_cons_zero, List.set_cons_succ]
    exact cells4 (by omega) (by omega) (by omega) (by omega)
  · rw [p3]
    have e0 : (ofN (6277101735386680763835789423207666416102355444464034512896 * m)).at 3 = m % 18446744073709551616 := by simp only [ofN, U4.at]; omega
    refine ⟨?_, by rw [e0]; exact hsum, by rw [e0]; exact hex⟩
    rw [e0]
    simp only [ofN, U4.cells, List.setIfInBounds_toArray, List.set_cons_zero, List.set_cons_succ]
    exact cells4 (by omega) (by omega) (by omega) (by omega)
theorem or_high (a d r : Nat) (hr : r < 8) (hd : d < 256) (hs : a + d * 256 ^ r < 18446744073709551616) (ha : ∃ e, a = 256 ^ r * 256 * e) : bits .or .u64 (a : Int) (IntKind.u64.wrap ((d : Int) * 2 ^ min (8 * r) 64)) = ((a + d * 256 ^ r : Nat) : Int) := by
  obtain ⟨e', hae⟩ := ha
  have ht : d * 256 ^ r ≤ 255 * 256 ^ r := Nat.mul_le_mul_right _ (by omega)
  have hp1 : 0 < 256 ^ r := Nat.pow_pos (by decide)
  have e : (d : Int) * 2 ^ min (8 * r) 64 = ((d * 256 ^ r : Nat) : Int) := by
    rw [Nat.min_eq_left (by omega), show 256 ^ r = 2 ^ (8 * r) by rw [Nat.pow_mul]]
    push_cast
    rfl
  have hp : 256 ^ r * 256 = 2 ^ (8 * (r + 1)) := by rw [Nat.pow_mul]; rfl
  have hlt : d * 256 ^ r < 2 ^ (8 * (r + 1)) := by rw [← hp]; omega
  have hor := Nat.two_pow_add_eq_or_of_lt (i := 8 * (r + 1)) hlt e'
  rw [e, IntKind.wrap_u64]
  rw [show ((d * 256 ^ r : Nat) : Int) % 18446744073709551616 = ((d * 256 ^ r : Nat) : Int) by omega, bits_or_u64_nat _ _ (by omega) (by omega)]
  congr 1
  rw [hae, hp, ← hor]
theorem or_high' (a d r : Nat) (hr : r < 8) (hd : d < 256) (hs : a + d * 256 ^ r < 18446744073709551616) (ha : ∃ e, a = 256 ^ r * 256 * e) : bits .or .u64 (a : Int) (IntKind.u64.wrap ((d : Int) * 2 ^ (8 * r))) = ((a + d * 256 ^ r : Nat) : Int) := by
  have h := or_high a d r hr hd hs ha
  rw [Nat.min_eq_left (by omega)] at h
  exact h
theorem valB_snoc (l : List UInt8) (d : UInt8) : valB (l ++ [d]) = d.toNat + 256 * valB l := by
  simp [valB, valL]
/-- the number that the first k of 32 bytes make -/
def highB (l : List UInt8) (k : Nat) : Nat := valB (l.take k) * 256 ^ (32 - k)
theorem highB_step (l : List UInt8) (hl : l.length = 32) (k : Nat) (hk : k < 32) : highB l k = valB (l.take k) * 256 ^ (31 - k + 1) ∧ highB l (k + 1) = valB (l.take k) * 256 ^ (31 - k + 1) + 256 ^ (31 - k) * (l.getD k 0).toNat := by
  unfold highB
  refine ⟨by rw [show 32 - k = 31 - k + 1 by omega], ?_⟩
  rw [List.take_succ_eq_append_getElem (by omega), valB_snoc, show 32 - (k + 1) = 31 - k by omega, List.getD_eq_getElem?_getD, List.getElem?_eq_getElem (by omega), Nat.pow_succ, Nat.add_mul, Nat.add_comm]
  show 256 * valB (l.take k) * 256 ^ (31 - k) + l[k].toNat * 256 ^ (31 - k) = valB (l.take k) * (256 ^ (31 - k) * 256) + 256 ^ (31 - k) * l[k].toNat
  rw [Nat.mul_comm l[k].toNat, Nat.mul_comm 256, Nat.mul_assoc, Nat.mul_comm 256]

set_option maxHeartbeats 2000000 in
theorem from_any (v : Value) (l : List UInt8) (w : World) (hr : Rd w w.heap.size v l) :
    Calls Tryz.prog 99 #[v] w fun e w' => e = .returned (.tuple #[(fromU l).1.val, .int .i64 (fromU l).2]) ∧ Below w.heap.size w w' := by
  have hlm := hr.len
  unfold maxLen at hlm
  obtain ⟨A, c, rfl⟩ := hr.form
  have hbx := LBlk.new w U4.zero.cells
  have hbw : Below w.heap.size w (w.alloc (.cells U4.zero.cells 25)) := (Below.refl _ _).alloc (Nat.le_refl _) _
  by_cases hl : l.length = 32
  · have hU : fromU l = (ofN (valB l), 0) := if_pos hl
    obtain ⟨hn, b, o, rfl, hbB, hcell⟩ := hr.cell (by omega)
    rw [hU]
    have HC : Hid (∀ k, k < 32 → w.cell? ⟨b, o + k, none⟩ = some (.int .u8 ((l.getD k 0).toNat : Int))) := Lib.hid (fun k hk => by
      rw [hcell k (by omega), List.getD_eq_getElem?_getD, List.getElem?_eq_getElem (by omega)]
      rfl)
    have HST := Lib.hid (highB_step l hl)
    have HF : Hid (highB l 32 = valB l) := Lib.hid (by
      unfold highB
      rw [List.take_of_length_le (by omega), Nat.sub_self, Nat.pow_zero, Nat.mul_one])
    have H0 : Hid (highB l 0 = 0) := Lib.hid (by
      unfold highB
      rw [List.take_zero, show valB [] = 0 from rfl, Nat.zero_mul])
    clear hcell hU hr
    rw [hl]
    clear hl hn hlm
    have h3 := two w U4.zero.cells U4.zero.cells
    clear hbx hbw
    go_enter Tryz.func99, Tryz.ntmps99
    go_wp2_with fail
    generalize hw0 : (w.alloc (.cells #[.int .u64 0, .int .u64 0, .int .u64 0, .int .u64 0] 25)).alloc (.cells #[.int .u64 0, .int .u64 0, .int .u64 0, .int .u64 0] 25) = w0
    replace h3 : LBlk w0 w.heap.size U4.zero.cells ∧ LBlk w0 (w.heap.size + 1) U4.zero.cells ∧ Below w.heap.size w w0 := by rw [← hw0]; exact h3
    clear hw0
    obtain ⟨h0, h1, h2⟩ := h3
    go_loopw [14] (fun i wr => ∃ k : Nat, k ≤ 32 ∧ i = .int .i64 (k : Int) ∧ LBlk wr w.heap.size U4.zero.cells ∧ LBlk wr (w.heap.size + 1) (ofN (highB l k)).cells ∧ Below w.heap.size w wr)
      (fun i _ => 32 - (intOf i).toNat)
    case atStart => exact ⟨0, Nat.zero_le _, rfl, h0, by rw [H0.out]; exact h1, h2⟩
    case round =>
      clear h0 h1 h2
      obtain ⟨j, hj, rfl, hb0, hb1, hb⟩ := hrel
      by_cases hlt : j < 32
      · have i1 : (j : Int) < 32 := by omega
        have i0 : (0 : Int) ≤ (j : Int) := by omega
        have hc := (hb.cell (p := ⟨b, o + j, none⟩) hbB).trans (HC.out j hlt)
        have hdv : (l.getD j 0).toNat < 256 := (l.getD j 0).toNat_lt
        obtain ⟨t1, t2⟩ := HST.out j hlt
        obtain ⟨k, hk⟩ : ∃ k, k = 31 - j := ⟨_, rfl⟩
        rw [← hk] at t1 t2
        rw [t1] at hb1
        have T2 := Lib.hid t2
        generalize valB (l.take j) = M at *
        obtain ⟨s1, s2, s3⟩ := high_step M k (l.getD j 0).toNat (by omega) hdv
        have e1 := (blk_cell hb1 (k / 8)).trans (U4.cell_at _ (by omega))
        have e2 := blk_free hb1 (k / 8)
        rw [← t2] at s1
        clear t1 t2
        generalize (l.getD j 0).toNat = d at *
        generalize M * 256 ^ (k + 1) = V at *
        generalize (ofN V).at (k / 8) = a at *
        have S1 := Lib.hid s1
        have S2 := Lib.hid s2
        have S3 := Lib.hid s3
        have e31 : (31 : Int) - (j : Int) = (k : Int) := by omega
        have l0 : (0 : Int) ≤ (k : Int) := by omega
        have l32 : (k : Int) < 32 := by omega
        have k8 : (k : Int) / 8 < 4 := by omega
        have k80 : (0 : Int) ≤ (k : Int) / 8 := by omega
        have w1 : IntKind.i64.wrap ((k : Int) / 8) = (k : Int) / 8 := IntWalk.i64_in _ (by omega)
        have w2 : (k : Int).tmod 8 = (k : Int) % 8 := Int.tmod_eq_emod_of_nonneg (by omega)
        have w3 : IntKind.i64.wrap ((k : Int) % 8) = (k : Int) % 8 := IntWalk.i64_in _ (by omega)
        have w4 : IntKind.i64.wrap (8 * ((k : Int) % 8)) = 8 * ((k : Int) % 8) := IntWalk.i64_in _ (by omega)
        have w5 : (k : Int).tdiv 8 = (k : Int) / 8 := Int.tdiv_eq_ediv_of_nonneg (by omega)
        have w6 : ((k : Int) / 8).toNat = k / 8 := by omega
        clear s1 s2 s3 hk T2
        go_wp2_with fail
        go_still_tail 12, (by kernel_rfl)
        change wpList _ _ _ _ _ wr.drew
        go_wp2_with fail
        rw [or_high' a d (k % 8) (Nat.mod_lt _ (by decide)) hdv S2.out S3.out]
        refine ⟨⟨j + 1, by omega, by go_num, (LBlk.far hb0 (by omega) _ _).drew, ?_, below_drewN' (hb.setCell (by simp) _) 1⟩, by simp [intOf]; omega⟩
        rw [S1.out]
        exact (hb1.set_ _ _).drew
      · have i1 : ¬ (j : Int) < 32 := by omega
        obtain rfl : j = 32 := by omega
        rw [HF.out] at hb1
        obtain ⟨c0, c1, c2, c3⟩ := hb1.all
        obtain ⟨d0, d1, d2, d3⟩ := hb0.all
        have f0 := hb0.free 0
        have f1 := hb0.free 1
        have f2 := hb0.free 2
        have f3 := hb0.free 3
        have BB := Lib.hid hb
        obtain ⟨s, hs⟩ : ∃ s, s = ofN (valB l) := ⟨_, rfl⟩
        rw [← hs] at c0 c1 c2 c3
        have HS := Lib.hid hs
        clear hb hb0 hb1 hs
        go_wp2
        refine bodyPost_ret (v := .tuple #[.agg s.cells, .int .i64 0]) ?_ rfl ⟨by first | rfl | (rw [← HS.out]; rfl), ?_⟩
        · simp [results, Tryz.results99, go_sem, U4.cells, d0, d1, d2, d3]
        · have hg : w.heap.size ≤ w.heap.size := by omega
          exact (((BB.out.setCell hg _).setCell hg _).setCell hg _).setCell hg _
  · have hU : fromU l = (U4.zero, 21) := if_neg hl
    rw [hU]
    have hl32 : ¬ (l.length : Int) = 32 := by omega
    obtain ⟨d0, d1, d2, d3⟩ := hbx.all
    clear hU hr hl
    replace hbw : Below w.heap.size w (w.alloc (.cells #[.int .u64 0, .int .u64 0, .int .u64 0, .int .u64 0] 25)) := hbw
    replace d0 : (w.alloc (.cells #[.int .u64 0, .int .u64 0, .int .u64 0, .int .u64 0] 25)).cell? ⟨w.heap.size, 0, none⟩ = some (.int .u64 0) := d0
    replace d1 : (w.alloc (.cells #[.int .u64 0, .int .u64 0, .int .u64 0, .int .u64 0] 25)).cell? ⟨w.heap.size, 1, none⟩ = some (.int .u64 0) := d1
    replace d2 : (w.alloc (.cells #[.int .u64 0, .int .u64 0, .int .u64 0, .int .u64 0] 25)).cell? ⟨w.heap.size, 2, none⟩ = some (.int .u64 0) := d2
    replace d3 : (w.alloc (.cells #[.int .u64 0, .int .u64 0, .int .u64 0, .int .u64 0] 25)).cell? ⟨w.heap.size, 3, none⟩ = some (.int .u64 0) := d3
    clear hbx
    go_enter Tryz.func99, Tryz.ntmps99
    go_wp2
    refine bodyPost_ret (v := .tuple #[U4.zero.val, .int .i64 21]) ?_ rfl ⟨rfl, hbw⟩
    simp [results, Tryz.results99, go_sem, U4.val, U4.cells, U4.zero, d0, d1, d2, d3]
end Go.Proofs.YtniclaapiabmdaaGreatDoor
namespace Go.Proofs.YtniclaapiabmdaaGreatDoor
set_option maxRecDepth 100000
open Go Go.RowKit
set_option linter.unusedVariables false

theorem txt_add (a b : ByteArray) (h : a.size + b.size ≤ 9223372036854775807) (w : World) : (Op.stringOp .add a b).run Tryz.prog w = .ok (.string (a ++ b)) w := run_string_add_sum (P := Tryz.prog) (w := w) a b h
set_option maxHeartbeats 1000000 in
theorem balKey_any (a d : ByteArray) (w : World) (ha : a.size ≤ 100000000) (hd : d.size ≤ 100000000) : Calls Tryz.prog 46 #[.string a, .string d] w fun e w' => e = .returned (.string (kBal a d)) ∧ w = w' := by
  have s1 : balP.size = 4 := rfl
  have s2 : slB.size = 1 := rfl
  have h1 := fun W => txt_add balP a (by rw [s1]; omega) W
  have h2 := fun W => txt_add (balP ++ a) slB (by rw [ByteArray.size_append, s1, s2]; omega) W
  have h3 := fun W => txt_add ((balP ++ a) ++ slB) d (by rw [ByteArray.size_append, ByteArray.size_append, s1, s2]; omega) W
  unfold kBal
  unfold balP slB at *
  go_enter Tryz.func46, Tryz.ntmps46
  go_wp2
  go_ret
  exact ⟨rfl, rfl⟩
/-- the amount under a key, as it is seen -/
def amtV (l : List Lyr) (key : ByteArray) : U4 := (fromU ((visV l key).getD [])).1
theorem amtV_seen {l : List Lyr} {R : List Pr} (h : SeenL ⟨#[]⟩ l R) {key : ByteArray} (hk : key.size ≤ maxLen) : amtV l key = amtU R key := by
  unfold amtV amtU
  rw [h.get key hk, begB_empty, if_pos rfl]
set_option maxHeartbeats 2000000 in
theorem amount_any {w : World} {l : List Lyr} (h : PileS w l) (key : ByteArray) (hk : key.size ≤ maxLen) :
    Calls Tryz.prog 45 #[topV l, .string key] w fun e w' => e = .returned (amtV l key).val ∧ Below w.heap.size w w' := by
  have hG := fun (W : World) (hb : Below w.heap.size w W) => get_any (h.up hb) key hk
  have hF := fun (v : Value) (W : World) (hr : Rd W W.heap.size v ((visV l key).getD [])) => from_any v _ W hr
  unfold amtV
  obtain ⟨p, hp⟩ : ∃ p, topV l = .pointer p := by cases l <;> exact ⟨_, rfl⟩
  rw [hp] at hG ⊢
  have HG := Lib.hid hG
  have HF := Lib.hid hF
  clear hG hF h hp
  generalize (visV l key).getD [] = b at *
  generalize (visV l key).isSome = t at *
  obtain ⟨X, hX⟩ : ∃ X : U4, X = (fromU b).1 := ⟨_, rfl⟩
  obtain ⟨E, hE⟩ : ∃ E : Int, E = (fromU b).2 := ⟨_, rfl⟩
  rw [← hX, ← hE] at HF
  rw [← hX]
  clear hX hE
  unfold U4.val U4.cells at *
  go_enter Tryz.func45, Tryz.ntmps45
  go_wp2_with fail
  have ha0 : Below w.heap.size w (w.alloc (.cells #[.int .u64 0, .int .u64 0, .int .u64 0, .int .u64 0] 25)) := (Below.refl _ _).alloc (Nat.le_refl _) _
  refine (HG.out _ ha0).mono ?_
  rintro e w1 ⟨v1, rfl, ho1, hb1⟩
  have hk0 := heap_alloc_new w (.cells #[.int .u64 0, .int .u64 0, .int .u64 0, .int .u64 0] 25)
  have hk1 := (hb1.block w.heap.size (Array.getElem?_eq_some_iff.1 hk0).1).trans hk0
  replace hb1 := below_chain ha0 ha0.size hb1
  have HC := Lib.hid (HF.out v1 w1 ho1.rd)
  obtain ⟨A1, c1, rfl⟩ := ho1.form
  clear ho1
  go_wp2_with fail
  refine HC.out.mono ?_
  rintro e w2 ⟨rfl, hb2⟩
  have hk2 := (hb2.block w.heap.size (Array.getElem?_eq_some_iff.1 hk1).1).trans hk1
  have hq := below_chain hb1 hb1.size hb2
  clear hk0 hk1
  have hk3 : LBlk (w2.alloc (.cells #[.int .u64 X.a, .int .u64 X.b, .int .u64 X.c, .int .u64 X.d] 25)) w.heap.size U4.zero.cells := LBlk.alloc hk2 _
  have hq3 : Below w.heap.size w (w2.alloc (.cells #[.int .u64 X.a, .int .u64 X.b, .int .u64 X.c, .int .u64 X.d] 25)) := hq.alloc hq.size _
  obtain ⟨z0, z1, z2, z3⟩ := hk3.all
  have y0 := blk_free hk3 0
  have y1 := blk_free hk3 1
  have y2 := blk_free hk3 2
  have y3 := blk_free hk3 3
  have hk4 := LBlk.set4 (s := U4.zero) hk3 X
  obtain ⟨d0, d1, d2, d3⟩ := hk4.all
  have HD := Lib.hid (⟨d0, d1, d2, d3⟩ : _ ∧ _ ∧ _ ∧ _)
  clear hk2 hk3 hk4 d0 d1 d2 d3
  go_wp2_with fail
  obtain ⟨d0, d1, d2, d3⟩ := HD.out
  refine bodyPost_ret (v := .agg #[.int .u64 X.a, .int .u64 X.b, .int .u64 X.c, .int .u64 X.d]) ?_ rfl ⟨rfl, ?_⟩
  · simp [results, Tryz.results45, go_sem, d0, d1, d2, d3]
  · exact (((hq3.setCell (Nat.le_refl _) _).setCell (Nat.le_refl _) _).setCell (Nat.le_refl _) _).setCell (Nat.le_refl _) _

/-- an amount kept in a layer -/
def Lyr.keep (y : Lyr) (bot : Bool) (key : ByteArray) (x : U4) : Lyr := if eqB x U4.zero = true then y.del bot key else y.put key (some (be x.nat 32))
set_option maxHeartbeats 2000000 in
theorem keep_any {w : World} {y : Lyr} {l : List Lyr} (h : PileS w (y :: l)) (hn : y.n < maxLen) (key : ByteArray) (hk : keyB key = true) (x : U4) (hx : x.ok) :
    Calls Tryz.prog 90 #[.pointer (some ⟨y.b, 0, none⟩), .string key, x.val] w fun e w' => e = .returned (.tuple #[]) ∧ PileS w' (y.keep l.isEmpty key x :: l) ∧ Chg w w' (fun k => k = y.m) := by
  have hks : key.size ≤ maxLen := by
    simp only [keyB, Bool.and_eq_true, decide_eq_true_eq] at hk
    unfold maxLen; omega
  have hZ := fun W => zero_any x W
  have hpb : pairB (key, be x.nat 32) = true := by simp [pairB, hk, be_length]
  have HP := Lib.hid h
  have HX := Lib.hid hx
  unfold Lyr.keep
  cases h0 : eqB x U4.zero with
  | true =>
    rw [h0] at hZ
    have HZ := Lib.hid hZ
    clear hZ h0 h
    unfold U4.val U4.cells at *
    go_enter Tryz.func90, Tryz.ntmps90
    go_wp2_with fail
    have ha0 : Below w.heap.size w (w.alloc (.cells x.cells 25)) := (Below.refl _ _).alloc (Nat.le_refl _) _
    unfold U4.cells at ha0
    refine (HZ.out _).mono ?_
    rintro e w1 ⟨rfl, hb1⟩
    replace hb1 := below_chain ha0 ha0.size hb1
    have HD := Lib.hid (del_any (HP.out.up hb1) hn key hks)
    go_wp2_with fail
    refine HD.out.mono ?_
    rintro e w2 ⟨rfl, hp2, hc2⟩
    go_wp2_with fail
    refine bodyPost_ret (results_none rfl _ _ _) rfl ?_
    exact ⟨rfl, by simpa using hp2, (Chg.of_below hb1 _).trans' hc2⟩
  | false =>
    rw [h0] at hZ
    have HZ := Lib.hid hZ
    have HB := Lib.hid (fun W => bytes_any x W hx)
    clear hZ h0 h
    unfold U4.val U4.cells at *
    go_enter Tryz.func90, Tryz.ntmps90
    go_wp2_with fail
    have ha0 : Below w.heap.size w (w.alloc (.cells x.cells 25)) := (Below.refl _ _).alloc (Nat.le_refl _) _
    unfold U4.cells at ha0
    refine (HZ.out _).mono ?_
    rintro e w1 ⟨rfl, hb1⟩
    have hk0 := heap_alloc_new w (.cells x.cells 25)
    unfold U4.cells at hk0
    have hk1 := (hb1.block w.heap.size (Array.getElem?_eq_some_iff.1 hk0).1).trans hk0
    clear hk0
    obtain ⟨z0, z1, z2, z3⟩ := LBlk.all (s := x) hk1
    replace hb1 := below_chain ha0 ha0.size hb1
    go_wp2_with fail
    refine (HB.out _).mono ?_
    rintro e w2 ⟨v2, rfl, ho2, hb2⟩
    have hq2 := below_chain hb1 hb1.size hb2
    have HS := Lib.hid (set_yes (HP.out.up hq2) hn key hks v2 (be x.nat 32) ho2.rd hpb)
    obtain ⟨A2, c2, rfl⟩ := ho2.form' (be_length x.nat 32)
    clear ho2
    go_wp2_with fail
    refine HS.out.mono ?_
    rintro e w3 ⟨rfl, hp3, hc3⟩
    go_wp2_with fail
    go_end0
    exact ⟨rfl, by simpa using hp3, (Chg.of_below hq2 _).trans' hc3⟩
end Go.Proofs.YtniclaapiabmdaaGreatDoor
namespace Go.Proofs.YtniclaapiabmdaaGreatDoor
set_option maxRecDepth 100000
open Go Go.RowKit
set_option linter.unusedVariables false

theorem SeenL.keep {y : Lyr} {l : List Lyr} {R : List Pr} (h : SeenL ⟨#[]⟩ (y :: l) R) {key : ByteArray} (hk : key.size ≤ maxLen) (x : U4) : SeenL ⟨#[]⟩ (y.keep l.isEmpty key x :: l) (keepL key x R) where
  rise := h.rise.keep
  small := fun p hp => by
    unfold keepL at hp
    rcases List.mem_append.1 ((putL_perm key _ R).mem_iff.1 hp) with hp | hp
    · split at hp
      · cases hp
      · rw [List.mem_singleton.1 hp]; exact hk
    · exact h.small p (List.mem_filter.1 hp).1
  get := fun s hs => by
    have h0 := h.get s hs
    rw [begB_empty, if_pos rfl] at h0 ⊢
    rw [getL_keep]
    unfold visV at h0 ⊢
    rw [visD_cons] at h0 ⊢
    have hv : (y.keep l.isEmpty key x).f s = if s = key then (if eqB x U4.zero = true then (if l.isEmpty = true then none else some none) else some (some (be x.nat 32))) else y.f s := by
      unfold Lyr.keep Lyr.del
      by_cases hx : eqB x U4.zero = true
      · rw [if_pos hx, if_pos hx]
        by_cases hl : l.isEmpty = true
        · rw [if_pos hl, if_pos hl]; rfl
        · rw [if_neg hl, if_neg hl]; rfl
      · rw [if_neg hx, if_neg hx]; rfl
    rw [hv]
    by_cases e : s = key
    · rw [if_pos e, if_pos e]
      by_cases hx : eqB x U4.zero = true
      · rw [if_pos hx, if_pos hx]
        cases l with
        | nil => rfl
        | cons a l => rfl
      · rw [if_neg hx, if_neg hx]; rfl
    · rw [if_neg e, if_neg e]; exact h0
theorem Lyr.keep_form (y : Lyr) (bot : Bool) (key : ByteArray) (x : U4) : ∃ n f, y.keep bot key x = ⟨y.b, y.m, n, f⟩ ∧ n ≤ y.n + 1 := by
  unfold Lyr.keep Lyr.del
  split
  · split
    · exact ⟨_, _, rfl, Nat.le_succ _⟩
    · exact ⟨_, _, rfl, Nat.le_refl _⟩
  · exact ⟨_, _, rfl, Nat.le_refl _⟩

set_option maxHeartbeats 2000000 in
theorem right_any (a d : ByteArray) (x : U4) (w : World) (ha : a.size ≤ maxLen) (hd : d.size ≤ maxLen) :
    Calls Tryz.prog 87 #[.string a, .string d, x.val] w fun e w' => e = .returned (.int .i64 (rightM a d x)) ∧ Below w.heap.size w w' := by
  have HI := Lib.hid (fun W => ident_any a W ha)
  have HD := Lib.hid (fun W => denom_any d W hd)
  have HZ := Lib.hid (fun W => zero_any x W)
  unfold rightM
  show Calls Tryz.prog 87 _ _ fun e w' => e = .returned (.int .i64 (if identL a.data.toList = true then (if denomL d.data.toList = true then (if eqB x U4.zero = true then 70 else 0) else 41) else 40)) ∧ _
  have ha0 : Below w.heap.size w (w.alloc (.cells x.cells 25)) := (Below.refl _ _).alloc (Nat.le_refl _) _
  have hk0 := heap_alloc_new w (.cells x.cells 25)
  obtain ⟨z0, z1, z2, z3⟩ := LBlk.all (s := x) hk0
  clear hk0
  unfold U4.val U4.cells at *
  cases h1 : identL a.data.toList with
  | false =>
    rw [h1] at HI
    clear h1
    go_enter Tryz.func87, Tryz.ntmps87
    go_wp2_with fail
    refine (HI.out _).mono ?_
    rintro e w1 ⟨rfl, rfl⟩
    go_wp2_with fail
    go_ret
    exact ⟨rfl, ha0⟩
  | true =>
    rw [h1] at HI
    clear h1
    cases h2 : denomL d.data.toList with
    | false =>
      rw [h2] at HD
      clear h2
      go_enter Tryz.func87, Tryz.ntmps87
      go_wp2_with fail
      refine (HI.out _).mono ?_
      rintro e w1 ⟨rfl, rfl⟩
      go_wp2_with fail
      refine (HD.out _).mono ?_
      rintro e w2 ⟨rfl, m, rfl⟩
      go_wp2_with fail
      go_ret
      exact ⟨rfl, below_drewN' ha0 _⟩
    | true =>
      rw [h2] at HD
      clear h2
      cases h3 : eqB x U4.zero with
      | false =>
        rw [h3] at HZ
        clear h3
        go_enter Tryz.func87, Tryz.ntmps87
        go_wp2_with fail
        refine (HI.out _).mono ?_
        rintro e w1 ⟨rfl, rfl⟩
        go_wp2_with fail
        refine (HD.out _).mono ?_
        rintro e w2 ⟨rfl, m, rfl⟩
        have hq := below_drewN' ha0 m
        go_wp2_with fail
        refine (HZ.out _).mono ?_
        rintro e w3 ⟨rfl, hb3⟩
        have hq3 := below_chain hq hq.size hb3
        go_wp2_with fail
        go_ret
        exact ⟨rfl, hq3⟩
      | true =>
        rw [h3] at HZ
        clear h3
        go_enter Tryz.func87, Tryz.ntmps87
        go_wp2_with fail
        refine (HI.out _).mono ?_
        rintro e w1 ⟨rfl, rfl⟩
        go_wp2_with fail
        refine (HD.out _).mono ?_
        rintro e w2 ⟨rfl, m, rfl⟩
        have hq := below_drewN' ha0 m
        go_wp2_with fail
        refine (HZ.out _).mono ?_
        rintro e w3 ⟨rfl, hb3⟩
        have hq3 := below_chain hq hq.size hb3
        go_wp2_with fail
        go_ret
        exact ⟨rfl, hq3⟩

/-- what an address has, as it is seen -/
def balV (l : List Lyr) (a d : ByteArray) : U4 := if (identB a && denomB d) = true then amtV l (kBal a d) else U4.zero
def supV (l : List Lyr) (d : ByteArray) : U4 := if denomB d = true then amtV l (kSup d) else U4.zero
theorem keyB_size {s : ByteArray} (h : keyB s = true) : s.size ≤ maxLen := by
  simp only [keyB, Bool.and_eq_true, decide_eq_true_eq] at h
  unfold maxLen; omega
theorem balV_seen {l : List Lyr} {R : List Pr} (h : SeenL ⟨#[]⟩ l R) (a d : ByteArray) : balV l a d = balM R a d := by
  unfold balV balM
  by_cases e : (identB a && denomB d) = true
  · rw [if_pos e, if_pos e]
    simp only [Bool.and_eq_true] at e
    exact amtV_seen h (keyB_size (kBal_fits e.1 e.2))
  · rw [if_neg e, if_neg e]
end Go.Proofs.YtniclaapiabmdaaGreatDoor
namespace Go.Proofs.YtniclaapiabmdaaGreatDoor
set_option maxRecDepth 100000
open Go Go.RowKit
set_option linter.unusedVariables false

set_option maxHeartbeats 2000000 in
theorem bal_any {w : World} {l : List Lyr} (h : PileS w l) (a d : ByteArray) (ha : a.size ≤ 100000000) (hd : d.size ≤ 100000000) :
    Calls Tryz.prog 12 #[topV l, .string a, .string d] w fun e w' => e = .returned (balV l a d).val ∧ Below w.heap.size w w' := by
  have HI := Lib.hid (fun W => ident_any a W (by unfold maxLen; omega))
  have ha0 : Below w.heap.size w (w.alloc (.cells #[.int .u64 0, .int .u64 0, .int .u64 0, .int .u64 0] 25)) := (Below.refl _ _).alloc (Nat.le_refl _) _
  have hk0 := heap_alloc_new w (.cells #[.int .u64 0, .int .u64 0, .int .u64 0, .int .u64 0] 25)
  have HK0 := Lib.hid hk0
  clear hk0
  have HD := Lib.hid (fun W => denom_any d W (by unfold maxLen; omega))
  obtain ⟨p, hp⟩ : ∃ p, topV l = .pointer p := by cases l <;> exact ⟨_, rfl⟩
  have HK := Lib.hid (fun W => balKey_any a d W ha hd)
  unfold balV
  cases h0 : identB a with
  | false =>
    have h0' : identL a.data.toList = false := h0
    rw [h0'] at HI
    rw [hp]
    clear h0 h0' h hp
    show Calls Tryz.prog 12 _ _ fun e w' => e = .returned U4.zero.val ∧ _
    go_enter Tryz.func12, Tryz.ntmps12
    go_wp2_with fail
    refine (HI.out _).mono ?_
    rintro e w1 ⟨rfl, rfl⟩
    have hk3 : LBlk (w.alloc (.cells #[.int .u64 0, .int .u64 0, .int .u64 0, .int .u64 0] 25)) w.heap.size U4.zero.cells := HK0.out
    obtain ⟨z0, z1, z2, z3⟩ := hk3.all
    have y0 := blk_free hk3 0
    have y1 := blk_free hk3 1
    have y2 := blk_free hk3 2
    have y3 := blk_free hk3 3
    have hk4 := LBlk.set4 (s := U4.zero) hk3 U4.zero
    obtain ⟨d0, d1, d2, d3⟩ := hk4.all
    have HD := Lib.hid (⟨d0, d1, d2, d3⟩ : _ ∧ _ ∧ _ ∧ _)
    clear hk3 hk4 d0 d1 d2 d3
    go_wp2_with fail
    obtain ⟨d0, d1, d2, d3⟩ := HD.out
    refine bodyPost_ret (v := .agg #[.int .u64 0, .int .u64 0, .int .u64 0, .int .u64 0]) ?_ rfl ⟨rfl, ?_⟩
    · simp [results, Tryz.results12, go_sem, d0, d1, d2, d3]
    · first | exact ha0 | exact (((ha0.setCell (Nat.le_refl _) _).setCell (Nat.le_refl _) _).setCell (Nat.le_refl _) _).setCell (Nat.le_refl _) _
  | true =>
    have h0' : identL a.data.toList = true := h0
    rw [h0'] at HI
    cases h1 : denomB d with
    | false =>
      have h1' : denomL d.data.toList = false := h1
      rw [h1'] at HD
      rw [hp]
      clear h1 h1' h hp h0 h0'
      show Calls Tryz.prog 12 _ _ fun e w' => e = .returned U4.zero.val ∧ _
      go_enter Tryz.func12, Tryz.ntmps12
      go_wp2_with fail
      refine (HI.out _).mono ?_
      rintro e w1 ⟨rfl, rfl⟩
      go_wp2_with fail
      refine (HD.out _).mono ?_
      rintro e w2 ⟨rfl, m, rfl⟩
      have hq := below_drewN' ha0 m
      have hk3 : LBlk ((w.alloc (.cells #[.int .u64 0, .int .u64 0, .int .u64 0, .int .u64 0] 25)).drewN m) w.heap.size U4.zero.cells := HK0.out
      obtain ⟨z0, z1, z2, z3⟩ := hk3.all
      have y0 := blk_free hk3 0
      have y1 := blk_free hk3 1
      have y2 := blk_free hk3 2
      have y3 := blk_free hk3 3
      have hk4 := LBlk.set4 (s := U4.zero) hk3 U4.zero
      obtain ⟨d0, d1, d2, d3⟩ := hk4.all
      have HD := Lib.hid (⟨d0, d1, d2, d3⟩ : _ ∧ _ ∧ _ ∧ _)
      clear hk3 hk4 d0 d1 d2 d3
      go_wp2_with fail
      obtain ⟨d0, d1, d2, d3⟩ := HD.out
      refine bodyPost_ret (v := .agg #[.int .u64 0, .int .u64 0, .int .u64 0, .int .u64 0]) ?_ rfl ⟨rfl, ?_⟩
      · simp [results, Tryz.results12, go_sem, d0, d1, d2, d3]
      · first | exact hq | exact (((hq.setCell (Nat.le_refl _) _).setCell (Nat.le_refl _) _).setCell (Nat.le_refl _) _).setCell (Nat.le_refl _) _
    | true =>
      have h1' : denomL d.data.toList = true := h1
      rw [h1'] at HD
      have HA : Hid (∀ W, Below w.heap.size w W → Calls Tryz.prog 45 #[topV l, .string (kBal a d)] W fun e w' => e = .returned (amtV l (kBal a d)).val ∧ Below W.heap.size W w') := Lib.hid fun W hb => amount_any (h.up hb) _ (keyB_size (kBal_fits h0 h1))
      show Calls Tryz.prog 12 _ _ fun e w' => e = .returned (amtV l (kBal a d)).val ∧ _
      rw [hp] at HA ⊢
      clear h1 h1' h hp h0 h0'
      generalize amtV l (kBal a d) = X at *
      unfold U4.val U4.cells at *
      go_enter Tryz.func12, Tryz.ntmps12
      go_wp2_with fail
      refine (HI.out _).mono ?_
      rintro e w1 ⟨rfl, rfl⟩
      go_wp2_with fail
      refine (HD.out _).mono ?_
      rintro e w2 ⟨rfl, m, rfl⟩
      have hq := below_drewN' ha0 m
      go_wp2_with fail
      refine (HK.out _).mono ?_
      rintro e w3 ⟨rfl, rfl⟩
      go_wp2_with fail
      refine (HA.out _ hq).mono ?_
      rintro e w4 ⟨rfl, hb4⟩
      have hq4 := below_chain hq hq.size hb4
      have hk3 : LBlk w4 w.heap.size U4.zero.cells := (hb4.block w.heap.size (Array.getElem?_eq_some_iff.1 HK0.out).1).trans HK0.out
      obtain ⟨z0, z1, z2, z3⟩ := hk3.all
      have y0 := blk_free hk3 0
      have y1 := blk_free hk3 1
      have y2 := blk_free hk3 2
      have y3 := blk_free hk3 3
      have hk4 := LBlk.set4 (s := U4.zero) hk3 X
      obtain ⟨d0, d1, d2, d3⟩ := hk4.all
      have HD := Lib.hid (⟨d0, d1, d2, d3⟩ : _ ∧ _ ∧ _ ∧ _)
      clear hk3 hk4 d0 d1 d2 d3
      go_wp2_with fail
      obtain ⟨d0, d1, d2, d3⟩ := HD.out
      refine bodyPost_ret (v := .agg #[.int .u64 X.a, .int .u64 X.b, .int .u64 X.c, .int .u64 X.d]) ?_ rfl ⟨rfl, ?_⟩
      · simp [results, Tryz.results12, go_sem, d0, d1, d2, d3]
      · exact (((hq4.setCell (Nat.le_refl _) _).setCell (Nat.le_refl _) _).setCell (Nat.le_refl _) _).setCell (Nat.le_refl _) _

/-- a store of one pile, of which R is seen, behind a call of the bank -/
def BankS (W : World) (y : Lyr) (l : List Lyr) (R : List Pr) (k : Nat) (W' : World) : Prop :=
  ∃ n f, PileS W' (⟨y.b, y.m, n, f⟩ :: l) ∧ SeenL ⟨#[]⟩ (⟨y.b, y.m, n, f⟩ :: l) R ∧ n ≤ y.n + k ∧ Chg W W' (fun k => k = y.m)
theorem BankS.refl {W : World} {y : Lyr} {l : List Lyr} {R : List Pr} (h : PileS W (y :: l)) (hs : SeenL ⟨#[]⟩ (y :: l) R) : BankS W y l R 0 W := ⟨y.n, y.f, h, hs, Nat.le_refl _, Chg.refl _ _⟩
theorem BankS.up {W W' W2 : World} {y : Lyr} {l : List Lyr} {R : List Pr} {k k' : Nat} (h : BankS W y l R k W') (hb : Below W'.heap.size W' W2) (hk : k ≤ k') : BankS W y l R k' W2 := by
  obtain ⟨n, f, h1, h2, h3, h4⟩ := h
  exact ⟨n, f, h1.up hb, h2, by omega, h4.trans' (.of_below hb _)⟩
/-- one amount kept -/
theorem BankS.keep_any {W W' : World} {y : Lyr} {l : List Lyr} {R : List Pr} {k : Nat} (h : BankS W y l R k W') (hn : y.n + k < maxLen) {key : ByteArray} (hk : keyB key = true) {x : U4} (hx : x.ok) :
    Calls Tryz.prog 90 #[.pointer (some ⟨y.b, 0, none⟩), .string key, x.val] W' fun e w' => e = .returned (.tuple #[]) ∧ BankS W y l (keepL key x R) (k + 1) w' ∧ Kept W' w' := by
  obtain ⟨n, f, h1, h2, h3, h4⟩ := h
  refine (Go.Proofs.YtniclaapiabmdaaGreatDoor.keep_any h1 (show n < maxLen by omega) key hk x hx).mono ?_
  rintro e w' ⟨he, hp, hc⟩
  refine ⟨he, ?_, ⟨_, hc, h1.1.maps⟩⟩
  have hs := h2.keep (keyB_size hk) x
  obtain ⟨n2, f2, e2, hn2⟩ := Lyr.keep_form ⟨y.b, y.m, n, f⟩ l.isEmpty key x
  rw [e2] at hp hs
  have hn3 : n2 ≤ n + 1 := hn2
  exact ⟨n2, f2, hp, hs, by omega, h4.trans' hc⟩
theorem Below.set4U {B : Nat} {w w' : World} {g : Nat} (h : Below B w w') (hg : B ≤ g) (x0 x1 x2 x3 : Value) : Below B w ((((w'.setCell ⟨g, 0, none⟩ x0).setCell ⟨g, 1, none⟩ x1).setCell ⟨g, 2, none⟩ x2).setCell ⟨g, 3, none⟩ x3) :=
  (((h.setCell hg _).setCell hg _).setCell hg _).setCell hg _

theorem BankS.from_ {W0 W W' : World} {y : Lyr} {l : List Lyr} {R : List Pr} {k : Nat} (h : BankS W y l R k W') (hb : Below W0.heap.size W0 W) : BankS W0 y l R k W' := by
  obtain ⟨n, f, h1, h2, h3, h4⟩ := h
  exact ⟨n, f, h1, h2, h3, (Chg.of_below hb _).trans' h4⟩
/-- a number handed in by value, in the block that the call makes for it -/
theorem boxU (w : World) (x : U4) : ∀ W, Below (w.alloc (.cells x.cells 25)).heap.size (w.alloc (.cells x.cells 25)) W → Below w.heap.size w W ∧ (W.cell? ⟨w.heap.size, 0, none⟩ = some (.int .u64 (x.a : Int)) ∧ W.cell? ⟨w.heap.size, 1, none⟩ = some (.int .u64 (x.b : Int)) ∧ W.cell? ⟨w.heap.size, 2, none⟩ = some (.int .u64 (x.c : Int)) ∧ W.cell? ⟨w.heap.size, 3, none⟩ = some (.int .u64 (x.d : Int))) := fun W hb => by
  have ha0 : Below w.heap.size w (w.alloc (.cells x.cells 25)) := (Below.refl _ _).alloc (Nat.le_refl _) _
  have hl : w.heap.size < (w.alloc (.cells x.cells 25)).heap.size := by simp
  exact ⟨below_chain ha0 ha0.size hb, ((LBlk.new w x.cells).below hb hl).all⟩
end Go.Proofs.YtniclaapiabmdaaGreatDoor
namespace Go.Proofs.YtniclaapiabmdaaGreatDoor
set_option maxRecDepth 100000
open Go Go.RowKit
set_option linter.unusedVariables false

theorem addU_ok' (x y : U4) : (addU x y).1.ok := by
  unfold addU
  split
  · exact ofN_ok _
  · exact zero_ok
end Go.Proofs.YtniclaapiabmdaaGreatDoor
namespace Go.Proofs.YtniclaapiabmdaaGreatDoor
set_option maxRecDepth 100000
open Go Go.RowKit
set_option linter.unusedVariables false

theorem subU_ok' (x y : U4) : (subU x y).1.ok := by
  unfold subU
  split
  · exact ofN_ok _
  · exact zero_ok
end Go.Proofs.YtniclaapiabmdaaGreatDoor
namespace Go.Proofs.YtniclaapiabmdaaGreatDoor
set_option maxRecDepth 100000
open Go Go.RowKit
set_option linter.unusedVariables false

theorem beq_toList_ne {s t : ByteArray} (h : ¬ s = t) : (s.toList == t.toList) = false := by
  rw [Lib.toList_data, Lib.toList_data]
  refine beq_eq_false_iff_ne.2 fun e => h ?_
  cases s with | mk a => cases t with | mk b =>
  have : a = b := by simpa using e
  rw [this]
end Go.Proofs.YtniclaapiabmdaaGreatDoor
