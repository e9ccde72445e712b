/- Texts joined: LimbN1, TxW, TxX, NameI1, ValA0. -/
import Derived.Test.YtpcoonnfaoakhaaM01
import Derived.Deep.Onto
import Derived.Test.YtpcoonnfaoakhaaM02
import Derived.Laws.Bits64b
import Derived.Deep.RegionLaw
import Derived.Lib.Bytealg
import Derived.Lib.Strings
import Derived.Test.YtpcoonnfaoakhaaProg
import Derived.WalkKit
import Derived.WalkSpells
import Derived.Deep.QuietTactic
import Derived.BigQuiet
import Derived.Deep.Draws
import Derived.Lib.Hide
import Derived.LoopTactic
import Derived.Laws.Externs
import Derived.Lib.CutLaws
import Derived.Lib.Walk
import Derived.Laws.Strings3
namespace Go.Proofs.Ytpcoonnfaoakhaa
set_option maxRecDepth 100000
open Go Go.RowKit

def intV (d : Nat) : Value := .int .i64 (d : Int)
def dcells (p : List Nat) : List Value := p.map intV
section
variable {w w' : World} {B B' b k : Nat} {t : TypeId} {v : Value} {D : List Nat}
/-- a row of numbers, of the call's own from B on -/
def OwnI (w : World) (B : Nat) (v : Value) (D : List Nat) : Prop := w.ownsRow B 3 1 v D.length (dcells D)
theorem OwnI.form (h : OwnI w B v D) : ∃ A c, v = .slice A D.length c := by
  rcases h.2 with ⟨rfl, h0⟩ | ⟨g, cap, cur, rfl, _⟩
  · exact ⟨none, 0, by rw [h0]⟩
  · exact ⟨_, _, rfl⟩
theorem OwnI.nil (w : World) (B : Nat) : OwnI w B (.slice none 0 0) [] := World.ownsRow_nil w B _ 1
theorem OwnI.more (h : OwnI w B v D) (hB : B' ≤ B) : OwnI w B' v D := World.ownsRow.mono h hB
theorem OwnI.up (h : OwnI w B v D) (hb : Below w.heap.size w w') : OwnI w' B v D := by
  refine ⟨h.1, ?_⟩
  rcases h.2 with h0 | ⟨g, cap, cur, hv, hB, hg, rest⟩
  · exact .inl h0
  · exact .inr ⟨g, cap, cur, hv, hB, (hb.block g (Array.getElem?_eq_some_iff.1 hg).1).trans hg, rest⟩
theorem OwnI.at_ {A : Option Addr} {n c : Nat} (h : OwnI w B (.slice A n c) D) (j : Nat) (hj : j < D.length) : ∃ g, A = some ⟨g, 0, none⟩ ∧ n = D.length ∧ g < w.heap.size ∧ w.cell? ⟨g, j, none⟩ = some (.int .i64 (D.getD j 0 : Int)) := by
  rcases h.2 with ⟨_, h0⟩ | ⟨g, cap, cur, hv, hb, hg, hn, hm, hs, ht⟩
  · omega
  · injection hv with h1 h2 h3
    subst h1; subst h2; subst h3
    refine ⟨g, rfl, rfl, (Array.getElem?_eq_some_iff.1 hg).1, ?_⟩
    have hx : (dcells D)[j]? = some (.int .i64 (D.getD j 0 : Int)) := by simp [dcells, intV, hj, List.getD_eq_getElem?_getD]
    rw [cell_of_row w g _ cur _ (0, 0) hg]
    rw [← ht, List.getElem?_take] at hx
    split at hx
    · simpa using hx
    · cases hx
/-- a number of it is written -/
theorem OwnI.put {A : Option Addr} {n c k : Nat} (h : OwnI w B (.slice A n c) D) (hk : k < D.length) :
    ∃ g, A = some ⟨g, 0, none⟩ ∧ B ≤ g ∧ g < w.heap.size ∧ w.cell? ⟨g, k, none⟩ = some (.int .i64 (D.getD k 0 : Int)) ∧ w.frozen? ⟨g, k, none⟩ = false ∧
      ∀ x : Nat, OwnI (w.setCell ⟨g, k, none⟩ (.int .i64 (x : Int))) B (.slice A n c) (D.set k x) := by
  obtain ⟨g, rfl, hn, hlt, hcell⟩ := h.at_ k hk
  have hlt2 := World.ownsRow.lt h g rfl
  subst hn
  refine ⟨g, rfl, hlt2.1, hlt, hcell, World.ownsRow.frozenAt (h : w.ownsRow B _ 1 _ _ _) k, fun x => ?_⟩
  have h2 := World.ownsRow.stored (h : w.ownsRow B _ 1 _ _ _) k (.int .i64 (x : Int))
  unfold OwnI
  rw [List.length_set]
  have e : dcells (D.set k x) = (dcells D).set k (.int .i64 (x : Int)) := by simp [dcells, List.map_set, intV]
  rw [e]
  exact h2.1
theorem OwnI.grown (h : OwnI w B v D) {row : Option Nat} (hg : w.grownBy w' row) (hne : v.ownBlock = none ∨ v.ownBlock ≠ row) : OwnI w' B v D := World.ownsRow.kept h hg hne
theorem OwnI.drew (h : OwnI w B v D) : OwnI w.drew B v D := h
theorem OwnI.drewN (h : OwnI w B v D) (q : Nat) : OwnI (w.drewN q) B v D := h
theorem OwnI.alloc (h : OwnI w B v D) (o : Obj) : OwnI (w.alloc o) B v D := World.ownsRow.alloc h o
theorem OwnI.lt (h : OwnI w B v D) : ∀ k, v.ownBlock = some k → B ≤ k ∧ k < w.heap.size := World.ownsRow.lt h
theorem OwnI.below (h : OwnI w B v D) {w0 : World} (h0 : Below B w0 w) (hB : B ≤ w.heap.size) (hg : w.grownBy w' v.ownBlock) : Below B w0 w' := h0.grown hg hB fun k hk => (h.lt k hk).1

variable {P : Program}
end
end Go.Proofs.Ytpcoonnfaoakhaa
namespace Go.Proofs.Ytpcoonnfaoakhaa
set_option maxRecDepth 100000
open Go Go.RowKit

theorem at_eq (x : U4) (i : Nat) : x.at i = x.at' i := by
  unfold U4.at U4.at'
  rfl
theorem at_lt' {x : U4} (hx : x.ok) (k : Nat) : x.at k < 18446744073709551616 := by
  unfold U4.at
  split
  · exact hx.1
  · exact hx.2.1
  · exact hx.2.2.1
  · exact hx.2.2.2
theorem OwnI.zero (w : World) (B : Nat) (n : Nat) : OwnI w B (.slice none 0 0) (byL n 0) := OwnI.nil w B

end Go.Proofs.Ytpcoonnfaoakhaa
namespace Go.Proofs.Ytpcoonnfaoakhaa
set_option maxRecDepth 100000
open Go Go.RowKit

theorem cells4 {a b c d a' b' c' d' : Nat} (h1 : a = a') (h2 : b = b') (h3 : c = c') (h4 : d = d') : (#[.int .u64 (a : Int), .int .u64 (b : Int), .int .u64 (c : Int), .int .u64 (d : Int)] : Array Value) = #[.int .u64 (a' : Int), .int .u64 (b' : Int), .int .u64 (c' : Int), .int .u64 (d' : Int)] := by
  subst h1; subst h2; subst h3; subst h4; rfl
theorem two (w : World) (X Y : Array Value) : LBlk ((w.alloc (.cells X 45)).alloc (.cells Y 45)) w.heap.size X ∧
    LBlk ((w.alloc (.cells X 45)).alloc (.cells Y 45)) (w.heap.size + 1) Y ∧
    Below w.heap.size w ((w.alloc (.cells X 45)).alloc (.cells Y 45)) := by
  refine ⟨(LBlk.new w X).alloc _, ?_, ((Below.refl _ _).alloc (Nat.le_refl _) _).alloc (by simp) _⟩
  have := LBlk.new (w.alloc (.cells X 45)) Y
  simpa using this

end Go.Proofs.Ytpcoonnfaoakhaa
namespace Go.Proofs.Ytpcoonnfaoakhaa
set_option maxRecDepth 100000
open Go Go.RowKit

theorem be_get (n : Nat) : ∀ k j (h : j < (be n k).length), (be n k)[j] = UInt8.ofNat (n / 2 ^ (8 * (k - 1 - j)))
  | 0, j, h => by simp [be] at h
  | k + 1, 0, h => by simp [be]
  | k + 1, j + 1, h => by
    have ih := be_get n k j (by simpa [be] using h)
    simp only [be, List.getElem_cons_succ, ih]
    rw [show k + 1 - 1 - (j + 1) = k - 1 - j by omega]
theorem be_byte {x : U4} (hx : x.ok) (k : Nat) (hk : k < 32) : (be x.nat 32)[k]'(by rw [be_length]; omega) = UInt8.ofNat (x.at ((31 - k) / 8) / 256 ^ ((31 - k) % 8)) := by
  have h := at_byte hx ((31 - k) / 8) ((31 - k) % 8) (by omega) (Nat.mod_lt _ (by decide))
  rw [Nat.div_add_mod] at h
  rw [be_get, show 32 - 1 - k = 31 - k by omega, show 2 ^ (8 * (31 - k)) = 256 ^ (31 - k) by rw [Nat.pow_mul], at_eq]
  apply UInt8.toNat_inj.1
  simp only [UInt8.toNat_ofNat']
  exact h.symm
/-- the first k bytes are there, the others are 0 -/
def partB (n k : Nat) : List UInt8 := (be n 32).take k ++ List.replicate (32 - k) 0
theorem partB_set (n k : Nat) (hk : k < 32) : (partB n k).set k ((be n 32)[k]'(by rw [be_length]; omega)) = partB n (k + 1) := by
  have hl := be_length n 32
  unfold partB
  obtain ⟨m, hm⟩ : ∃ m, 32 - k = m + 1 := ⟨31 - k, by omega⟩
  have h0 : k - ((be n 32).take k).length = 0 := by rw [List.length_take]; omega
  rw [hm, show 32 - (k + 1) = m by omega, List.set_append_right _ _ (by rw [List.length_take]; omega), h0, List.replicate_succ, List.set_cons_zero, List.take_succ_eq_append_getElem (by omega), List.append_assoc]
  rfl
theorem partB_length (n k : Nat) (hk : k ≤ 32) : (partB n k).length = 32 := by
  unfold partB
  rw [List.length_append, List.length_take, be_length, List.length_replicate]; omega

set_option maxHeartbeats 2000000 in
theorem bytes_any (x : U4) (w : World) (hx : x.ok) : Calls Try.prog 54 #[x.val] w fun e w' => ∃ v', e = .returned v' ∧ Own w' w.heap.size v' (be x.nat 32) ∧ Below w.heap.size w w' := by
  have HX := Lib.hid hx
  have HBB := Lib.hid (fun k hk => be_byte hx k hk)
  clear hx
  obtain ⟨X, hX⟩ : ∃ X, X = x.cells := ⟨_, rfl⟩
  unfold U4.val
  rw [← hX]
  have CX := Lib.hid (fun (k : Nat) (h : k < 4) => hX ▸ x.cell_at h)
  clear hX
  have hblk := LBlk.new w X
  have hbw : Below w.heap.size w (w.alloc (.cells X 45)) := (Below.refl _ _).alloc (Nat.le_refl _) _
  obtain ⟨i0, hi, hz, hsz, hby⟩ := info_parts Try.infoByte
  have hmk : ∀ W : World, (Instr.makeSlice 24 (.int .i64 32) (.int .i64 32)).run Try.prog W = .ok (.slice (some ⟨W.heap.size, 0, none⟩) 32 32) (W.alloc (.cells (bcells (List.replicate 32 0)).toArray 5)) := by
    intro W
    have h := run_make W 24 5 i0 (.int .u8 0) Try.underlying24 hi hz .i64 .i64 32 32 (by omega) (by omega) (by rw [hby]; omega) (by omega)
    rw [hsz] at h
    have e : madeCells (Value.int .u8 0).cells (Int.toNat 32 * 1) = (bcells (List.replicate 32 0)).toArray := by
      rw [show Int.toNat 32 * 1 = 32 from rfl]
      apply Array.ext'
      rw [show (Value.int IntKind.u8 0).cells = #[Value.int .u8 0] from rfl, toList_madeCells_one]
      rfl
    rw [e] at h
    exact h
  obtain ⟨N, hN⟩ : ∃ N, N = x.nat := ⟨_, rfl⟩
  have HN := Lib.hid hN
  clear hN
  go_enter Try.func54, Try.ntmps54
  go_wp2_with fail
  have hO := Own.made (B := (w.alloc (.cells X 45)).heap.size) (w.alloc (.cells X 45)) (List.replicate 32 0) (Nat.le_refl _) (by simp [maxLen])
  have hbw2 : Below (w.alloc (.cells X 45)).heap.size (w.alloc (.cells X 45)) ((w.alloc (.cells X 45)).alloc (.cells (bcells (List.replicate 32 0)).toArray 5)) := (Below.refl _ _).alloc (Nat.le_refl _) _
  have hze : (w.alloc (.cells X 45)).heap.size = w.heap.size + 1 := by simp
  rw [hze] at hO hbw2
  have hp0 : partB N 0 = List.replicate 32 0 := rfl
  generalize w.alloc (.cells X 45) = w0 at *
  have HZ := Lib.hid hze
  clear hze hmk
  go_loopw [9] (fun i wr => ∃ k : Nat, k ≤ 32 ∧ i = .int .i64 (k : Int) ∧ Own wr (w.heap.size + 1) (.slice (some ⟨w.heap.size + 1, 0, none⟩) 32 32) (partB N k) ∧ Below (w.heap.size + 1) w0 wr)
    (fun i _ => 32 - (intOf i).toNat)
  case atStart => exact ⟨0, Nat.zero_le _, rfl, by rw [hp0]; exact hO, hbw2⟩
  case round =>
    clear hO hbw2
    obtain ⟨k, hk, rfl, ho, hb⟩ := hrel
    have hpl := partB_length N k hk
    by_cases hlt : k < 32
    · have i1 : (k : Int) < 32 := by omega
      have j0 : (0 : Int) ≤ (k : Int) := by omega
      obtain ⟨gA, hgA, _, hgs, hcell, hfz, hput⟩ := ho.at_ hlt (by omega)
      injection hgA with hgA
      injection hgA with hgA _ _
      subst hgA
      have hps := partB_set N k hlt
      have hby2 := HBB.out k hlt
      rw [← HN.out] at hby2
      rw [hby2] at hps
      obtain ⟨low, hlow⟩ : ∃ low, low = 31 - k := ⟨_, rfl⟩
      rw [← hlow] at hps hby2
      have hlt4 : low / 8 < 4 := by omega
      have hc := ((hb.cell (p := ⟨w.heap.size, low / 8, none⟩) (by simp)).trans (blk_cell hblk (low / 8))).trans (CX.out (low / 8) hlt4)
      have ha := at_lt' HX.out (low / 8)
      generalize x.at (low / 8) = a at *
      have HS := Lib.hid (by have h := hput (UInt8.ofNat (a / 256 ^ (low % 8))); rw [hps] at h; exact h)
      have e31 : (31 : Int) - (k : Int) = (low : Int) := by omega
      have l0 : (0 : Int) ≤ (low : Int) := by omega
      have l32 : (low : Int) < 32 := by omega
      have HPL := Lib.hid hpl
      generalize (partB N k)[k]'_ = old at hcell
      clear hput hps hby2 hlow ho hpl
      go_wp2_with fail
      have hv : Value.int .u8 ((a : Int) / 2 ^ (8 * (low % 8)) % 256) = bval (UInt8.ofNat (a / 256 ^ (low % 8))) := by
        have h : (2 : Nat) ^ (8 * (low % 8)) = 256 ^ (low % 8) := by rw [Nat.pow_mul]
        unfold bval
        rw [UInt8.toNat_ofNat', ← h]
        congr 1
      rw [hv]
      refine ⟨⟨k + 1, by omega, rfl, HS.out, hb.setCell (Nat.le_refl _) _⟩, ?_⟩
      simp only [intOf]
      omega
    · have hk32 : k = 32 := by omega
      subst hk32
      have hfull : partB N 32 = be N 32 := by
        unfold partB
        rw [List.take_of_length_le (by rw [be_length]; omega)]
        simp
      rw [hfull, HN.out] at ho
      clear hfull hpl hp0
      go_wp2_with fail
      try go_ret
      refine ⟨_, rfl, Own.more ho (by omega), hbw.trans (hb.mono (by omega))⟩
end Go.Proofs.Ytpcoonnfaoakhaa
namespace Go.Proofs.Ytpcoonnfaoakhaa
set_option maxRecDepth 100000
open Go Go.RowKit

/-- the first k numbers are there, the others are 0 -/
def partI (L : List Nat) (k : Nat) : List Nat := L.take k ++ List.replicate (32 - k) 0
theorem OwnI.made (w : World) {B : Nat} (D : List Nat) (hb : B ≤ w.heap.size) (hm : D.length ≤ maxLen) : OwnI (w.alloc (.cells (dcells D).toArray 3)) B (.slice (some ⟨w.heap.size, 0, none⟩) D.length D.length) D :=
  ⟨by simp [dcells], .inr ⟨w.heap.size, D.length, _, rfl, hb, heap_alloc_new w _, Nat.le_refl _, hm, by simp [dcells], by simp [dcells, List.take_of_length_le]⟩⟩
end Go.Proofs.Ytpcoonnfaoakhaa
namespace Go.Proofs.Ytpcoonnfaoakhaa
set_option maxRecDepth 100000
open Go Go.RowKit

theorem pow_v (r : Nat) (h : r < 8) : ∃ v, 1 ≤ v ∧ 18446744073709551616 = 256 ^ r * 256 * v := by
  have : r = 0 ∨ r = 1 ∨ r = 2 ∨ r = 3 ∨ r = 4 ∨ r = 5 ∨ r = 6 ∨ r = 7 := by omega
  rcases this with rfl | rfl | rfl | rfl | rfl | rfl | rfl | rfl
  · exact ⟨2 ^ 56, by decide, by decide⟩
  · exact ⟨2 ^ 48, by decide, by decide⟩
  · exact ⟨2 ^ 40, by decide, by decide⟩
  · exact ⟨2 ^ 32, by decide, by decide⟩
  · exact ⟨2 ^ 24, by decide, by decide⟩
  · exact ⟨2 ^ 16, by decide, by decide⟩
  · exact ⟨2 ^ 8, by decide, by decide⟩
  · exact ⟨1, by decide, by decide⟩
theorem high_step (M k d : Nat) (hk : k < 32) (hd : d < 256) :
    (ofN (M * 256 ^ (k + 1) + 256 ^ k * d)).cells = (ofN (M * 256 ^ (k + 1))).cells.setIfInBounds (k / 8) (.int .u64 (((ofN (M * 256 ^ (k + 1))).at (k / 8) + d * 256 ^ (k % 8) : Nat) : Int)) ∧
      (ofN (M * 256 ^ (k + 1))).at (k / 8) + d * 256 ^ (k % 8) < 18446744073709551616 ∧ ∃ e, (ofN (M * 256 ^ (k + 1))).at (k / 8) = 256 ^ (k % 8) * 256 * e := by
  obtain ⟨p0, p1, p2, p3⟩ := pow8
  have hr : k % 8 < 8 := Nat.mod_lt _ (by decide)
  obtain ⟨v, hv1, hv⟩ := pow_v (k % 8) hr
  have he : 256 ^ k = 256 ^ (8 * (k / 8)) * 256 ^ (k % 8) := by rw [← Nat.pow_add, Nat.div_add_mod]
  have ht : d * 256 ^ (k % 8) ≤ 255 * 256 ^ (k % 8) := Nat.mul_le_mul_right _ (by omega)
  have hp1 : 0 < 256 ^ (k % 8) := Nat.pow_pos (by decide)
  have hm : 256 ^ k * d = 256 ^ (8 * (k / 8)) * (d * 256 ^ (k % 8)) := by rw [he, Nat.mul_assoc, Nat.mul_comm (256 ^ (k % 8)) d]
  have hV : M * 256 ^ (k + 1) = 256 ^ (8 * (k / 8)) * (256 ^ (k % 8) * 256 * M) := by
    rw [Nat.pow_succ, he, Nat.mul_comm M, Nat.mul_assoc, Nat.mul_assoc, Nat.mul_assoc]
  have hq : k / 8 = 0 ∨ k / 8 = 1 ∨ k / 8 = 2 ∨ k / 8 = 3 := by omega
  rw [hm, hV]
  generalize d * 256 ^ (k % 8) = t at *
  generalize 256 ^ (k % 8) = P at *
  generalize k / 8 = q at *
  clear he hm hV hr hk hd
  obtain ⟨m, hm⟩ : ∃ m, m = P * 256 * M := ⟨_, rfl⟩
  rw [← hm]
  have hmm : m % 18446744073709551616 = P * 256 * (M % v) := by rw [hm, hv, Nat.mul_mod_mul_left]
  have hlt : P * 256 * (M % v) + P * 256 ≤ 18446744073709551616 := by
    rw [hv, ← Nat.mul_succ]
    exact Nat.mul_le_mul_left _ (Nat.mod_lt _ hv1)
  have hsum : m % 18446744073709551616 + t < 18446744073709551616 := by omega
  have hex : ∃ e, m % 18446744073709551616 = P * 256 * e := ⟨_, hmm⟩
  clear hmm hlt hm hv hv1 ht hp1
  rcases hq with rfl | rfl | rfl | rfl
  · rw [p0]
    have e0 : (ofN (1 * m)).at 0 = m % 18446744073709551616 := by simp only [ofN, U4.at]; omega
    refine ⟨?_, by rw [e0]; exact hsum, by rw [e0]; exact hex⟩
    rw [e0]
    simp only [ofN, U4.cells, List.setIfInBounds_toArray, List.set_cons_zero]
    exact cells4 (by omega) (by omega) (by omega) (by omega)
  · rw [p1]
    have e0 : (ofN (18446744073709551616 * m)).at 1 = m % 18446744073709551616 := by simp only [ofN, U4.at]; omega
    refine ⟨?_, by rw [e0]; exact hsum, by rw [e0]; exact hex⟩
    rw [e0]
    simp only [ofN, U4.cells, List.setIfInBounds_toArray, List.set_cons_zero, List.set_cons_succ]
    exact cells4 (by omega) (by omega) (by omega) (by omega)
  · rw [p2]
    have e0 : (ofN (340282366920938463463374607431768211456 * m)).at 2 = m % 18446744073709551616 := by simp only [ofN, U4.at]; omega
    refine ⟨?_, by rw [e0]; exact hsum, by rw [e0]; exact hex⟩
    rw [e0]
    simp only [ofN, U4.cells, List.setIfInBounds_toArray, List.set_cons_zero, List.set_cons_succ]
    exact cells4 (by omega) (by omega) (by omega) (by omega)
  · rw [p3]
    have e0 : (ofN (6277101735386680763835789423207666416102355444464034512896 * m)).at 3 = m % 18446744073709551616 := by simp only [ofN, U4.at]; omega
    refine ⟨?_, by rw [e0]; exact hsum, by rw [e0]; exact hex⟩
    rw [e0]
    simp only [ofN, U4.cells, List.setIfInBounds_toArray, List.set_cons_zero, List.set_cons_succ]
    exact cells4 (by omega) (by omega) (by omega) (by omega)
theorem or_high (a d r : Nat) (hr : r < 8) (hd : d < 256) (hs : a + d * 256 ^ r < 18446744073709551616) (ha : ∃ e, a = 256 ^ r * 256 * e) : bits .or .u64 (a : Int) (IntKind.u64.wrap ((d : Int) * 2 ^ min (8 * r) 64)) = ((a + d * 256 ^ r : Nat) : Int) := by
  obtain ⟨e', hae⟩ := ha
  have ht : d * 256 ^ r ≤ 255 * 256 ^ r := Nat.mul_le_mul_right _ (by omega)
  have hp1 : 0 < 256 ^ r := Nat.pow_pos (by decide)
  have e : (d : Int) * 2 ^ min (8 * r) 64 = ((d * 256 ^ r : Nat) : Int) := by
    rw [Nat.min_eq_left (by omega), show 256 ^ r = 2 ^ (8 * r) by rw [Nat.pow_mul]]
    push_cast
    rfl
  have hp : 256 ^ r * 256 = 2 ^ (8 * (r + 1)) := by rw [Nat.pow_mul]; rfl
  have hlt : d * 256 ^ r < 2 ^ (8 * (r + 1)) := by rw [← hp]; omega
  have hor := Nat.two_pow_add_eq_or_of_lt (i := 8 * (r + 1)) hlt e'
  rw [e, IntKind.wrap_u64]
  rw [show ((d * 256 ^ r : Nat) : Int) % 18446744073709551616 = ((d * 256 ^ r : Nat) : Int) by omega, bits_or_u64_nat _ _ (by omega) (by omega)]
  congr 1
  rw [hae, hp, ← hor]
theorem or_high' (a d r : Nat) (hr : r < 8) (hd : d < 256) (hs : a + d * 256 ^ r < 18446744073709551616) (ha : ∃ e, a = 256 ^ r * 256 * e) : bits .or .u64 (a : Int) (IntKind.u64.wrap ((d : Int) * 2 ^ (8 * r))) = ((a + d * 256 ^ r : Nat) : Int) := by
  have h := or_high a d r hr hd hs ha
  rw [Nat.min_eq_left (by omega)] at h
  exact h
theorem valB_snoc (l : List UInt8) (d : UInt8) : valB (l ++ [d]) = d.toNat + 256 * valB l := by
  simp [valB, valL]
/-- the number that the first k of 32 bytes make -/
def highB (l : List UInt8) (k : Nat) : Nat := valB (l.take k) * 256 ^ (32 - k)
theorem highB_step (l : List UInt8) (hl : l.length = 32) (k : Nat) (hk : k < 32) : highB l k = valB (l.take k) * 256 ^ (31 - k + 1) ∧ highB l (k + 1) = valB (l.take k) * 256 ^ (31 - k + 1) + 256 ^ (31 - k) * (l.getD k 0).toNat := by
  unfold highB
  refine ⟨by rw [show 32 - k = 31 - k + 1 by omega], ?_⟩
  rw [List.take_succ_eq_append_getElem (by omega), valB_snoc, show 32 - (k + 1) = 31 - k by omega, List.getD_eq_getElem?_getD, List.getElem?_eq_getElem (by omega), Nat.pow_succ, Nat.add_mul, Nat.add_comm]
  show 256 * valB (l.take k) * 256 ^ (31 - k) + l[k].toNat * 256 ^ (31 - k) = valB (l.take k) * (256 ^ (31 - k) * 256) + 256 ^ (31 - k) * l[k].toNat
  rw [Nat.mul_comm l[k].toNat, Nat.mul_comm 256, Nat.mul_assoc, Nat.mul_comm 256]

set_option maxHeartbeats 2000000 in
theorem from_any (v : Value) (l : List UInt8) (w : World) (hr : Rd w w.heap.size v l) :
    Calls Try.prog 61 #[v] w fun e w' => e = .returned (.tuple #[(fromU l).1.val, .int .i64 (fromU l).2]) ∧ Below w.heap.size w w' := by
  have hlm := hr.len
  unfold maxLen at hlm
  obtain ⟨A, c, rfl⟩ := hr.form
  have hbx := LBlk.new w U4.zero.cells
  have hbw : Below w.heap.size w (w.alloc (.cells U4.zero.cells 45)) := (Below.refl _ _).alloc (Nat.le_refl _) _
  by_cases hl : l.length = 32
  · have hU : fromU l = (ofN (valB l), 0) := if_pos hl
    obtain ⟨hn, b, o, rfl, hbB, hcell⟩ := hr.cell (by omega)
    rw [hU]
    have HC : Hid (∀ k, k < 32 → w.cell? ⟨b, o + k, none⟩ = some (.int .u8 ((l.getD k 0).toNat : Int))) := Lib.hid (fun k hk => by
      rw [hcell k (by omega), List.getD_eq_getElem?_getD, List.getElem?_eq_getElem (by omega)]
      rfl)
    have HST := Lib.hid (highB_step l hl)
    have HF : Hid (highB l 32 = valB l) := Lib.hid (by
      unfold highB
      rw [List.take_of_length_le (by omega), Nat.sub_self, Nat.pow_zero, Nat.mul_one])
    have H0 : Hid (highB l 0 = 0) := Lib.hid (by
      unfold highB
      rw [List.take_zero, show valB [] = 0 from rfl, Nat.zero_mul])
    clear hcell hU hr
    rw [hl]
    clear hl hn hlm
    have h3 := two w U4.zero.cells U4.zero.cells
    clear hbx hbw
    go_enter Try.func61, Try.ntmps61
    go_wp2_with fail
    generalize hw0 : (w.alloc (.cells #[.int .u64 0, .int .u64 0, .int .u64 0, .int .u64 0] 45)).alloc (.cells #[.int .u64 0, .int .u64 0, .int .u64 0, .int .u64 0] 45) = w0
    replace h3 : LBlk w0 w.heap.size U4.zero.cells ∧ LBlk w0 (w.heap.size + 1) U4.zero.cells ∧ Below w.heap.size w w0 := by rw [← hw0]; exact h3
    clear hw0
    obtain ⟨h0, h1, h2⟩ := h3
    go_loopw [14] (fun i wr => ∃ k : Nat, k ≤ 32 ∧ i = .int .i64 (k : Int) ∧ LBlk wr w.heap.size U4.zero.cells ∧ LBlk wr (w.heap.size + 1) (ofN (highB l k)).cells ∧ Below w.heap.size w wr)
      (fun i _ => 32 - (intOf i).toNat)
    case atStart => exact ⟨0, Nat.zero_le _, rfl, h0, by rw [H0.out]; exact h1, h2⟩
    case round =>
      clear h0 h1 h2
      obtain ⟨j, hj, rfl, hb0, hb1, hb⟩ := hrel
      by_cases hlt : j < 32
      · have i1 : (j : Int) < 32 := by omega
        have i0 : (0 : Int) ≤ (j : Int) := by omega
        have hc := (hb.cell (p := ⟨b, o + j, none⟩) hbB).trans (HC.out j hlt)
        have hdv : (l.getD j 0).toNat < 256 := (l.getD j 0).toNat_lt
        obtain ⟨t1, t2⟩ := HST.out j hlt
        obtain ⟨k, hk⟩ : ∃ k, k = 31 - j := ⟨_, rfl⟩
        rw [← hk] at t1 t2
        rw [t1] at hb1
        have T2 := Lib.hid t2
        generalize valB (l.take j) = M at *
        obtain ⟨s1, s2, s3⟩ := high_step M k (l.getD j 0).toNat (by omega) hdv
        have e1 := (blk_cell hb1 (k / 8)).trans (U4.cell_at _ (by omega))
        have e2 := blk_free hb1 (k / 8)
        rw [← t2] at s1
        clear t1 t2
        generalize (l.getD j 0).toNat = d at *
        generalize M * 256 ^ (k + 1) = V at *
        generalize (ofN V).at (k / 8) = a at *
        have S1 := Lib.hid s1
        have S2 := Lib.hid s2
        have S3 := Lib.hid s3
        have e31 : (31 : Int) - (j : Int) = (k : Int) := by omega
        have l0 : (0 : Int) ≤ (k : Int) := by omega
        have l32 : (k : Int) < 32 := by omega
        have k8 : (k : Int) / 8 < 4 := by omega
        have k80 : (0 : Int) ≤ (k : Int) / 8 := by omega
        have w1 : IntKind.i64.wrap ((k : Int) / 8) = (k : Int) / 8 := IntWalk.i64_in _ (by omega)
        have w2 : (k : Int).tmod 8 = (k : Int) % 8 := Int.tmod_eq_emod_of_nonneg (by omega)
        have w3 : IntKind.i64.wrap ((k : Int) % 8) = (k : Int) % 8 := IntWalk.i64_in _ (by omega)
        have w4 : IntKind.i64.wrap (8 * ((k : Int) % 8)) = 8 * ((k : Int) % 8) := IntWalk.i64_in _ (by omega)
        have w5 : (k : Int).tdiv 8 = (k : Int) / 8 := Int.tdiv_eq_ediv_of_nonneg (by omega)
        have w6 : ((k : Int) / 8).toNat = k / 8 := by omega
        clear s1 s2 s3 hk T2
        go_wp2_with fail
        go_still_tail 12, (by kernel_rfl)
        change wpList _ _ _ _ _ wr.drew
        go_wp2_with fail
        rw [or_high' a d (k % 8) (Nat.mod_lt _ (by decide)) hdv S2.out S3.out]
        refine ⟨⟨j + 1, by omega, by go_num, (LBlk.far hb0 (by omega) _ _).drew, ?_, below_drewN' (hb.setCell (by simp) _) 1⟩, by simp [intOf]; omega⟩
        rw [S1.out]
        exact (hb1.set_ _ _).drew
      · have i1 : ¬ (j : Int) < 32 := by omega
        obtain rfl : j = 32 := by omega
        rw [HF.out] at hb1
        obtain ⟨c0, c1, c2, c3⟩ := hb1.all
        obtain ⟨d0, d1, d2, d3⟩ := hb0.all
        have f0 := hb0.free 0
        have f1 := hb0.free 1
        have f2 := hb0.free 2
        have f3 := hb0.free 3
        have BB := Lib.hid hb
        obtain ⟨s, hs⟩ : ∃ s, s = ofN (valB l) := ⟨_, rfl⟩
        rw [← hs] at c0 c1 c2 c3
        have HS := Lib.hid hs
        clear hb hb0 hb1 hs
        go_wp2
        refine bodyPost_ret (v := .tuple #[.agg s.cells, .int .i64 0]) ?_ rfl ⟨by first | rfl | (rw [← HS.out]; rfl), ?_⟩
        · simp [results, Try.results61, go_sem, U4.cells, d0, d1, d2, d3]
        · have hg : w.heap.size ≤ w.heap.size := by omega
          exact (((BB.out.setCell hg _).setCell hg _).setCell hg _).setCell hg _
  · have hU : fromU l = (U4.zero, 21) := if_neg hl
    rw [hU]
    have hl32 : ¬ (l.length : Int) = 32 := by omega
    obtain ⟨d0, d1, d2, d3⟩ := hbx.all
    clear hU hr hl
    replace hbw : Below w.heap.size w (w.alloc (.cells #[.int .u64 0, .int .u64 0, .int .u64 0, .int .u64 0] 45)) := hbw
    replace d0 : (w.alloc (.cells #[.int .u64 0, .int .u64 0, .int .u64 0, .int .u64 0] 45)).cell? ⟨w.heap.size, 0, none⟩ = some (.int .u64 0) := d0
    replace d1 : (w.alloc (.cells #[.int .u64 0, .int .u64 0, .int .u64 0, .int .u64 0] 45)).cell? ⟨w.heap.size, 1, none⟩ = some (.int .u64 0) := d1
    replace d2 : (w.alloc (.cells #[.int .u64 0, .int .u64 0, .int .u64 0, .int .u64 0] 45)).cell? ⟨w.heap.size, 2, none⟩ = some (.int .u64 0) := d2
    replace d3 : (w.alloc (.cells #[.int .u64 0, .int .u64 0, .int .u64 0, .int .u64 0] 45)).cell? ⟨w.heap.size, 3, none⟩ = some (.int .u64 0) := d3
    clear hbx
    go_enter Try.func61, Try.ntmps61
    go_wp2
    refine bodyPost_ret (v := .tuple #[U4.zero.val, .int .i64 21]) ?_ rfl ⟨rfl, hbw⟩
    simp [results, Try.results61, go_sem, U4.val, U4.cells, U4.zero, d0, d1, d2, d3]
end Go.Proofs.Ytpcoonnfaoakhaa
namespace Go.Proofs.Ytpcoonnfaoakhaa
set_option maxRecDepth 100000
open Go Go.RowKit
set_option linter.unusedVariables false

/-- a writer at block g whose row L lies in blocks from B on -/
def WrA (W : World) (B g : Nat) (L : List UInt8) : Prop := ∃ v, W.heap[g]? = some (.cells #[v] 81 (0, 0)) ∧ Own W B v L ∧ g < B ∧ B ≤ W.heap.size
def encW (s : ByteArray) : List UInt8 := encB (strBytes s)
theorem encB_lenW (m : List UInt8) : (encB m).length ≤ 65539 := by
  unfold encB
  simp [be_length]
  omega
theorem WrA.up {w w' : World} {B g : Nat} {L : List UInt8} (h : WrA w B g L) (hb : Below w.heap.size w w') : WrA w' B g L := by
  obtain ⟨v, h1, h2, h3, h4⟩ := h
  exact ⟨v, (hb.block _ (blk_lt h1)).trans h1, h2.below hb, h3, Nat.le_trans h4 hb.size⟩
end Go.Proofs.Ytpcoonnfaoakhaa
namespace Go.Proofs.Ytpcoonnfaoakhaa
set_option maxRecDepth 100000
open Go Go.RowKit
set_option linter.unusedVariables false

/-- a writer at block g, whose row is L; since W0 nothing has turned but what F names -/
structure WrX (F : Nat → Prop) (W0 W : World) (B g : Nat) (L : List UInt8) : Prop where
  v : ∃ v, W.heap[g]? = some (.cells #[v] 81 (0, 0)) ∧ Own W B v L ∧ ∀ k, v.ownBlock = some k → F k ∨ W0.heap.size ≤ k
  c : Chg W0 W F
  f : F g
  l : ∀ k, F k → g ≤ k
  gB : g < B
  bW : B ≤ W.heap.size
  gW : g < W0.heap.size
section
variable {F : Nat → Prop} {W0 w w' : World} {B g : Nat} {L : List UInt8}
theorem WrX.up (h : WrX F W0 w B g L) (hb : Below w.heap.size w w') : WrX F W0 w' B g L := by
  obtain ⟨⟨v, h1, h2, h3⟩, hc, hF, hFl, hgB, hBw, hgW⟩ := h
  exact ⟨⟨v, (hb.block _ (blk_lt h1)).trans h1, h2.below hb, h3⟩, hc.trans' (Chg.of_below hb F), hF, hFl, hgB, Nat.le_trans hBw hb.size, hgW⟩
theorem WrX.below (h : WrX F W0 w B g L) : Below g W0 w := h.c.below h.l (Nat.le_of_lt h.gW)
theorem WrX.wra (h : WrX F W0 w B g L) : WrA w B g L := by
  obtain ⟨⟨v, h1, h2, h3⟩, hc, hF, hFl, hgB, hBw, hgW⟩ := h
  exact ⟨v, h1, h2, hgB, hBw⟩
/-- a world of its own for what follows: blocks that came since are left alone, too -/
theorem WrX.open_ (h : WrX F W0 w B g L) : ∃ G : Nat → Prop, WrX G w w B g L ∧ (∀ k, G k → k < w.heap.size) ∧ (∀ w' L', WrX G w w' B g L' → WrX F W0 w' B g L') := by
  obtain ⟨⟨v, h1, h2, h3⟩, hc, hF, hFl, hgB, hBw, hgW⟩ := h
  refine ⟨fun k => k = g ∨ v.ownBlock = some k, ⟨⟨v, h1, h2, fun k e => .inl (.inr e)⟩, Chg.refl _ _, .inl rfl, fun k e => ?_, hgB, hBw, blk_lt h1⟩, fun k e => ?_, fun w' L' h' => ?_⟩
  · rcases e with rfl | e
    · exact Nat.le_refl _
    · have := (h2.lt k e).1; omega
  · rcases e with rfl | e
    · exact blk_lt h1
    · exact (h2.lt k e).2
  · obtain ⟨⟨v', k1, k2, k3⟩, kc, -, -, -, kb, -⟩ := h'
    refine ⟨⟨v', k1, k2, fun k e => ?_⟩, hc.trans (kc.mono fun k hk e => ?_), hF, hFl, hgB, kb, hgW⟩
    · rcases k3 k e with (rfl | e) | e
      · exact .inl hF
      · exact h3 k e
      · exact .inr (Nat.le_trans hc.size e)
    · rcases e with rfl | e
      · exact .inl hF
      · rcases h3 k e with e | e
        · exact .inl e
        · exact .inr ⟨e, hk⟩
/-- the same behind a box that is made -/
theorem WrX.box (h : WrX F W0 w B g L) (o : Obj) : ∃ G : Nat → Prop, WrX G (w.alloc o) (w.alloc o) B g L ∧ ¬ G w.heap.size ∧ (∀ w' L', WrX G (w.alloc o) w' B g L' → WrX F W0 w' B g L') := by
  obtain ⟨G, h1, h2, h3⟩ := h.open_
  have hb : Below w.heap.size w (w.alloc o) := (Below.refl _ _).alloc (Nat.le_refl _) _
  have h4 := h1.up hb
  obtain ⟨⟨v, k1, k2, k3⟩, kc, kF, kl, kgB, kb, kgW⟩ := h4
  refine ⟨G, ⟨⟨v, k1, k2, fun k e => ?_⟩, Chg.refl _ _, kF, kl, kgB, kb, blk_lt k1⟩, fun e => absurd (h2 _ e) (by omega), fun w' L' h' => h3 _ _ ?_⟩
  · obtain ⟨v0, j1, j2, j3⟩ := h1.v
    have : v0 = v := by
      have e0 := (hb.block _ (blk_lt j1)).trans j1
      have e1 := k1.symm.trans e0
      injection e1 with e1
      injection e1 with e1
      injection e1 with e1
      injection e1 with e1
      exact e1.symm
    subst this
    rcases j3 k e with e' | e'
    · exact .inl e'
    · exact absurd (j2.lt k e).2 (by omega)
  · obtain ⟨⟨v', m1, m2, m3⟩, mc, mF, ml, mgB, mb, mgW⟩ := h'
    have hs : w.heap.size ≤ (w.alloc o).heap.size := hb.size
    refine ⟨⟨v', m1, m2, fun k e => ?_⟩, (Chg.of_below hb G).trans' mc, mF, ml, mgB, mb, kgW⟩
    rcases m3 k e with e' | e'
    · exact .inl e'
    · exact .inr (Nat.le_trans hs e')
/-- a writer that is new -/
theorem WrX.new (w : World) : WrX (fun k => k = w.heap.size) (w.alloc (.cells #[.slice none 0 0] 81)) (w.alloc (.cells #[.slice none 0 0] 81)) (w.heap.size + 1) w.heap.size [] :=
  ⟨⟨_, heap_alloc_new w _, Own.nil _ _, fun k e => by cases e⟩, Chg.refl _ _, rfl, fun k e => Nat.le_of_eq e.symm, Nat.lt_succ_self _, by simp, by simp⟩
end
set_option maxHeartbeats 4000000 in
theorem wxn_any {F : Nat → Prop} {W0 w : World} {B g : Nat} {L : List UInt8} (h : WrX F W0 w B g L) (n : Nat) (hn : n < 18446744073709551616) (hl : L.length ≤ 100000000) :
    Calls Try.prog 39 #[.pointer (some ⟨g, 0, none⟩), .int .u64 (n : Int)] w fun e w' => e = .returned (.tuple #[]) ∧ WrX F W0 w' B g (L ++ be n 8) := by
  obtain ⟨i0, hi, hz, hsz, hby⟩ := info_parts Try.infoByte
  obtain ⟨⟨v, hb, ho, hvF⟩, hc, hF, hFl, hgB, hBw, hgW⟩ := h
  have HO := Lib.hid ho
  obtain ⟨A, c, rfl⟩ := ho.form
  have hob : ∀ k, (Value.slice A L.length c).ownBlock = some k → g < k ∧ k < w.heap.size := fun k e => by have := ho.lt _ e; omega
  have HOB := Lib.hid hob
  have HX := Lib.hid (And.intro hvF (And.intro hc (And.intro hF (And.intro hFl hgW))))
  have HB := Lib.hid hb
  have hfl := blk_lt hb
  have hm : (be n 8).length ≤ 65600 := by simp [be_length]
  have HC : Hid (∀ Z : World, Below w.heap.size w Z → Calls Try.prog 9 #[.slice none 0 0, .int .u64 (n : Int)] Z fun e w' => ∃ v', e = .returned v' ∧ Own w' Z.heap.size v' (be n 8) ∧ Below Z.heap.size Z w') := Lib.hid fun Z hz => by
    have := N_any (.slice none 0 0) [] n Z (Rd.nil _ _) hn (by simp)
    rwa [List.nil_append] at this
  generalize be n 8 = M at *
  obtain ⟨n0, hn0⟩ : ∃ n0, n0 = L.length := ⟨_, rfl⟩
  rw [← hn0] at HO HB HOB HX
  have HL := Lib.hid hn0
  have x0 : w.cell? ⟨g, 0, none⟩ = some (.slice A n0 c) := blk_cell HB.out 0
  clear ho hob hb hn0 hvF hc hF hFl hgW
  go_enter Try.func39, Try.ntmps39
  go_wp2_with fail
  have hd0 : Below w.heap.size w w.drew := Below.drew (Below.refl _ _)
  have xd : w.drew.cell? ⟨g, 0, none⟩ = some (.slice A n0 c) := x0
  go_region_law (first
    | (go_simp; (with_reducible refine (HC.out _ hd0).mono ?_); rintro e w1 ⟨v1, rfl, ho1, hb1⟩; dsimp only; have hb01 : Below w.heap.size w w1 := below_chain hd0 (Nat.le_refl _) hb1; have hg1 := (hb01.block _ hfl).trans HB.out; have x1 : w1.cell? ⟨g, 0, none⟩ = some (.slice A n0 c) := blk_cell hg1 0; have hO1 : Own w1 B (.slice A n0 c) L := HO.out.below hb01; have hs1 := hb01.size)
    | (refine wp_append_rd (v := .slice A n0 c) (.tmp 8) (.tmp 10) _ rfl i0 Try.underlying24 hi hz hsz hby rfl hO1 rfl ho1.rd (by omega) (Nat.le_trans hBw hs1) ?_; intro v2 w2 ho2 hg2 hat2; have hgB2 : w2.heap[g]? = some (.cells #[.slice A n0 c] 81 (0, 0)) := (hg2.block _ (Nat.lt_of_lt_of_le hfl hs1) (fun e => by have := HOB.out _ e.symm; omega)).trans hg1; have x2 := blk_cell hgB2 0; have f2 := blk_free hgB2 0; obtain ⟨A2, c2, hv2⟩ := ho2.form; subst hv2)
    | fail)
  all_goals
    have hset := blk_set hgB2 0 (.slice A2 (L.length + M.length) c2)
    have hown : Own (w2.setCell ⟨g, 0, none⟩ (.slice A2 (L.length + M.length) c2)) B (.slice A2 (L.length + M.length) c2) (L ++ M) := by
      have h9 := ho2.grown (grown_setR w2 g 0 (.slice A2 (L.length + M.length) c2)) (Or.inr (fun e => by have := (ho2.lt _ e).1; omega))
      rw [List.length_append] at h9
      exact h9
    have hcc : Chg W0 (w2.setCell ⟨g, 0, none⟩ (.slice A2 (L.length + M.length) c2)) F :=
      ((HX.out.2.1.trans' (Chg.of_below hb01 F)).trans (Chg.of_grown hg2 (fun k e => by
        rcases HX.out.1 k e with h | h
        · exact .inl h
        · exact .inr ⟨h, by have := (HOB.out k e).2; omega⟩))).trans' (Chg.set _ HX.out.2.2.1 _)
    have hvv : ∀ k, (Value.slice A2 (L.length + M.length) c2).ownBlock = some k → F k ∨ W0.heap.size ≤ k := fun k e => by
      rcases hat2 with h | h
      · rw [List.length_append] at h
        exact HX.out.1 k (h.symm.trans e)
      · rw [List.length_append] at h
        have := h.symm.trans e
        injection this with this
        right
        have h1 := HX.out.2.1.size
        omega
    have HF := Lib.hid (And.intro hset (And.intro hown (And.intro hcc (And.intro hvv (Nat.le_trans (Nat.le_trans hBw hs1) hg2.size)))))
    clear hset hown ho2 hO1 ho1 hgB2 hg1 hcc hvv hat2
    go_wp2_with fail
    go_end0
    exact ⟨rfl, ⟨⟨_, by simpa using HF.out.1, HF.out.2.1, HF.out.2.2.2.1⟩, HF.out.2.2.1, HX.out.2.2.1, HX.out.2.2.2.1, hgB, by simpa using HF.out.2.2.2.2, HX.out.2.2.2.2⟩⟩
set_option maxHeartbeats 4000000 in
theorem wxt_any {F : Nat → Prop} {W0 w : World} {B g : Nat} {L : List UInt8} (h : WrX F W0 w B g L) (s : ByteArray) (hs : s.size ≤ maxLen) (hl : L.length ≤ 100000000) :
    Calls Try.prog 38 #[.pointer (some ⟨g, 0, none⟩), .string s] w fun e w' => e = .returned (.tuple #[]) ∧ WrX F W0 w' B g (L ++ encW s) := by
  obtain ⟨i0, hi, hz, hsz, hby⟩ := info_parts Try.infoByte
  obtain ⟨⟨v, hb, ho, hvF⟩, hc, hF, hFl, hgB, hBw, hgW⟩ := h
  have HO := Lib.hid ho
  obtain ⟨A, c, rfl⟩ := ho.form
  have hob : ∀ k, (Value.slice A L.length c).ownBlock = some k → g < k ∧ k < w.heap.size := fun k e => by have := ho.lt _ e; omega
  have HOB := Lib.hid hob
  have HX := Lib.hid (And.intro hvF (And.intro hc (And.intro hF (And.intro hFl hgW))))
  have HB := Lib.hid hb
  have hfl := blk_lt hb
  have hm : (encW s).length ≤ 65600 := Nat.le_trans (encB_lenW _) (by decide)
  have HC : Hid (∀ Z : World, Below w.heap.size w Z → Calls Try.prog 11 #[.slice none 0 0, .string s] Z fun e w' => ∃ v', e = .returned v' ∧ Own w' Z.heap.size v' (encW s) ∧ Below Z.heap.size Z w') := Lib.hid fun Z hz => by
    exact (T_any (.slice none 0 0) s [] Z (Rd.nil _ _) hs (by simp)).mono fun e w' ⟨v', h1, h2, h3⟩ => ⟨v', h1, by rw [List.nil_append] at h2; exact h2, h3⟩
  generalize encW s = M at *
  obtain ⟨n0, hn0⟩ : ∃ n0, n0 = L.length := ⟨_, rfl⟩
  rw [← hn0] at HO HB HOB HX
  have HL := Lib.hid hn0
  have x0 : w.cell? ⟨g, 0, none⟩ = some (.slice A n0 c) := blk_cell HB.out 0
  clear ho hob hb hn0 hvF hc hF hFl hgW
  go_enter Try.func38, Try.ntmps38
  go_wp2_with fail
  have hd0 : Below w.heap.size w w.drew := Below.drew (Below.refl _ _)
  have xd : w.drew.cell? ⟨g, 0, none⟩ = some (.slice A n0 c) := x0
  go_region_law (first
    | (go_simp; (with_reducible refine (HC.out _ hd0).mono ?_); rintro e w1 ⟨v1, rfl, ho1, hb1⟩; dsimp only; have hb01 : Below w.heap.size w w1 := below_chain hd0 (Nat.le_refl _) hb1; have hg1 := (hb01.block _ hfl).trans HB.out; have x1 : w1.cell? ⟨g, 0, none⟩ = some (.slice A n0 c) := blk_cell hg1 0; have hO1 : Own w1 B (.slice A n0 c) L := HO.out.below hb01; have hs1 := hb01.size)
    | (refine wp_append_rd (v := .slice A n0 c) (.tmp 8) (.tmp 10) _ rfl i0 Try.underlying24 hi hz hsz hby rfl hO1 rfl ho1.rd (by omega) (Nat.le_trans hBw hs1) ?_; intro v2 w2 ho2 hg2 hat2; have hgB2 : w2.heap[g]? = some (.cells #[.slice A n0 c] 81 (0, 0)) := (hg2.block _ (Nat.lt_of_lt_of_le hfl hs1) (fun e => by have := HOB.out _ e.symm; omega)).trans hg1; have x2 := blk_cell hgB2 0; have f2 := blk_free hgB2 0; obtain ⟨A2, c2, hv2⟩ := ho2.form; subst hv2)
    | fail)
  all_goals
    have hset := blk_set hgB2 0 (.slice A2 (L.length + M.length) c2)
    have hown : Own (w2.setCell ⟨g, 0, none⟩ (.slice A2 (L.length + M.length) c2)) B (.slice A2 (L.length + M.length) c2) (L ++ M) := by
      have h9 := ho2.grown (grown_setR w2 g 0 (.slice A2 (L.length + M.length) c2)) (Or.inr (fun e => by have := (ho2.lt _ e).1; omega))
      rw [List.length_append] at h9
      exact h9
    have hcc : Chg W0 (w2.setCell ⟨g, 0, none⟩ (.slice A2 (L.length + M.length) c2)) F :=
      ((HX.out.2.1.trans' (Chg.of_below hb01 F)).trans (Chg.of_grown hg2 (fun k e => by
        rcases HX.out.1 k e with h | h
        · exact .inl h
        · exact .inr ⟨h, by have := (HOB.out k e).2; omega⟩))).trans' (Chg.set _ HX.out.2.2.1 _)
    have hvv : ∀ k, (Value.slice A2 (L.length + M.length) c2).ownBlock = some k → F k ∨ W0.heap.size ≤ k := fun k e => by
      rcases hat2 with h | h
      · rw [List.length_append] at h
        exact HX.out.1 k (h.symm.trans e)
      · rw [List.length_append] at h
        have := h.symm.trans e
        injection this with this
        right
        have h1 := HX.out.2.1.size
        omega
    have HF := Lib.hid (And.intro hset (And.intro hown (And.intro hcc (And.intro hvv (Nat.le_trans (Nat.le_trans hBw hs1) hg2.size)))))
    clear hset hown ho2 hO1 ho1 hgB2 hg1 hcc hvv hat2
    go_wp2_with fail
    go_end0
    exact ⟨rfl, ⟨⟨_, by simpa using HF.out.1, HF.out.2.1, HF.out.2.2.2.1⟩, HF.out.2.2.1, HX.out.2.2.1, HX.out.2.2.2.1, hgB, by simpa using HF.out.2.2.2.2, HX.out.2.2.2.2⟩⟩
set_option maxHeartbeats 4000000 in
theorem wxb_any {F : Nat → Prop} {W0 w : World} {B g : Nat} {L : List UInt8} (h : WrX F W0 w B g L) (Ax : Option Addr) (nx cx : Nat) (m : List UInt8) (hr : Rd w w.heap.size (.slice Ax nx cx) m) (hl : L.length ≤ 100000000) :
    Calls Try.prog 42 #[.pointer (some ⟨g, 0, none⟩), .slice Ax nx cx] w fun e w' => e = .returned (.tuple #[]) ∧ WrX F W0 w' B g (L ++ encB m) := by
  obtain ⟨i0, hi, hz, hsz, hby⟩ := info_parts Try.infoByte
  obtain ⟨⟨v, hb, ho, hvF⟩, hc, hF, hFl, hgB, hBw, hgW⟩ := h
  have HO := Lib.hid ho
  obtain ⟨A, c, rfl⟩ := ho.form
  have hob : ∀ k, (Value.slice A L.length c).ownBlock = some k → g < k ∧ k < w.heap.size := fun k e => by have := ho.lt _ e; omega
  have HOB := Lib.hid hob
  have HX := Lib.hid (And.intro hvF (And.intro hc (And.intro hF (And.intro hFl hgW))))
  have HB := Lib.hid hb
  have hfl := blk_lt hb
  have hm : (encB m).length ≤ 65600 := Nat.le_trans (encB_lenW _) (by decide)
  have HC : Hid (∀ Z : World, Below w.heap.size w Z → Calls Try.prog 10 #[.slice none 0 0, .slice Ax nx cx] Z fun e w' => ∃ v', e = .returned v' ∧ Own w' Z.heap.size v' (encB m) ∧ Below Z.heap.size Z w') := Lib.hid fun Z hz => by
    exact (B_any (.slice none 0 0) (.slice Ax nx cx) [] m Z (Rd.nil _ _) (hr.up (Nat.le_refl _) hz) (by simp)).mono fun e w' ⟨v', h1, h2, h3⟩ => ⟨v', h1, by rw [List.nil_append] at h2; exact h2, h3⟩
  generalize encB m = M at *
  obtain ⟨n0, hn0⟩ : ∃ n0, n0 = L.length := ⟨_, rfl⟩
  rw [← hn0] at HO HB HOB HX
  have HL := Lib.hid hn0
  have x0 : w.cell? ⟨g, 0, none⟩ = some (.slice A n0 c) := blk_cell HB.out 0
  clear ho hob hb hn0 hvF hc hF hFl hgW
  go_enter Try.func42, Try.ntmps42
  go_wp2_with fail
  have hd0 : Below w.heap.size w w.drew := Below.drew (Below.refl _ _)
  have xd : w.drew.cell? ⟨g, 0, none⟩ = some (.slice A n0 c) := x0
  go_region_law (first
    | (go_simp; (with_reducible refine (HC.out _ hd0).mono ?_); rintro e w1 ⟨v1, rfl, ho1, hb1⟩; dsimp only; have hb01 : Below w.heap.size w w1 := below_chain hd0 (Nat.le_refl _) hb1; have hg1 := (hb01.block _ hfl).trans HB.out; have x1 : w1.cell? ⟨g, 0, none⟩ = some (.slice A n0 c) := blk_cell hg1 0; have hO1 : Own w1 B (.slice A n0 c) L := HO.out.below hb01; have hs1 := hb01.size)
    | (refine wp_append_rd (v := .slice A n0 c) (.tmp 8) (.tmp 10) _ rfl i0 Try.underlying24 hi hz hsz hby rfl hO1 rfl ho1.rd (by omega) (Nat.le_trans hBw hs1) ?_; intro v2 w2 ho2 hg2 hat2; have hgB2 : w2.heap[g]? = some (.cells #[.slice A n0 c] 81 (0, 0)) := (hg2.block _ (Nat.lt_of_lt_of_le hfl hs1) (fun e => by have := HOB.out _ e.symm; omega)).trans hg1; have x2 := blk_cell hgB2 0; have f2 := blk_free hgB2 0; obtain ⟨A2, c2, hv2⟩ := ho2.form; subst hv2)
    | fail)
  all_goals
    have hset := blk_set hgB2 0 (.slice A2 (L.length + M.length) c2)
    have hown : Own (w2.setCell ⟨g, 0, none⟩ (.slice A2 (L.length + M.length) c2)) B (.slice A2 (L.length + M.length) c2) (L ++ M) := by
      have h9 := ho2.grown (grown_setR w2 g 0 (.slice A2 (L.length + M.length) c2)) (Or.inr (fun e => by have := (ho2.lt _ e).1; omega))
      rw [List.length_append] at h9
      exact h9
    have hcc : Chg W0 (w2.setCell ⟨g, 0, none⟩ (.slice A2 (L.length + M.length) c2)) F :=
      ((HX.out.2.1.trans' (Chg.of_below hb01 F)).trans (Chg.of_grown hg2 (fun k e => by
        rcases HX.out.1 k e with h | h
        · exact .inl h
        · exact .inr ⟨h, by have := (HOB.out k e).2; omega⟩))).trans' (Chg.set _ HX.out.2.2.1 _)
    have hvv : ∀ k, (Value.slice A2 (L.length + M.length) c2).ownBlock = some k → F k ∨ W0.heap.size ≤ k := fun k e => by
      rcases hat2 with h | h
      · rw [List.length_append] at h
        exact HX.out.1 k (h.symm.trans e)
      · rw [List.length_append] at h
        have := h.symm.trans e
        injection this with this
        right
        have h1 := HX.out.2.1.size
        omega
    have HF := Lib.hid (And.intro hset (And.intro hown (And.intro hcc (And.intro hvv (Nat.le_trans (Nat.le_trans hBw hs1) hg2.size)))))
    clear hset hown ho2 hO1 ho1 hgB2 hg1 hcc hvv hat2
    go_wp2_with fail
    go_end0
    exact ⟨rfl, ⟨⟨_, by simpa using HF.out.1, HF.out.2.1, HF.out.2.2.2.1⟩, HF.out.2.2.1, HX.out.2.2.1, HX.out.2.2.2.1, hgB, by simpa using HF.out.2.2.2.2, HX.out.2.2.2.2⟩⟩
set_option maxHeartbeats 4000000 in
theorem wxf_any {F : Nat → Prop} {W0 w : World} {B g : Nat} {L : List UInt8} (h : WrX F W0 w B g L) (yes : Bool) (hl : L.length ≤ 100000000) :
    Calls Try.prog 55 #[.pointer (some ⟨g, 0, none⟩), .bool yes] w fun e w' => e = .returned (.tuple #[]) ∧ WrX F W0 w' B g (L ++ [fb yes]) := by
  obtain ⟨i0, hi, hz, hsz, hby⟩ := info_parts Try.infoByte
  obtain ⟨⟨v, hb, ho, hvF⟩, hc, hF, hFl, hgB, hBw, hgW⟩ := h
  have HO := Lib.hid ho
  obtain ⟨A, c, rfl⟩ := ho.form
  have hob : ∀ k, (Value.slice A L.length c).ownBlock = some k → g < k ∧ k < w.heap.size := fun k e => by have := ho.lt _ e; omega
  have HOB := Lib.hid hob
  have HX := Lib.hid (And.intro hvF (And.intro hc (And.intro hF (And.intro hFl hgW))))
  have HB := Lib.hid hb
  have hfl := blk_lt hb
  have hm : ([fb yes]).length ≤ 65600 := by simp
  have HC : Hid (∀ Z : World, Below w.heap.size w Z → Calls Try.prog 12 #[.slice none 0 0, .bool yes] Z fun e w' => ∃ v', e = .returned v' ∧ Own w' Z.heap.size v' ([fb yes]) ∧ Below Z.heap.size Z w') := Lib.hid fun Z hz => by
    have := F_any (.slice none 0 0) yes [] Z (Rd.nil _ _) (by simp)
    rwa [List.nil_append] at this
  generalize [fb yes] = M at *
  obtain ⟨n0, hn0⟩ : ∃ n0, n0 = L.length := ⟨_, rfl⟩
  rw [← hn0] at HO HB HOB HX
  have HL := Lib.hid hn0
  have x0 : w.cell? ⟨g, 0, none⟩ = some (.slice A n0 c) := blk_cell HB.out 0
  clear ho hob hb hn0 hvF hc hF hFl hgW
  go_enter Try.func55, Try.ntmps55
  go_wp2_with fail
  have hd0 : Below w.heap.size w w.drew := Below.drew (Below.refl _ _)
  have xd : w.drew.cell? ⟨g, 0, none⟩ = some (.slice A n0 c) := x0
  go_region_law (first
    | (go_simp; (with_reducible refine (HC.out _ hd0).mono ?_); rintro e w1 ⟨v1, rfl, ho1, hb1⟩; dsimp only; have hb01 : Below w.heap.size w w1 := below_chain hd0 (Nat.le_refl _) hb1; have hg1 := (hb01.block _ hfl).trans HB.out; have x1 : w1.cell? ⟨g, 0, none⟩ = some (.slice A n0 c) := blk_cell hg1 0; have hO1 : Own w1 B (.slice A n0 c) L := HO.out.below hb01; have hs1 := hb01.size)
    | (refine wp_append_rd (v := .slice A n0 c) (.tmp 8) (.tmp 10) _ rfl i0 Try.underlying24 hi hz hsz hby rfl hO1 rfl ho1.rd (by omega) (Nat.le_trans hBw hs1) ?_; intro v2 w2 ho2 hg2 hat2; have hgB2 : w2.heap[g]? = some (.cells #[.slice A n0 c] 81 (0, 0)) := (hg2.block _ (Nat.lt_of_lt_of_le hfl hs1) (fun e => by have := HOB.out _ e.symm; omega)).trans hg1; have x2 := blk_cell hgB2 0; have f2 := blk_free hgB2 0; obtain ⟨A2, c2, hv2⟩ := ho2.form; subst hv2)
    | fail)
  all_goals
    have hset := blk_set hgB2 0 (.slice A2 (L.length + M.length) c2)
    have hown : Own (w2.setCell ⟨g, 0, none⟩ (.slice A2 (L.length + M.length) c2)) B (.slice A2 (L.length + M.length) c2) (L ++ M) := by
      have h9 := ho2.grown (grown_setR w2 g 0 (.slice A2 (L.length + M.length) c2)) (Or.inr (fun e => by have := (ho2.lt _ e).1; omega))
      rw [List.length_append] at h9
      exact h9
    have hcc : Chg W0 (w2.setCell ⟨g, 0, none⟩ (.slice A2 (L.length + M.length) c2)) F :=
      ((HX.out.2.1.trans' (Chg.of_below hb01 F)).trans (Chg.of_grown hg2 (fun k e => by
        rcases HX.out.1 k e with h | h
        · exact .inl h
        · exact .inr ⟨h, by have := (HOB.out k e).2; omega⟩))).trans' (Chg.set _ HX.out.2.2.1 _)
    have hvv : ∀ k, (Value.slice A2 (L.length + M.length) c2).ownBlock = some k → F k ∨ W0.heap.size ≤ k := fun k e => by
      rcases hat2 with h | h
      · rw [List.length_append] at h
        exact HX.out.1 k (h.symm.trans e)
      · rw [List.length_append] at h
        have := h.symm.trans e
        injection this with this
        right
        have h1 := HX.out.2.1.size
        omega
    have HF := Lib.hid (And.intro hset (And.intro hown (And.intro hcc (And.intro hvv (Nat.le_trans (Nat.le_trans hBw hs1) hg2.size)))))
    clear hset hown ho2 hO1 ho1 hgB2 hg1 hcc hvv hat2
    go_wp2_with fail
    go_end0
    exact ⟨rfl, ⟨⟨_, by simpa using HF.out.1, HF.out.2.1, HF.out.2.2.2.1⟩, HF.out.2.2.1, HX.out.2.2.1, HX.out.2.2.2.1, hgB, by simpa using HF.out.2.2.2.2, HX.out.2.2.2.2⟩⟩
set_option maxHeartbeats 4000000 in
theorem wxu_any {F : Nat → Prop} {W0 w : World} {B g : Nat} {L : List UInt8} (h : WrX F W0 w B g L) (x : U4) (hx : x.ok) (hl : L.length ≤ 100000000) :
    Calls Try.prog 40 #[.pointer (some ⟨g, 0, none⟩), x.val] w fun e w' => e = .returned (.tuple #[]) ∧ WrX F W0 w' B g (L ++ encB (be x.nat 32)) := by
  have hbox := heap_alloc_new w (.cells #[.int .u64 (x.a : Int), .int .u64 (x.b : Int), .int .u64 (x.c : Int), .int .u64 (x.d : Int)] 45)
  have ha0 : Below w.heap.size w (w.alloc (.cells #[.int .u64 (x.a : Int), .int .u64 (x.b : Int), .int .u64 (x.c : Int), .int .u64 (x.d : Int)] 45)) := (Below.refl _ _).alloc (Nat.le_refl _) _
  have HB := Lib.hid (fun Z : World => bytes_any x Z hx)
  have h0 := h.up ha0
  generalize hW0 : w.alloc (.cells #[.int .u64 (x.a : Int), .int .u64 (x.b : Int), .int .u64 (x.c : Int), .int .u64 (x.d : Int)] 45) = W1 at *
  have c0 := blk_cell hbox 0
  have c1 := blk_cell hbox 1
  have c2 := blk_cell hbox 2
  have c3 := blk_cell hbox 3
  unfold U4.val U4.cells at *
  generalize be x.nat 32 = M at *
  clear h hx hbox
  go_enter Try.func40, Try.ntmps40
  go_wp2_with fail
  try rw [hW0]
  clear hW0
  refine (HB.out _).mono ?_
  rintro e w1 ⟨v1, rfl, ho1, hb1⟩
  have h1 := h0.up hb1
  have hr1 := ho1.rd
  obtain ⟨A1, k1, rfl⟩ := ho1.form
  have HW := Lib.hid (wxb_any h1 A1 M.length k1 M hr1 hl)
  clear HB h0 c0 c1 c2 c3 ho1 hr1 h1 ha0 hb1
  generalize M.length = n1 at *
  go_wp2_with fail
  refine HW.out.mono ?_
  rintro e w2 ⟨rfl, h2⟩
  go_wp2_with fail
  go_end0
  exact ⟨rfl, h2⟩
end Go.Proofs.Ytpcoonnfaoakhaa
namespace Go.Proofs.Ytpcoonnfaoakhaa
set_option maxRecDepth 100000
open Go

def smB (c : UInt8) : Bool := decide (97 ≤ c.toNat ∧ c.toNat ≤ 122)
def dgB (c : UInt8) : Bool := decide (48 ≤ c.toNat ∧ c.toNat ≤ 57)
def okB (c : UInt8) : Bool := smB c || dgB c || decide (c.toNat = 45) || decide (c.toNat = 46)
/-- is it an identifier? -/
def identL : List UInt8 → Bool
  | [] => false
  | c :: r => decide (r.length ≤ 31) && smB c && r.all okB
/-- what stands ahead of each hop -/
def trL : List UInt8 := [116, 114, 97, 110, 115, 102, 101, 114, 47]
def splitL (l : List UInt8) : Option (List UInt8 × List UInt8) :=
  if Lib.hasPrefix l trL = true then
    if Lib.indexByte (l.drop 9) 47 = -1 then none
    else if identL ((l.drop 9).take (Lib.indexByte (l.drop 9) 47).toNat) = true then
      some ((l.drop 9).take (Lib.indexByte (l.drop 9) 47).toNat, (l.drop 9).drop ((Lib.indexByte (l.drop 9) 47).toNat + 1))
    else none
  else none

/-- the base, and how many hops stand ahead of it -/
def baseN : Nat → List UInt8 → List UInt8 × Nat
  | 0, l => (l, 0)
  | n + 1, l => match splitL l with
    | none => (l, 0)
    | some (_, r) => ((baseN n r).1, (baseN n r).2 + 1)
def baseL (l : List UInt8) : List UInt8 := (baseN l.length l).1
def hopsL (l : List UInt8) : Nat := (baseN l.length l).2
def denomL (l : List UInt8) : Bool := decide (l.length ≤ 160) && identL (baseL l)

/-- one hop more -/
def overL (hop s : List UInt8) : List UInt8 × Int :=
  if identL hop = true then
    if denomL s = true ∧ hop.length + s.length + 10 ≤ 160 then (trL ++ hop ++ 47 :: s, 0) else ([], 41)
  else ([], 40)
end Go.Proofs.Ytpcoonnfaoakhaa
namespace Go.Proofs.Ytpcoonnfaoakhaa
set_option maxRecDepth 100000
open Go Go.RowKit

end Go.Proofs.Ytpcoonnfaoakhaa
namespace Go.Proofs.Ytpcoonnfaoakhaa
set_option maxRecDepth 100000
open Go Go.RowKit

end Go.Proofs.Ytpcoonnfaoakhaa
namespace Go.Proofs.Ytpcoonnfaoakhaa
set_option maxRecDepth 100000
open Go Go.RowKit

/-- what Cut hands back at a slash -/
def cutL (l : List UInt8) : List UInt8 × List UInt8 × Bool :=
  if Lib.indexByte l 47 = -1 then (l, [], false) else (l.take (Lib.indexByte l 47).toNat, l.drop ((Lib.indexByte l 47).toNat + 1), true)

/-- what split hands back -/
def splitV (l : List UInt8) : Value := match splitL l with
  | some (h, r) => .tuple #[.string ⟨h.toArray⟩, .string ⟨r.toArray⟩, .bool true]
  | none => .tuple #[.string ByteArray.empty, .string ByteArray.empty, .bool false]
end Go.Proofs.Ytpcoonnfaoakhaa
namespace Go.Proofs.Ytpcoonnfaoakhaa
set_option maxRecDepth 100000
open Go Go.RowKit

/-- the base is an identifier -/
def endsB (l : List UInt8) : Bool := identL (baseL l)

end Go.Proofs.Ytpcoonnfaoakhaa
namespace Go.Proofs.Ytpcoonnfaoakhaa
set_option maxRecDepth 100000
open Go

structure VD where
  name : ByteArray
  power : Nat

def VD.key (x : VD) : List UInt8 := x.name.data.toList
def okV (x : VD) : Bool := identL x.key && decide (1 ≤ x.power) && decide (x.power ≤ 4294967296)
def lessV (x y : VD) : Bool := Op.bytesLess x.name.toList y.name.toList
/-- is what stands at a place as it must be? -/
def goodAt (l : List VD) : Nat → Bool
  | 0 => (l[0]?).any okV
  | j + 1 => (l[j + 1]?).any fun x => okV x && (l[j]?).any fun y => lessV y x
def rightB (l : List VD) : Bool := decide (1 ≤ l.length) && decide (l.length ≤ 8) && (List.range l.length).all (goodAt l)

/-- the power of those whose name has a property -/
def vsum (p : List UInt8 → Bool) (l : List VD) : Nat := (l.map fun x => if p x.key = true then x.power else 0).sum
def powerN (l : List VD) : Nat := vsum (fun _ => true) l
def votedN (l : List VD) (votes : List (List UInt8)) : Nat := vsum (fun k => votes.contains k) l

def quorumB (l : List VD) (votes : List (List UInt8)) : Bool := rightB l && decide (2 * powerN l < 3 * votedN l votes)
def thirdB (l : List VD) (votes : List (List UInt8)) : Bool := rightB l && decide (powerN l < 3 * votedN l votes)

end Go.Proofs.Ytpcoonnfaoakhaa
namespace Go.Proofs.Ytpcoonnfaoakhaa
set_option maxRecDepth 100000
open Go Go.RowKit

def VD.fits (x : VD) : Prop := x.name.size ≤ maxLen ∧ x.power < 18446744073709551616
def ValAt (w : World) (b o : Nat) (x : VD) : Prop := w.cell? ⟨b, o, none⟩ = some (.string x.name) ∧ w.cell? ⟨b, o + 1, none⟩ = some (.int .u64 (x.power : Int))
/-- the slice value v reads as the validators l, in blocks below B -/
def ValsAt (w : World) (B : Nat) (v : Value) (l : List VD) : Prop :=
  ∃ A c, v = .slice A l.length c ∧ l.length ≤ c ∧ c ≤ maxLen ∧ (∀ x ∈ l, x.fits) ∧
    (0 < l.length → ∃ b o, A = some ⟨b, o, none⟩ ∧ b < B ∧ ∀ j (h : j < l.length), ValAt w b (o + j * 2) l[j])
/-- the slice value v reads as the texts l, in blocks below B -/
def StrsAt (w : World) (B : Nat) (v : Value) (l : List ByteArray) : Prop :=
  ∃ A c, v = .slice A l.length c ∧ l.length ≤ c ∧ c ≤ maxLen ∧ (∀ x ∈ l, x.size ≤ maxLen) ∧
    (0 < l.length → ∃ b o, A = some ⟨b, o, none⟩ ∧ b < B ∧ ∀ j (h : j < l.length), w.cell? ⟨b, o + j, none⟩ = some (.string l[j]))

section
variable {w w' : World} {B B' : Nat} {v : Value}
theorem ValsAt.below {l : List VD} (h : ValsAt w B v l) (hk : Below B w w') : ValsAt w' B v l := by
  obtain ⟨A, c, hv, hc, hm, hf, hp⟩ := h
  refine ⟨A, c, hv, hc, hm, hf, fun h0 => ?_⟩
  obtain ⟨b, o, hA, hb, ha⟩ := hp h0
  exact ⟨b, o, hA, hb, fun j hj => ⟨(hk.cell (p := ⟨b, o + j * 2, none⟩) hb).trans (ha j hj).1, (hk.cell (p := ⟨b, o + j * 2 + 1, none⟩) hb).trans (ha j hj).2⟩⟩
theorem ValsAt.more {l : List VD} (h : ValsAt w B v l) (hB : B ≤ B') : ValsAt w B' v l := by
  obtain ⟨A, c, hv, hc, hm, hf, hp⟩ := h
  refine ⟨A, c, hv, hc, hm, hf, fun h0 => ?_⟩
  obtain ⟨b, o, hA, hb, ha⟩ := hp h0
  exact ⟨b, o, hA, by omega, ha⟩
theorem ValsAt.up {l : List VD} (h : ValsAt w B v l) (hB : B ≤ w.heap.size) (hb : Below w.heap.size w w') : ValsAt w' w'.heap.size v l := ((h.more hB).below hb).more hb.size
theorem StrsAt.below {l : List ByteArray} (h : StrsAt w B v l) (hk : Below B w w') : StrsAt w' B v l := by
  obtain ⟨A, c, hv, hc, hm, hf, hp⟩ := h
  refine ⟨A, c, hv, hc, hm, hf, fun h0 => ?_⟩
  obtain ⟨b, o, hA, hb, ha⟩ := hp h0
  exact ⟨b, o, hA, hb, fun j hj => (hk.cell (p := ⟨b, o + j, none⟩) hb).trans (ha j hj)⟩
theorem StrsAt.more {l : List ByteArray} (h : StrsAt w B v l) (hB : B ≤ B') : StrsAt w B' v l := by
  obtain ⟨A, c, hv, hc, hm, hf, hp⟩ := h
  refine ⟨A, c, hv, hc, hm, hf, fun h0 => ?_⟩
  obtain ⟨b, o, hA, hb, ha⟩ := hp h0
  exact ⟨b, o, hA, by omega, ha⟩
theorem StrsAt.up {l : List ByteArray} (h : StrsAt w B v l) (hB : B ≤ w.heap.size) (hb : Below w.heap.size w w') : StrsAt w' w'.heap.size v l := ((h.more hB).below hb).more hb.size
theorem StrsAt.nil (w : World) (B : Nat) : StrsAt w B (.slice none 0 0) [] := ⟨none, 0, rfl, Nat.le_refl _, Nat.zero_le _, fun _ h => absurd h (by simp), fun h => absurd h (by simp)⟩
theorem StrsAt.form {l : List ByteArray} (h : StrsAt w B v l) : ∃ A c, v = .slice A l.length c := by obtain ⟨A, c, h, _⟩ := h; exact ⟨A, c, h⟩
theorem ValsAt.form {l : List VD} (h : ValsAt w B v l) : ∃ A c, v = .slice A l.length c := by obtain ⟨A, c, h, _⟩ := h; exact ⟨A, c, h⟩
end

def keysOf (l : List ByteArray) : List (List UInt8) := l.map fun s => s.data.toList
end Go.Proofs.Ytpcoonnfaoakhaa
