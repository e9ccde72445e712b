/- Texts joined: SignF, SignG, SignH, HeldBy, OpenB0. -/
import Derived.Test.YtniclaapiabmdaaGreatDoorM16
import Derived.Test.YtniclaapiabmdaaGreatDoorM02
import Derived.Test.YtniclaapiabmdaaGreatDoorM01
import Derived.Deep.RegionHeldLaw
import Derived.Test.YtniclaapiabmdaaGreatDoorRows
import Derived.ProofKit
import Derived.OpenShut
import Derived.ShutString
import Derived.JoinedCond
import Derived.Deep.Slices
import Derived.Deep.Fields
import Derived.Carry
namespace Go.Proofs.YtniclaapiabmdaaGreatDoor
set_option maxRecDepth 100000
open Go Go.RowKit

def signedWord : ByteArray := ⟨#[115, 105, 103, 110, 101, 100]⟩
def digs (h : List UInt8) : List Nat := h.flatMap fun x => [x.toNat / 16, x.toNat % 16]
def short (h : List UInt8) : Nat := (h.map fun x => 30 - x.toNat / 16 - x.toNat % 16).sum
def digitsH (h : List UInt8) : List Nat := digs (h.take 8) ++ [short (h.take 8) / 16, short (h.take 8) % 16]
def digitsL (root : List UInt8) (key : Nat) (msg : List UInt8) : List Nat := digitsH (shaSum (formB (strBytes signedWord) ++ formBs [root, be key 8, msg]))
theorem digs_length (h : List UInt8) : (digs h).length = 2 * h.length := by
  induction h with
  | nil => rfl
  | cons x r ih => simp only [digs, List.flatMap_cons, List.length_append, List.length_cons, List.length_nil] at *; omega
theorem digs_snoc (h : List UInt8) (k : Nat) (hk : k < h.length) : digs (h.take (k + 1)) = (digs (h.take k) ++ [h[k].toNat / 16]) ++ [h[k].toNat % 16] := by
  rw [List.take_succ_eq_append_getElem hk]
  simp only [digs, List.flatMap_append, List.flatMap_cons, List.flatMap_nil, List.append_nil, List.append_assoc, List.cons_append, List.nil_append]
theorem short_snoc (h : List UInt8) (k : Nat) (hk : k < h.length) : short (h.take (k + 1)) = short (h.take k) + (30 - h[k].toNat / 16 - h[k].toNat % 16) := by
  rw [List.take_succ_eq_append_getElem hk]
  simp only [short, List.map_append, List.map_cons, List.map_nil, List.sum_append, List.sum_cons, List.sum_nil, Nat.add_zero]
theorem short_le (h : List UInt8) : short h ≤ 30 * h.length := by
  induction h with
  | nil => simp [short]
  | cons x r ih => simp only [short, List.map_cons, List.sum_cons, List.length_cons] at *; omega
theorem digs_le (h : List UInt8) : ∀ d ∈ digs h, d ≤ 15 := by
  intro d hd
  simp only [digs, List.mem_flatMap, List.mem_cons, List.not_mem_nil, or_false] at hd
  obtain ⟨x, -, rfl | rfl⟩ := hd
  · have := x.toNat_lt; omega
  · omega
theorem digitsH_length (h : List UInt8) (hl : 8 ≤ h.length) : (digitsH h).length = 18 := by
  simp only [digitsH, List.length_append, digs_length, List.length_take, List.length_cons, List.length_nil]; omega
theorem digitsH_le (h : List UInt8) : ∀ d ∈ digitsH h, d ≤ 15 := by
  intro d hd
  simp only [digitsH, List.mem_append, List.mem_cons, List.not_mem_nil, or_false] at hd
  have hs := short_le (h.take 8)
  have hl : (h.take 8).length ≤ 8 := List.length_take_le _ _
  rcases hd with hd | rfl | rfl
  · exact digs_le _ d hd
  · omega
  · omega
theorem digitsL_length (root : List UInt8) (key : Nat) (msg : List UInt8) : (digitsL root key msg).length = 18 := digitsH_length _ (by rw [shaSum_length]; omega)
theorem digitsL_le (root : List UInt8) (key : Nat) (msg : List UInt8) : ∀ d ∈ digitsL root key msg, d ≤ 15 := digitsH_le _

def gintV (d : Nat) : Value := .int .i64 (d : Int)
def gdcells (p : List Nat) : List Value := p.map gintV
def arr18 (p : List Nat) : List Value := gdcells p ++ List.replicate (18 - p.length) (gintV 0)
theorem arr18_length (p : List Nat) (h : p.length ≤ 18) : (arr18 p).length = 18 := by simp [arr18, gdcells]; omega
theorem arr18_old (p : List Nat) (j : Nat) (h : p.length ≤ j) (h2 : j < 18) : (arr18 p)[j]? = some (.int .i64 0) := by
  rw [arr18, List.getElem?_append_right (by simpa [gdcells] using h)]
  rw [List.getElem?_replicate, if_pos (by simp only [gdcells, List.length_map]; omega)]
  rfl
theorem arr18_set (p : List Nat) (x : Nat) (h : p.length < 18) : (arr18 p).set p.length (.int .i64 (x : Int)) = arr18 (p ++ [x]) := by
  unfold arr18 gdcells
  obtain ⟨n, hn⟩ : ∃ n, 18 - p.length = n + 1 := ⟨17 - p.length, by omega⟩
  have hn2 : 18 - (p ++ [x]).length = n := by simp; omega
  rw [hn, hn2, List.replicate_succ, List.set_append_right _ _ (by simp)]
  simp [gintV]
/-- the cells from o on of block b are the bytes l -/
def CellsB (w : World) (b o : Nat) (l : List UInt8) : Prop := ∀ j (h : j < l.length), w.cell? ⟨b, o + j, none⟩ = some (bval l[j])
theorem and15 (x : UInt8) : bits .and .u8 (x.toNat : Int) 15 = ((x.toNat % 16 : Nat) : Int) := by
  have hx := x.toNat_lt
  have h1 : (BitVec.ofInt 8 (x.toNat : Int)).toNat = x.toNat := by
    rw [BitVec.ofInt_natCast, BitVec.toNat_ofNat]; exact Nat.mod_eq_of_lt (by omega)
  show IntKind.u8.wrap ((BitVec.ofInt 8 (x.toNat : Int) &&& BitVec.ofInt 8 15).toNat : Int) = _
  rw [BitVec.toNat_and, h1, show (BitVec.ofInt 8 15).toNat = 2 ^ 4 - 1 from rfl, Nat.and_two_pow_sub_one_eq_mod]
  simp only [IntKind.wrap, IntKind.bits, IntKind.signed]
  simp
  omega

set_option maxHeartbeats 4000000 in
set_option maxRecDepth 100000 in
theorem digitsOf_any (v1 v3 : Value) (root msg : List UInt8) (key : Nat) (w : World) (h1 : Rd w w.heap.size v1 root) (h3 : Rd w w.heap.size v3 msg) (hkey : key ≤ 1000) (fr : TypeId × Nat × Nat) (hk : w.heap[0]? = some (.cells kVals fr.1 fr.2)) :
    Calls Tryz.prog 79 #[v1, .int .i64 (key : Int), v3] w fun e w' => e = .returned (.agg (gdcells (digitsL root key msg)).toArray) ∧ Below w.heap.size w w' := by
  have hn0 := blk_lt hk
  have HK := Lib.hid hk
  clear hk
  have N1 := Lib.hid (fun W : World => gnumber_any key W hkey)
  obtain ⟨A1, c1, rfl⟩ := h1.form
  obtain ⟨A3, c3, rfl⟩ := h3.form
  obtain ⟨W2, hW2⟩ : ∃ W2, W2 = (w.alloc (.cells (arr18 []).toArray 117)).alloc (.cells (arr18 []).toArray 117) := ⟨_, rfl⟩
  have hR0 : W2.heap[w.heap.size]? = some (.cells (arr18 []).toArray 117 (0, 0)) := by
    rw [hW2]
    exact (Below.heap_alloc (w.alloc (.cells (arr18 []).toArray 117)) (.cells (arr18 []).toArray 117) w.heap.size (by simp)).trans (heap_alloc_new w _)
  have hB0 : W2.heap[w.heap.size + 1]? = some (.cells (arr18 []).toArray 117 (0, 0)) := by
    rw [hW2]
    have := heap_alloc_new (w.alloc (.cells (arr18 []).toArray 117)) (.cells (arr18 []).toArray 117)
    rw [show (w.alloc (.cells (arr18 []).toArray 117)).heap.size = w.heap.size + 1 by simp] at this
    exact this
  have hbw : Below w.heap.size w W2 := by rw [hW2]; exact ((Below.refl _ _).alloc (Nat.le_refl _) _).alloc (by simp) _
  have HW2 := Lib.hid hW2
  clear hW2
  go_enter Tryz.func79, Tryz.ntmps79
  go_wp2_with fail
  change Calls _ _ _ ((w.alloc (.cells (arr18 []).toArray 117)).alloc (.cells (arr18 []).toArray 117)) _
  rw [← HW2.out]
  refine (N1.out _).mono ?_
  rintro e w3 ⟨vk, rfl, hok, hb3⟩
  obtain ⟨Ak, ck, rfl⟩ := hok.form' (be_length key 8)
  have hq3 := below_chain hbw hbw.size hb3
  have hr1 := h1.up (Nat.le_refl _) hq3
  have hr3 := h3.up (Nat.le_refl _) hq3
  have hp := partsOf3 w3 _ _ _ _ _ _ 27 hr1 hok.rd hr3
  have hbx : Below w3.heap.size w3 (w3.alloc (.cells #[.slice A1 root.length c1, .slice Ak 8 ck, .slice A3 msg.length c3] 27)) := (Below.refl _ _).alloc (Nat.le_refl _) _
  have hR3 := (hb3.block _ (blk_lt hR0)).trans hR0
  have hB3 := (hb3.block _ (blk_lt hB0)).trans hB0
  clear hb3 hok hr1 hr3 hR0 hB0 HW2
  go_wp2_with fail
  generalize w3.alloc (.cells #[.slice A1 root.length c1, .slice Ak 8 ck, .slice A3 msg.length c3] 27) = w4 at *
  have hq4 := below_chain hq3 hq3.size hbx
  refine (tagged_any signedWord _ [root, be key 8, msg] w4 hp (by unfold maxLen signedWord; decide) (by simp) fr ((hq4.block _ hn0).trans HK.out)).mono ?_
  rintro e w5 ⟨v5, rfl, ho5, hb5⟩
  have hD : Hid (digitsL root key msg = digitsH (shaSum (formB (strBytes signedWord) ++ formBs [root, be key 8, msg]))) := Lib.hid rfl
  have hSl := shaSum_length (formB (strBytes signedWord) ++ formBs [root, be key 8, msg])
  generalize shaSum (formB (strBytes signedWord) ++ formBs [root, be key 8, msg]) = S at *
  obtain ⟨A5, c5, rfl⟩ := ho5.form' hSl
  have hq5 := below_chain hq4 hq4.size hb5
  have hR5 := (hb5.block _ (Nat.lt_of_lt_of_le (blk_lt hR3) hbx.size)).trans ((hbx.block _ (blk_lt hR3)).trans hR3)
  have hB5 := (hb5.block _ (Nat.lt_of_lt_of_le (blk_lt hB3) hbx.size)).trans ((hbx.block _ (blk_lt hB3)).trans hB3)
  have hrS := ho5.rd
  have hc5 : (8 : Int) ≤ (c5 : Int) := by
    obtain ⟨A', c', e, h1, _⟩ := id hrS
    injection e with _ _ e3
    omega
  obtain ⟨-, b, o, rfl, hb5', hcell⟩ := hrS.cell (by omega)
  have hbne : b ≠ w.heap.size + 1 := by
    have h1 := (ho5.lt b rfl).1
    have h2 := blk_lt hB3
    have h3 := hbx.size
    omega
  have HC : CellsB w5 b o S := hcell
  have HSl := Lib.hid hSl
  clear hR3 hB3 hbx hp hb5 ho5 hq4 hcell hSl hrS
  go_wp2_with fail
  go_loopw [8, 19] (fun sv i wr => ∃ k : Nat, k ≤ 8 ∧ i = .int .i64 (k : Int) ∧ sv = .int .i64 (short (S.take k) : Int) ∧ wr.heap[w.heap.size + 1]? = some (.cells (arr18 (digs (S.take k))).toArray 117 (0, 0)) ∧ wr.heap[w.heap.size]? = some (.cells (arr18 []).toArray 117 (0, 0)) ∧ CellsB wr b o S ∧ Below w.heap.size w wr)
    (fun _ i _ => 8 - (intOf i).toNat)
  case atStart => exact ⟨0, by omega, rfl, rfl, hB5, hR5, HC, hq5⟩
  case round =>
    clear hB5 hR5 HC hq5
    obtain ⟨k, hk8, rfl, rfl, hB, hR, hC, hb⟩ := hrel
    have hsl := short_le (S.take k)
    rw [List.length_take, HSl.out] at hsl
    by_cases hlt : k < 8
    · have hkS : k < S.length := by have := HSl.out; omega
      have hD1 := Lib.hid (digs_snoc S k hkS)
      have hD2 := Lib.hid (short_snoc S k hkS)
      have hx : wr.cell? ⟨b, o + k, none⟩ = some (.int .u8 (S[k].toNat : Int)) := hC k hkS
      have hdl : (digs (S.take k)).length = 2 * k := by rw [digs_length, List.length_take, HSl.out]; omega
      have hCC := Lib.hid hC
      generalize S[k] = x at *
      have hxl := x.toNat_lt
      have hAnd := and15 x
      have i1 : (k : Int) < 8 := by omega
      have i0 : (0 : Int) ≤ (k : Int) := by omega
      have o1 : wr.cell? ⟨w.heap.size + 1, 2 * k, none⟩ = some (.int .i64 0) := by
        rw [blk_cell hB]; simpa using arr18_old (digs (S.take k)) (2 * k) (by omega) (by omega)
      have o2 : wr.cell? ⟨w.heap.size + 1, 2 * k + 1, none⟩ = some (.int .i64 0) := by
        rw [blk_cell hB]; simpa using arr18_old (digs (S.take k)) (2 * k + 1) (by omega) (by omega)
      have f1 : wr.frozen? ⟨w.heap.size + 1, 2 * k, none⟩ = false := blk_free hB _
      have f2 : wr.frozen? ⟨w.heap.size + 1, 2 * k + 1, none⟩ = false := blk_free hB _
      have HDL := Lib.hid hdl
      clear hC hdl
      go_wp2_with fail
      obtain ⟨a, ha⟩ : ∃ a, a = x.toNat / 16 := ⟨_, rfl⟩
      obtain ⟨d, hd⟩ : ∃ d, d = x.toNat % 16 := ⟨_, rfl⟩
      have e1 : (x.toNat : Int) / 16 = (a : Int) := by omega
      have e2 : (x.toNat : Int) % 16 = (d : Int) := by omega
      have ha15 : a ≤ 15 := by omega
      have hd15 : d ≤ 15 := by omega
      rw [e1, e2]
      rw [← ha, ← hd] at hD1 hD2
      clear e1 e2 ha hd hxl hx hAnd
      have hBn : ((wr.setCell ⟨w.heap.size + 1, 2 * k, none⟩ (.int .i64 (a : Int))).setCell ⟨w.heap.size + 1, 2 * k + 1, none⟩ (.int .i64 (d : Int))).heap[w.heap.size + 1]? = some (.cells (arr18 (digs (S.take (k + 1)))).toArray 117 (0, 0)) := by
        rw [blk_set (blk_set hB _ _), hD1.out]
        have hl := HDL.out
        have q1 := arr18_set (digs (S.take k)) a (by omega)
        have q2 := arr18_set (digs (S.take k) ++ [a]) d (by rw [List.length_append, List.length_cons, List.length_nil]; omega)
        rw [List.length_append, List.length_cons, List.length_nil, ← q1] at q2
        rw [hl] at q2
        simp only [List.setIfInBounds_toArray]
        rw [← q2]
      have hRn : ((wr.setCell ⟨w.heap.size + 1, 2 * k, none⟩ (.int .i64 (a : Int))).setCell ⟨w.heap.size + 1, 2 * k + 1, none⟩ (.int .i64 (d : Int))).heap[w.heap.size]? = some (.cells (arr18 []).toArray 117 (0, 0)) :=
        (Below.heap_setCell _ _ _ w.heap.size (by simp)).trans ((Below.heap_setCell wr _ _ w.heap.size (by simp)).trans hR)
      have hCn : CellsB ((wr.setCell ⟨w.heap.size + 1, 2 * k, none⟩ (.int .i64 (a : Int))).setCell ⟨w.heap.size + 1, 2 * k + 1, none⟩ (.int .i64 (d : Int))) b o S := fun j hj => by
        rw [World.cell?_setCell_far _ _ _ _ (Ne.symm hbne), World.cell?_setCell_far _ _ _ _ (Ne.symm hbne)]
        exact hCC.out j hj
      have hbn : Below w.heap.size w ((wr.setCell ⟨w.heap.size + 1, 2 * k, none⟩ (.int .i64 (a : Int))).setCell ⟨w.heap.size + 1, 2 * k + 1, none⟩ (.int .i64 (d : Int))) := (hb.setCell (by simp) _).setCell (by simp) _
      have p1 : ((wr.setCell ⟨w.heap.size + 1, 2 * k, none⟩ (.int .i64 (a : Int))).setCell ⟨w.heap.size + 1, 2 * k + 1, none⟩ (.int .i64 (d : Int))).cell? ⟨w.heap.size + 1, 2 * k, none⟩ = some (.int .i64 (a : Int)) := by
        exact (World.cell?_setCell_other _ _ _ _ (by simp)).trans (World.cell?_setCell_same _ _ _ o1)
      have p2 : ((wr.setCell ⟨w.heap.size + 1, 2 * k, none⟩ (.int .i64 (a : Int))).setCell ⟨w.heap.size + 1, 2 * k + 1, none⟩ (.int .i64 (d : Int))).cell? ⟨w.heap.size + 1, 2 * k + 1, none⟩ = some (.int .i64 (d : Int)) := by
        have o3 : (wr.setCell ⟨w.heap.size + 1, 2 * k, none⟩ (.int .i64 (a : Int))).cell? ⟨w.heap.size + 1, 2 * k + 1, none⟩ = some (.int .i64 0) := (World.cell?_setCell_other _ _ _ _ (by simp)).trans o2
        exact World.cell?_setCell_same _ _ _ o3
      generalize (wr.setCell ⟨w.heap.size + 1, 2 * k, none⟩ (.int .i64 (a : Int))).setCell ⟨w.heap.size + 1, 2 * k + 1, none⟩ (.int .i64 (d : Int)) = wz at *
      clear hB hR hCC hb o1 o2 f1 f2
      obtain ⟨s, hs⟩ : ∃ s, s = short (S.take k) := ⟨_, rfl⟩
      rw [← hs] at hsl hD2 ⊢
      have hs240 : s ≤ 240 := by omega
      have HN : Hid (((s : Int) + ((30 - (a : Int)) - (d : Int))) = ((short (S.take (k + 1)) : Nat) : Int)) := Lib.hid (by rw [hD2.out]; omega)
      clear hs hD2 hsl
      have w1 : IntKind.i64.wrap (2 * (k : Int)) = 2 * (k : Int) := IntWalk.i64_in _ (by omega)
      have w2 : IntKind.i64.wrap (2 * (k : Int) + 1) = 2 * (k : Int) + 1 := IntWalk.i64_in _ (by omega)
      have w3 : IntKind.i64.wrap (30 - (a : Int)) = 30 - (a : Int) := IntWalk.i64_in _ (by omega)
      have w4 : IntKind.i64.wrap (30 - (a : Int) - (d : Int)) = 30 - (a : Int) - (d : Int) := IntWalk.i64_in _ (by omega)
      have w5 : IntKind.i64.wrap ((s : Int) + (30 - (a : Int) - (d : Int))) = (s : Int) + (30 - (a : Int) - (d : Int)) := IntWalk.i64_in _ (by omega)
      have n1 : (2 * (k : Int)).toNat = 2 * k := by omega
      have n2 : (2 * (k : Int) + 1).toNat = 2 * k + 1 := by omega
      have b1 : (0 : Int) ≤ 2 * (k : Int) := by omega
      have b2 : 2 * (k : Int) < 18 := by omega
      have b3 : (0 : Int) ≤ 2 * (k : Int) + 1 := by omega
      have b4 : 2 * (k : Int) + 1 < 18 := by omega
      go_quiet (fail)
      clear w1 w2 w3 w4 w5 n1 n2
      go_wp2_with fail
      exact ⟨⟨k + 1, by omega, by go_num, by rw [HN.out], hBn, hRn, hCn, below_drewN' hbn nq⟩, by simp [intOf]; omega⟩
    · have i1 : ¬ (k : Int) < 8 := by omega
      obtain rfl : k = 8 := by omega
      have hdl : (digs (S.take 8)).length = 16 := by rw [digs_length, List.length_take, HSl.out]; rfl
      have hH : Hid (gdcells (digitsL root key msg) = arr18 ((digs (S.take 8) ++ [short (S.take 8) / 16]) ++ [short (S.take 8) % 16])) := Lib.hid (by
        have e : digitsL root key msg = (digs (S.take 8) ++ [short (S.take 8) / 16]) ++ [short (S.take 8) % 16] := by
          rw [hD.out, digitsH, List.append_assoc]; rfl
        have hl := digitsL_length root key msg
        rw [← e, arr18, hl]; simp)
      have hCl : (gdcells (digitsL root key msg)).length = 18 := by rw [gdcells, List.length_map, digitsL_length]
      have o1 : wr.cell? ⟨w.heap.size + 1, 16, none⟩ = some (.int .i64 0) := by
        rw [blk_cell hB]; simpa using arr18_old (digs (S.take 8)) 16 (by omega) (by omega)
      have o2 : wr.cell? ⟨w.heap.size + 1, 17, none⟩ = some (.int .i64 0) := by
        rw [blk_cell hB]; simpa using arr18_old (digs (S.take 8)) 17 (by omega) (by omega)
      have f1 : wr.frozen? ⟨w.heap.size + 1, 16, none⟩ = false := blk_free hB _
      have f2 : wr.frozen? ⟨w.heap.size + 1, 17, none⟩ = false := blk_free hB _
      have HDL := Lib.hid hdl
      clear hdl hC HSl
      obtain ⟨D8, hD8⟩ : ∃ D, D = digs (S.take 8) := ⟨_, rfl⟩
      obtain ⟨s, hs⟩ : ∃ s, s = short (S.take 8) := ⟨_, rfl⟩
      rw [← hs, ← hD8] at hH
      rw [← hs] at hsl ⊢
      rw [← hD8] at hB HDL
      clear hs hD8
      have hBf : ((wr.setCell ⟨w.heap.size + 1, 16, none⟩ (.int .i64 ((s : Int) / 16))).setCell ⟨w.heap.size + 1, 17, none⟩ (.int .i64 ((s : Int) % 16))).heap[w.heap.size + 1]? = some (.cells (gdcells (digitsL root key msg)).toArray 117 (0, 0)) := by
        rw [blk_set (blk_set hB _ _), hH.out]
        have hl := HDL.out
        have q1 := arr18_set D8 (s / 16) (by omega)
        have q2 := arr18_set (D8 ++ [s / 16]) (s % 16) (by rw [List.length_append, List.length_cons, List.length_nil]; omega)
        rw [List.length_append, List.length_cons, List.length_nil, ← q1] at q2
        rw [hl] at q2
        simp only [List.setIfInBounds_toArray]
        rw [← q2]
        rfl
      have hRf : ((wr.setCell ⟨w.heap.size + 1, 16, none⟩ (.int .i64 ((s : Int) / 16))).setCell ⟨w.heap.size + 1, 17, none⟩ (.int .i64 ((s : Int) % 16))).heap[w.heap.size]? = some (.cells (arr18 []).toArray 117 (0, 0)) :=
        (Below.heap_setCell _ _ _ w.heap.size (by simp)).trans ((Below.heap_setCell wr _ _ w.heap.size (by simp)).trans hR)
      have hbf : Below w.heap.size w ((wr.setCell ⟨w.heap.size + 1, 16, none⟩ (.int .i64 ((s : Int) / 16))).setCell ⟨w.heap.size + 1, 17, none⟩ (.int .i64 ((s : Int) % 16))) := (hb.setCell (by simp) _).setCell (by simp) _
      have HBf := Lib.hid hBf
      have HRf := Lib.hid hRf
      have Hbf := Lib.hid hbf
      have HCl := Lib.hid hCl
      have HC1 : Hid (∀ v ∈ gdcells (digitsL root key msg), v.oneCell' = true) := Lib.hid (by
        intro v hv
        simp only [gdcells, List.mem_map] at hv
        obtain ⟨x, -, rfl⟩ := hv
        rfl)
      clear hB hR hb hBf hRf hbf hCl hH HDL hD
      generalize hCe : gdcells (digitsL root key msg) = C at *
      have HCe := Lib.hid hCe
      clear hCe
      go_wp2_with (
        with_reducible refine at_load 117 ?_
        have hB := HBf.out
        have hR := HRf.out
        have hbw := Hbf.out
        have hL := HCl.out
        generalize (wr.setCell ⟨w.heap.size + 1, 16, none⟩ (.int .i64 ((s : Int) / 16))).setCell ⟨w.heap.size + 1, 17, none⟩ (.int .i64 ((s : Int) % 16)) = wz at *
        refine wpList_load_mid rfl 117 (.tmp 7) rfl (w.heap.size + 1) 0 rfl C _ ?_ rfl rfl ?_ ?_
        · have := World.rangeAt_of_block hB 0 18
          rw [show (C.toArray.extract 0 (0 + 18)).toList = C by simp [List.take_of_length_le (show C.length ≤ 18 by omega)]] at this
          exact this
        · rw [hL]; rfl
        refine wpList_store_mid rfl 117 (.tmp 6) (.tmp 57) rfl w.heap.size 0 C.toArray rfl rfl ?_ ?_ ?_ ?_
        · intro j hj
          rw [show (0 + j) = j by omega, blk_cell hR j, blk_free hR j]
          rw [List.size_toArray, hL] at hj
          have : j < (arr18 []).length := by rw [arr18_length [] (by simp)]; omega
          simp [this]
        · rw [List.size_toArray, hL]; rfl
        · exact all_oneCell_toArray HC1.out
        have hmid := World.rangeAt_setCells_same wz w.heap.size 0 C (by
          intro j hj
          rw [show (0 + j) = j by omega, blk_cell hR j, blk_free hR j]
          have : j < (arr18 []).length := by rw [arr18_length [] (by simp)]; omega
          simp [this])
        have hwf := Below.setCells (Nat.le_refl w.heap.size) C 0 hbw
        rw [show C.toArray.toList = C by simp]
        clear hB hR hbw HBf HRf Hbf
        generalize wz.setCells w.heap.size 0 C = wf at *
        apply wpList_nil)
      go_wp2_with fail
      refine bodyPost_ret (results_cell_mid rfl _ wf w.heap.size 0 C _ rfl hmid rfl rfl (by rw [hL]; rfl)) rfl ?_
      rw [HCe.out]
      exact ⟨rfl, hwf⟩
end Go.Proofs.YtniclaapiabmdaaGreatDoor
namespace Go.Proofs.YtniclaapiabmdaaGreatDoor
set_option maxRecDepth 100000
open Go Go.RowKit

def pieceL (sig : List UInt8) (i : Nat) : List UInt8 := (sig.drop (32 * i)).take 32
theorem Rd.formN {w : World} {B : Nat} {v : Value} {l : List UInt8} {n : Nat} (h : Rd w B v l) (e : l.length = n) : ∃ A c, v = .slice A n c := by subst e; exact h.form
theorem Rd.part {w : World} {B b o c n : Nat} {l : List UInt8} (h : Rd w B (.slice (some ⟨b, o, none⟩) n c) l) (i k : Nat) (hik : i + k ≤ n) : Rd w B (.slice (some ⟨b, o + i, none⟩) k (c - i)) ((l.drop i).take k) := by
  obtain ⟨A', c', hv, hlc, hcm, hp⟩ := h
  injection hv with h1 h2 h3
  subst h1; subst h2; subst h3
  have hl : ((l.drop i).take k).length = k := by rw [List.length_take, List.length_drop]; omega
  refine ⟨some ⟨b, o + i, none⟩, c - i, by rw [hl], by omega, by omega, fun h0 => ?_⟩
  obtain ⟨b', o', e, hb, hcell⟩ := hp (by omega)
  injection e with e
  injection e with e1 e2 e3
  subst e1; subst e2
  refine ⟨b, o + i, rfl, hb, fun j hj => ?_⟩
  rw [Nat.add_assoc, hcell (i + j) (by omega)]
  simp

set_option maxHeartbeats 1000000 in
theorem piece_any (b o c i : Nat) (sig : List UInt8) (w : World) (h : Rd w w.heap.size (.slice (some ⟨b, o, none⟩) 672 c) sig) (hi : i < 21) :
    Calls Tryz.prog 82 #[.slice (some ⟨b, o, none⟩) 672 c, .int .i64 (i : Int)] w fun e w' => e = .returned (.slice (some ⟨b, o + 32 * i, none⟩) 32 (c - 32 * i)) ∧ w = w' := by
  have hc : 672 ≤ c ∧ c ≤ maxLen := by
    obtain ⟨A', c', e, h1, h2, _⟩ := h
    injection e with _ e2 e3
    omega
  obtain ⟨hc, hcm⟩ := hc
  unfold maxLen at hcm
  have i1 : (0 : Int) ≤ (i : Int) := by omega
  have i2 : (i : Int) < 21 := by omega
  have i3 : (i : Int) * 32 ≤ 640 := by omega
  have i4 : ((i : Int) + 1) * 32 ≤ (c : Int) := by omega
  have i5 : ((i : Int) + 1) * 32 ≤ 672 := by omega
  have i6 : ¬ (i : Int) * 32 = (c : Int) := by omega
  have i7 : (i : Int) * 32 ≤ ((i : Int) + 1) * 32 := by omega
  go_enter Tryz.func82, Tryz.ntmps82
  go_wp2_with fail
  go_ret
  refine ⟨?_, rfl⟩
  show Ending.returned (Value.slice (some ⟨b, o + i * 32, none⟩) ((i + 1) * 32 - i * 32) (c - i * 32)) = _
  rw [show (i + 1) * 32 - i * 32 = 32 by omega, Nat.mul_comm i 32]

set_option maxHeartbeats 1000000 in
theorem verFn_any (b1 b2 b o c k d : Nat) (sig : List UInt8) (w : World) (h : Rd w w.heap.size (.slice (some ⟨b, o, none⟩) 672 c) sig) (hi : k < 18) (hc1 : w.cell? ⟨b1, k, none⟩ = some (.int .i64 (d : Int))) (hc2 : w.cell? ⟨b2, 0, none⟩ = some (.slice (some ⟨b, o, none⟩) 672 c)) :
    Calls Tryz.prog 81 #[.int .i64 (k : Int), .pointer (some ⟨b1, 0, none⟩), .pointer (some ⟨b2, 0, none⟩)] w fun e w' => e = .returned (.tuple #[.int .i64 (d : Int), .slice (some ⟨b, o + 32 * k, none⟩) 32 (c - 32 * k)]) ∧ ∃ n, w' = w.drewN n := by
  have i1 : (0 : Int) ≤ (k : Int) := by omega
  have i2 : (k : Int) < 18 := by omega
  have hP : ∀ n : Nat, Calls Tryz.prog 82 #[.slice (some ⟨b, o, none⟩) 672 c, .int .i64 (k : Int)] (w.drewN n) fun e w' => e = .returned (.slice (some ⟨b, o + 32 * k, none⟩) 32 (c - 32 * k)) ∧ w' = w.drewN n :=
    fun n => (piece_any b o c k sig (w.drewN n) (h.drewN n) (by omega)).mono fun e w' ⟨h1, h2⟩ => ⟨h1, h2.symm⟩
  have HP := Lib.hid hP
  clear hP
  go_enter Tryz.func81, Tryz.ntmps81
  go_wp2_with fail
  go_quiet ((go_at_call 82; exact Calls.quiet_of_same (HP.out _)))
  go_wp2_with fail
  go_ret2
  exact ⟨rfl, _, rfl⟩
end Go.Proofs.YtniclaapiabmdaaGreatDoor
namespace Go.Proofs.YtniclaapiabmdaaGreatDoor
set_option maxRecDepth 100000
open Go Go.RowKit

/-- the hash of l levels above h, on the way from a key's leaf, out of the signature's pieces beside the way -/
def climbL (key : Nat) (sig : List UInt8) (h : List UInt8) : Nat → List UInt8
  | 0 => h
  | l + 1 => if key / 2 ^ l % 2 = 0 then nodeL (climbL key sig h l) (pieceL sig (18 + l)) else nodeL (pieceL sig (18 + l)) (climbL key sig h l)
def verLeaf (root : List UInt8) (key : Nat) (msg sig : List UInt8) : List UInt8 := leafOf key (rowL (fun c => walkL c ((digitsL root key msg).getD c 0) (15 - (digitsL root key msg).getD c 0) (pieceL sig c)) 18)
def verB (root : List UInt8) (key : Int) (msg sig : List UInt8) : Bool := decide (sig.length = 672 ∧ 0 ≤ key ∧ key < 8 ∧ root.length = 32) && sameB (climbL key.toNat sig (verLeaf root key.toNat msg sig) 3) root
theorem and1_64 (n : Nat) (h : n < 4611686018427387904) : bits .and .i64 (n : Int) 1 = ((n % 2 : Nat) : Int) := by
  have h1 : (BitVec.ofInt 64 (n : Int)).toNat = n := by
    rw [BitVec.ofInt_natCast, BitVec.toNat_ofNat]; exact Nat.mod_eq_of_lt (by omega)
  show IntKind.i64.wrap ((BitVec.ofInt 64 (n : Int) &&& BitVec.ofInt 64 1).toNat : Int) = _
  rw [BitVec.toNat_and, h1, show (BitVec.ofInt 64 1).toNat = 2 ^ 1 - 1 from rfl, Nat.and_two_pow_sub_one_eq_mod, IntKind.wrap_i64]
  omega
theorem bit_at (key l : Nat) (hk : key < 4611686018427387904) : bits .and .i64 ((key : Int) / 2 ^ l) 1 = ((key / 2 ^ l % 2 : Nat) : Int) := by
  have e : (key : Int) / 2 ^ l = ((key / 2 ^ l : Nat) : Int) := by push_cast; rfl
  rw [e, and1_64 _ (Nat.lt_of_le_of_lt (Nat.div_le_self _ _) hk)]
theorem getD_le (l : List Nat) (c : Nat) (h : ∀ d ∈ l, d ≤ 15) : l.getD c 0 ≤ 15 := by
  rw [List.getD_eq_getElem?_getD]
  rcases hc : l[c]? with _ | x
  · simp
  · exact h x (List.mem_of_getElem? hc)

set_option maxHeartbeats 4000000 in
theorem leafV_any (key : Nat) (p1 p2 : Value) (pl : Nat → Nat) (val : Nat → List UInt8) (w : World) (h1 : key ≤ 1000) (hpl : ∀ c, pl c ≤ 15) (fr : TypeId × Nat × Nat) (hk : w.heap[0]? = some (.cells kVals fr.1 fr.2))
    (hf : ∀ (c : Nat) (W : World), c < 18 → Below w.heap.size w W → Calls Tryz.prog 81 #[.int .i64 (c : Int), p1, p2] W fun e W' => ∃ v', e = .returned (.tuple #[.int .i64 (pl c : Int), v']) ∧ RdS W' w.heap.size v' (val c) ∧ Below W.heap.size W W') :
    Calls Tryz.prog 80 #[.int .i64 (key : Int), .func (.func 81) #[] #[p1, p2]] w fun e w' => ∃ v', e = .returned v' ∧ Own w' w.heap.size v' (leafOf key (rowL (fun c => walkL c (pl c) (15 - pl c) (val c)) 18)) ∧ Below w.heap.size w w' := by
  obtain ⟨i0, hi, hz, hsz, hby⟩ := info_parts Tryz.infoRow
  have hn0 := blk_lt hk
  have HK := Lib.hid hk
  have HF := Lib.hid hf
  have HP := Lib.hid hpl
  clear hk hf hpl
  have N1 := Lib.hid (fun W : World => gnumber_any key W h1)
  go_enter Tryz.func80, Tryz.ntmps80
  go_wp2_with fail
  refine (N1.out _).mono ?_
  rintro e w1 ⟨v1, rfl, ho1, hb1⟩
  obtain ⟨A1, c1, rfl⟩ := ho1.form
  rw [be_length] at *
  have hr1 : RdS w1 w.heap.size (.slice A1 8 c1) (be key 8) := ho1.rdS
  have hO1 := (OwnR.one hr1).more hb1.size
  have hbx : Below w.heap.size w (w1.alloc (.cells #[.slice A1 8 c1] 27)) := hb1.alloc hb1.size _
  clear ho1 hr1
  go_wp2_with fail
  generalize w1.alloc (.cells #[.slice A1 8 c1] 27) = w2 at *
  go_loopw [5, 12] (fun pv i wr => ∃ k : Nat, k ≤ 18 ∧ i = .int .i64 (k : Int) ∧ OwnR wr w.heap.size w.heap.size pv (be key 8 :: rowL (fun c => walkL c (pl c) (15 - pl c) (val c)) k) ∧ Below w.heap.size w wr)
    (fun _ i _ => 18 - (intOf i).toNat)
  case atStart => exact ⟨0, Nat.zero_le _, rfl, hO1, hbx⟩
  case round =>
    clear hO1 hbx
    obtain ⟨k, hk18, rfl, ho, hb⟩ := hrel
    by_cases hlt : k < 18
    · have i1 : (k : Int) < 18 := by omega
      have hl1 : (be key 8 :: rowL (fun c => walkL c (pl c) (15 - pl c) (val c)) k).length ≤ 1000 := by rw [List.length_cons, rowL_length]; omega
      have hS : Hid (be key 8 :: rowL (fun c => walkL c (pl c) (15 - pl c) (val c)) (k + 1) = (be key 8 :: rowL (fun c => walkL c (pl c) (15 - pl c) (val c)) k) ++ [walkL k (pl k) (15 - pl k) (val k)]) := Lib.hid rfl
      generalize be key 8 :: rowL (fun c => walkL c (pl c) (15 - pl c) (val c)) k = L at *
      obtain ⟨Ap, cp, rfl⟩ := ho.form
      go_wp2_with fail
      refine (HF.out k wr hlt hb).mono ?_
      rintro e w3 ⟨v3, rfl, hr3, hb3⟩
      have q := HP.out k
      have hq3 := below_chain hb hb.size hb3
      go_wp2_with fail
      refine (walk_any v3 (val k) k (pl k) 15 w3 w.heap.size hr3 (by omega) (by omega) (by omega) fr ((hq3.block _ hn0).trans HK.out)).mono ?_
      rintro e w4 ⟨v4, rfl, hr4, hb4⟩
      have hq4 := below_chain hq3 hq3.size hb4
      have ho4 := (ho.up hb3).up hb4
      obtain ⟨A4, c4, rfl⟩ := hr4.1.form
      clear ho hb hb3 hb4 hr3 hq3
      generalize walkL k (pl k) (15 - pl k) (val k) = l4 at *
      have hbx : Below w4.heap.size w4 (w4.alloc (.cells #[.slice A4 l4.length c4] 27)) := (Below.refl _ _).alloc (Nat.le_refl _) _
      have hc5 : (w4.alloc (.cells #[.slice A4 l4.length c4] 27)).cell? ⟨w4.heap.size, 0, none⟩ = some (.slice A4 l4.length c4) := blk_cell (heap_alloc_new w4 _) 0
      go_wp2_with (at_builtin; refine wpList_append_row rfl (.tmp 21) (.tmp 26) _ rfl i0 Tryz.underlying107 hi hz hsz hby rfl (ho4.up hbx) rfl hc5 (hr4.up hbx) (Nat.le_refl _) (Nat.le_trans hl1 (by omega)) (Nat.le_trans hq4.size hbx.size) ?_; intro v5 w5 ho5 hg5; have hq5 : Below w.heap.size w w5 := (ho4.up hbx).below (hq4.alloc hq4.size _) (Nat.le_trans hq4.size hbx.size) hg5)
      go_roundw
      case rel => exact ⟨k + 1, by omega, by go_num, by rw [hS.out]; exact ho5, hq5⟩
      case measure => simp [intOf]; omega
    · have i1 : ¬ (k : Int) < 18 := by omega
      obtain rfl : k = 18 := by omega
      have hHL : Hid (leafOf key (rowL (fun c => walkL c (pl c) (15 - pl c) (val c)) 18) = shaSum (formB (strBytes leafWord) ++ formBs (be key 8 :: rowL (fun c => walkL c (pl c) (15 - pl c) (val c)) 18))) := Lib.hid rfl
      have hl1 : (be key 8 :: rowL (fun c => walkL c (pl c) (15 - pl c) (val c)) 18).length ≤ 1000 := by rw [List.length_cons, rowL_length]; omega
      generalize be key 8 :: rowL (fun c => walkL c (pl c) (15 - pl c) (val c)) 18 = L at *
      have hp := ho.rowS.parts
      obtain ⟨Ap, cp, rfl⟩ := ho.form
      clear ho
      go_wp2_with fail
      refine (tagged_any leafWord _ L wr hp (by unfold maxLen leafWord; decide) hl1 fr ((hb.block _ hn0).trans HK.out)).mono ?_
      rintro e w4 ⟨v4, rfl, ho4, hb4⟩
      go_wp2_with fail
      go_ret
      rw [hHL.out]
      exact ⟨_, rfl, ho4.more hb.size, below_chain hb hb.size hb4⟩

set_option maxHeartbeats 4000000 in
set_option maxRecDepth 100000 in
theorem verify_yes (v1 v3 v4 : Value) (root msg sig : List UInt8) (key : Nat) (w : World) (h1 : Rd w w.heap.size v1 root) (h3 : Rd w w.heap.size v3 msg) (h4 : Rd w w.heap.size v4 sig) (hs : sig.length = 672) (hkey : key < 8) (hr : root.length = 32) (fr : TypeId × Nat × Nat) (hk : w.heap[0]? = some (.cells kVals fr.1 fr.2)) :
    Calls Tryz.prog 33 #[v1, .int .i64 (key : Int), v3, v4] w fun e w' => e = .returned (.bool (sameB (climbL key sig (verLeaf root key msg sig) 3) root)) ∧ Below w.heap.size w w' := by
  have hn0 := blk_lt hk
  have HK := Lib.hid hk
  clear hk
  obtain ⟨A1, c1, rfl⟩ := h1.formN hr
  obtain ⟨A3, c3, rfl⟩ := h3.form
  obtain ⟨A4, c4, rfl⟩ := h4.formN hs
  obtain ⟨-, b, o, rfl, hlb, -⟩ := h4.cell (by omega)
  have hmf : ∀ (fn : Fn) (first cap : Array Value) (w : World), (Instr.makeFunc fn first cap).run Tryz.prog w = .ok (.func fn first cap) w := fun _ _ _ _ => rfl
  have hbw : Below w.heap.size w (w.alloc (.cells #[.slice (some ⟨b, o, none⟩) 672 c4] 27)) := (Below.refl _ _).alloc (Nat.le_refl _) _
  have hcw : (w.alloc (.cells #[.slice (some ⟨b, o, none⟩) 672 c4] 27)).cell? ⟨w.heap.size, 0, none⟩ = some (.slice (some ⟨b, o, none⟩) 672 c4) := blk_cell (heap_alloc_new w _) 0
  have hsw : w.heap.size < (w.alloc (.cells #[.slice (some ⟨b, o, none⟩) 672 c4] 27)).heap.size := by simp
  have i1 : (0 : Int) ≤ (key : Int) := by omega
  have i2 : (key : Int) < 8 := by omega
  have HS := Lib.hid hs
  have HR := Lib.hid hr
  clear hs hr
  go_enter Tryz.func33, Tryz.ntmps33
  go_wp2_with fail
  generalize w.alloc (.cells #[.slice (some ⟨b, o, none⟩) 672 c4] 27) = w1 at *
  refine (digitsOf_any _ _ root msg key w1 (h1.up (Nat.le_refl _) hbw) (h3.up (Nat.le_refl _) hbw) (by omega) fr ((hbw.block _ hn0).trans HK.out)).mono ?_
  rintro e w2 ⟨rfl, hb2⟩
  have hD := digitsL_length root key msg
  have hDl := digitsL_le root key msg
  have hV : Hid (verLeaf root key msg sig = leafOf key (rowL (fun c => walkL c ((digitsL root key msg).getD c 0) (15 - (digitsL root key msg).getD c 0) (pieceL sig c)) 18)) := Lib.hid rfl
  generalize digitsL root key msg = D at *
  have hCl : (gdcells D).length = 18 := by rw [gdcells, List.length_map, hD]
  have HC1 : Hid (∀ v ∈ gdcells D, v.oneCell' = true) := Lib.hid (by
    intro v hv
    simp only [gdcells, List.mem_map] at hv
    obtain ⟨x, -, rfl⟩ := hv
    rfl)
  have HCe : Hid (∀ j (h : j < (gdcells D).length), (gdcells D)[j] = .int .i64 (D.getD j 0 : Int)) := Lib.hid (by
    intro j h
    have hj : j < D.length := by simpa [gdcells] using h
    simp [gdcells, gintV, List.getD_eq_getElem?_getD, hj])
  have HCl := Lib.hid hCl
  have HD := Lib.hid hD
  have HDl := Lib.hid hDl
  have hq2 := below_chain hbw hbw.size hb2
  have hcw2 := (hb2.cell (p := ⟨w.heap.size, 0, none⟩) hsw).trans hcw
  clear hD hDl hCl hcw
  generalize gdcells D = C at *
  go_wp2_with (
    with_reducible refine at_store 117 ?_
    change wpList _ _ _ _ _ (w2.alloc (.cells (arr18 []).toArray 117))
    have hR := heap_alloc_new w2 (.cells (arr18 []).toArray 117)
    have hbz : Below w2.heap.size w2 (w2.alloc (.cells (arr18 []).toArray 117)) := (Below.refl _ _).alloc (Nat.le_refl _) _
    generalize w2.alloc (.cells (arr18 []).toArray 117) = wz at *
    have hL := HCl.out
    have hcz : ∀ j, j < 18 → wz.cell? ⟨w2.heap.size, j, none⟩ = some (.int .i64 0) := fun j hj => by
      rw [blk_cell hR]; simpa using arr18_old [] j (by simp) hj
    refine wpList_store_mid rfl 117 (.tmp 9) (.tmp 32) rfl w2.heap.size 0 C.toArray rfl rfl ?_ ?_ ?_ ?_
    · intro j hj
      rw [List.size_toArray, hL] at hj
      rw [show (0 + j) = j by omega, hcz j hj, blk_free hR j]
      exact ⟨rfl, rfl⟩
    · rw [List.size_toArray, hL]; rfl
    · exact all_oneCell_toArray HC1.out
    rw [show C.toArray.toList = C by simp]
    have hck : ∀ j (h : j < C.length), (wz.setCells w2.heap.size 0 C).cell? ⟨w2.heap.size, 0 + j, none⟩ = some C[j] := World.cell?_setCells_in w2.heap.size C 0 wz (fun j hj => by rw [show (0 + j) = j by omega, hcz j (by omega)]; rfl)
    have hwf := Below.setCells (Nat.le_refl w2.heap.size) C 0 hbz
    clear hR hbz hcz
    generalize wz.setCells w2.heap.size 0 C = wf at *
    have HCK := Lib.hid hck
    clear hck hL
    apply wpList_nil)
  go_wp2_with fail
  have hqf := below_chain hq2 hq2.size hwf
  have hcwf := (hwf.cell (p := ⟨w.heap.size, 0, none⟩) (Nat.lt_of_lt_of_le hsw hb2.size)).trans hcw2
  have hsf : w.heap.size < wf.heap.size := Nat.lt_of_lt_of_le (Nat.lt_of_lt_of_le hsw hb2.size) hwf.size
  clear hcw2 hsw
  refine (leafV_any key _ _ (fun c => D.getD c 0) (fun c => pieceL sig c) wf (by omega) (fun c => getD_le D c HDl.out) fr ((hqf.block _ hn0).trans HK.out) ?_).mono ?_
  · intro c W hc hbW
    have hCc : c < C.length := by have := HCl.out; omega
    have hk1 := HCK.out c hCc
    rw [HCe.out c hCc, Nat.zero_add] at hk1
    have hlt1 := World.block_lt_of_cell? wf _ hk1
    have hqW := below_chain hqf hqf.size hbW
    refine (verFn_any w2.heap.size w.heap.size b o c4 c (D.getD c 0) sig W (h4.up (Nat.le_refl _) hqW) hc ((hbW.cell (p := ⟨w2.heap.size, c, none⟩) hlt1).trans hk1) ((hbW.cell (p := ⟨w.heap.size, 0, none⟩) hsf).trans hcwf)).mono ?_
    rintro e W' ⟨rfl, n, rfl⟩
    have hp := ((h4.part (32 * c) 32 (by omega)).below ((hqW.mono (Nat.le_refl _)).trans (below_drewN' (Below.refl _ _) n)))
    refine ⟨_, rfl, ⟨hp.more (Nat.le_trans hqW.size (by simp)), fun b' _ e => ?_⟩, below_drewN' (Below.refl _ _) n⟩
    simp only [Value.ownBlock, Option.some.injEq] at e
    exact .inl (by omega)
  rintro e w3 ⟨v3, rfl, ho3, hb3⟩
  rw [← hV.out] at ho3
  have hr3 : RdS w3 w.heap.size v3 (verLeaf root key msg sig) := ho3.rdS
  clear hV ho3 HCK HCe HCl HC1 HD HDl
  go_wp2_with fail
  go_loopw [10, 36] (fun hv i wr => ∃ l : Nat, l ≤ 3 ∧ i = .int .i64 (l : Int) ∧ RdS wr w.heap.size hv (climbL key sig (verLeaf root key msg sig) l) ∧ Below wf.heap.size wf wr)
    (fun _ i _ => 3 - (intOf i).toNat)
  case atStart => exact ⟨0, by omega, rfl, hr3, hb3⟩
  case round =>
    clear hr3 hb3
    obtain ⟨l, hl3, rfl, hr, hb⟩ := hrel
    have hqr := below_chain hqf hqf.size hb
    obtain ⟨Ah, ch, rfl⟩ := hr.1.form
    by_cases hlt : l < 3
    · have i3 : (l : Int) < 3 := by omega
      have i4 : (0 : Int) ≤ (l : Int) := by omega
      have hcr := (hb.cell (p := ⟨w.heap.size, 0, none⟩) hsf).trans hcwf
      have hrp := ((h4.up (Nat.le_refl _) hqr).part (32 * (18 + l)) 32 (by omega))
      have hHr := hr.1
      by_cases hpar : key / 2 ^ l % 2 = 0
      · have hbt : (bits .and .i64 ((key : Int) / 2 ^ l) 1 == 0) = true := by rw [bit_at _ _ (by omega), hpar]; rfl
        have hS : Hid (climbL key sig (verLeaf root key msg sig) (l + 1) = nodeL (climbL key sig (verLeaf root key msg sig) l) (pieceL sig (18 + l))) := Lib.hid (by rw [climbL, if_pos hpar])
        clear hpar
        obtain ⟨L2, hL2⟩ : ∃ L, L = climbL key sig (verLeaf root key msg sig) (l + 1) := ⟨_, rfl⟩
        rw [← hL2] at hS
        have HL2 := Lib.hid hL2
        clear hL2
        generalize climbL key sig (verLeaf root key msg sig) l = L at *
        have hp := partsOf2 wr _ _ L (pieceL sig (18 + l)) 27 hHr hrp
        have hbx : Below wr.heap.size wr (wr.alloc (.cells #[.slice Ah L.length ch, .slice (some ⟨b, o + 32 * (18 + l), none⟩) 32 (c4 - 32 * (18 + l))] 27)) := (Below.refl _ _).alloc (Nat.le_refl _) _
        have hbz := below_chain hqr hqr.size hbx
        have hbf := below_chain hb hb.size hbx
        go_wp2_with (go_at_call 82; refine (piece_any b o c4 (18 + l) sig wr (h4.up (Nat.le_refl _) hqr) (by omega)).mono ?_; rintro e w' ⟨rfl, rfl⟩)
        refine (tagged_any nodeWord _ [L, pieceL sig (18 + l)] _ hp (by unfold maxLen nodeWord; decide) (by simp) fr ((hbz.block _ hn0).trans HK.out)).mono ?_
        rintro e w5 ⟨v5, rfl, ho5, hb5⟩
        have e5 : shaSum (formB (strBytes nodeWord) ++ formBs [L, pieceL sig (18 + l)]) = L2 := hS.out.symm
        rw [e5] at ho5
        clear e5
        have hr5 : RdS w5 w.heap.size v5 L2 := ho5.rdS
        have hb6 := below_chain hbf hbf.size hb5
        clear hbz hbx hp ho5 hr hb hqr hrp hHr hcr hbf
        go_wp2_with fail
        go_roundw
        case rel => exact ⟨l + 1, by omega, by go_num, by rw [← HL2.out]; exact hr5, hb6⟩
        case measure => simp [intOf]; omega
      · have hbt : (bits .and .i64 ((key : Int) / 2 ^ l) 1 == 0) = false := by
          have h2 : key / 2 ^ l % 2 = 1 := by omega
          rw [bit_at _ _ (by omega), h2]; rfl
        have hS : Hid (climbL key sig (verLeaf root key msg sig) (l + 1) = nodeL (pieceL sig (18 + l)) (climbL key sig (verLeaf root key msg sig) l)) := Lib.hid (by rw [climbL, if_neg hpar])
        clear hpar
        obtain ⟨L2, hL2⟩ : ∃ L, L = climbL key sig (verLeaf root key msg sig) (l + 1) := ⟨_, rfl⟩
        rw [← hL2] at hS
        have HL2 := Lib.hid hL2
        clear hL2
        generalize climbL key sig (verLeaf root key msg sig) l = L at *
        have hp := partsOf2 wr _ _ (pieceL sig (18 + l)) L 27 hrp hHr
        have hbx : Below wr.heap.size wr (wr.alloc (.cells #[.slice (some ⟨b, o + 32 * (18 + l), none⟩) 32 (c4 - 32 * (18 + l)), .slice Ah L.length ch] 27)) := (Below.refl _ _).alloc (Nat.le_refl _) _
        have hbz := below_chain hqr hqr.size hbx
        have hbf := below_chain hb hb.size hbx
        go_wp2_with (go_at_call 82; refine (piece_any b o c4 (18 + l) sig wr (h4.up (Nat.le_refl _) hqr) (by omega)).mono ?_; rintro e w' ⟨rfl, rfl⟩)
        refine (tagged_any nodeWord _ [pieceL sig (18 + l), L] _ hp (by unfold maxLen nodeWord; decide) (by simp) fr ((hbz.block _ hn0).trans HK.out)).mono ?_
        rintro e w5 ⟨v5, rfl, ho5, hb5⟩
        have e5 : shaSum (formB (strBytes nodeWord) ++ formBs [pieceL sig (18 + l), L]) = L2 := hS.out.symm
        rw [e5] at ho5
        clear e5
        have hr5 : RdS w5 w.heap.size v5 L2 := ho5.rdS
        have hb6 := below_chain hbf hbf.size hb5
        clear hbz hbx hp ho5 hr hb hqr hrp hHr hcr hbf
        go_wp2_with fail
        go_roundw
        case rel => exact ⟨l + 1, by omega, by go_num, by rw [← HL2.out]; exact hr5, hb6⟩
        case measure => simp [intOf]; omega
    · have i3 : ¬ (l : Int) < 3 := by omega
      obtain rfl : l = 3 := by omega
      have hr1 := h1.up (Nat.le_refl _) hqr
      obtain ⟨L, hL⟩ : ∃ L, L = climbL key sig (verLeaf root key msg sig) 3 := ⟨_, rfl⟩
      rw [← hL] at hr ⊢
      have HL := Lib.hid hL
      clear hL
      go_wp2_with fail
      refine (equal_any _ _ L root wr hr.1 hr1).mono ?_
      rintro e w' ⟨rfl, rfl⟩
      go_wp2_with fail
      go_ret
      rw [← HL.out]
      exact ⟨rfl, hqr⟩

theorem verB_no {root : List UInt8} {key : Int} {msg sig : List UInt8} (h : ¬ (sig.length = 672 ∧ 0 ≤ key ∧ key < 8 ∧ root.length = 32)) : verB root key msg sig = false := by
  unfold verB; rw [decide_eq_false h]; rfl
theorem verB_yes {root : List UInt8} {key : Int} {msg sig : List UInt8} (h : sig.length = 672 ∧ 0 ≤ key ∧ key < 8 ∧ root.length = 32) : verB root key msg sig = sameB (climbL key.toNat sig (verLeaf root key.toNat msg sig) 3) root := by
  unfold verB; rw [decide_eq_true h]; rfl

set_option maxHeartbeats 4000000 in
theorem verify_no (v1 v3 v4 : Value) (root msg sig : List UInt8) (key : Int) (w : World) (h1 : Rd w w.heap.size v1 root) (h4 : Rd w w.heap.size v4 sig) (hno : ¬ (sig.length = 672 ∧ 0 ≤ key ∧ key < 8 ∧ root.length = 32)) :
    Calls Tryz.prog 33 #[v1, .int .i64 key, v3, v4] w fun e w' => e = .returned (.bool false) ∧ Below w.heap.size w w' := by
  obtain ⟨A1, c1, rfl⟩ := h1.form
  obtain ⟨A4, c4, rfl⟩ := h4.form
  have hbw : Below w.heap.size w (w.alloc (.cells #[.slice A4 sig.length c4] 27)) := (Below.refl _ _).alloc (Nat.le_refl _) _
  by_cases hs : sig.length = 672
  · by_cases hk0 : key < 0
    · rw [hs]
      clear hs hno h1 h4
      go_enter Tryz.func33, Tryz.ntmps33
      go_wp2_with fail
      go_ret
      exact ⟨rfl, (Below.refl _ _).alloc (Nat.le_refl _) _⟩
    · by_cases hk8 : 8 ≤ key
      · rw [hs]
        have hk1 : 0 ≤ key := by omega
        clear hs hno h1 h4 hk0
        go_enter Tryz.func33, Tryz.ntmps33
        go_wp2_with fail
        go_ret
        exact ⟨rfl, (Below.refl _ _).alloc (Nat.le_refl _) _⟩
      · have hr : ¬ root.length = 32 := fun h => hno ⟨hs, by omega, by omega, h⟩
        have hr2 : ((root.length : Int) != 32) = true := by rw [bne_iff_ne]; omega
        rw [hs]
        have hk1 : 0 ≤ key := by omega
        have hk9 : key < 8 := by omega
        clear hs hno h1 h4 hk0 hk8 hr
        go_enter Tryz.func33, Tryz.ntmps33
        go_wp2_with fail
        go_ret
        exact ⟨rfl, (Below.refl _ _).alloc (Nat.le_refl _) _⟩
  · have hr2 : ((sig.length : Int) != 672) = true := by rw [bne_iff_ne]; omega
    clear hs hno h1 h4
    go_enter Tryz.func33, Tryz.ntmps33
    go_wp2_with fail
    go_ret
    exact ⟨rfl, hbw⟩

theorem gverify_any (v1 v3 v4 : Value) (root msg sig : List UInt8) (key : Int) (w : World) (h1 : Rd w w.heap.size v1 root) (h3 : Rd w w.heap.size v3 msg) (h4 : Rd w w.heap.size v4 sig) (fr : TypeId × Nat × Nat) (hk : w.heap[0]? = some (.cells kVals fr.1 fr.2)) :
    Calls Tryz.prog 33 #[v1, .int .i64 key, v3, v4] w fun e w' => e = .returned (.bool (verB root key msg sig)) ∧ Below w.heap.size w w' := by
  by_cases h : sig.length = 672 ∧ 0 ≤ key ∧ key < 8 ∧ root.length = 32
  · rw [verB_yes h]
    obtain ⟨hs, h0, h8, hr⟩ := h
    obtain ⟨k, rfl⟩ := Int.eq_ofNat_of_zero_le h0
    exact verify_yes v1 v3 v4 root msg sig k w h1 h3 h4 hs (by omega) hr fr hk
  · rw [verB_no h]
    exact verify_no v1 v3 v4 root msg sig key w h1 h4 h
end Go.Proofs.YtniclaapiabmdaaGreatDoor
namespace Go.Proofs.YtniclaapiabmdaaGreatDoor
set_option maxRecDepth 100000
open Go Go.RowKit
section
variable {P : Program} {ops : Array Oper} {Q : Exit → Act → World → Prop} {md : Region.Mode} {S S' : World → Prop}
theorem wpAnyH_stronger (h : ∀ w, S' w → S w) : ∀ (fuel : Nat) (listed : Array Bool) (a : Act) (w : World), wpAnyH P md ops Q S' fuel listed a w → wpAnyH P md ops Q S fuel listed a w
  | 0, _, _, _, H => H
  | fuel + 1, _, _, _, H => ⟨H.1, fun i hi => wpOp_mono (fun a' w' h' => ⟨h _ h'.1, wpAnyH_stronger h fuel _ a' w' h'.2⟩) (H.2 i hi)⟩
end
/-- what stands in the world w reads so from here on -/
def BelS (w : World) : World → Prop := fun W => Below w.heap.size w W
theorem BelS.refl (w : World) : BelS w w := Below.refl _ _
end Go.Proofs.YtniclaapiabmdaaGreatDoor
namespace Go.Proofs.YtniclaapiabmdaaGreatDoor
set_option maxRecDepth 100000
open Go.ChangeShapes Go.WideShapes Go.ChangeAt Go.RowKit Go.Deep

section
variable {H : Type} {enc : TypeId × Value → H} {P : Program} {w : World}

theorem bulk_pos (d : DataW H) : 1 ≤ Rows.uptoBulk d := by
  cases d with
  | lit l => cases l <;> simp [Rows.uptoBulk]
  | _ => simp [Rows.uptoBulk]
theorem bulk_len (l : List (DataW H)) : l.length ≤ Rows.uptoBulkAll l := by
  induction l with
  | nil => simp
  | cons x r ih => have := bulk_pos x; simp only [Rows.uptoBulkAll, List.length_cons]; omega
theorem bulk_bound {l : List (DataW H)} (hk : Rows.uptoSmall H l = true) : Rows.uptoBulkAll l ≤ 1048576 := of_decide_eq_true hk

/-- a byte that an integer in range is -/
def byteOf (z : Int) : UInt8 := UInt8.ofNat z.toNat
theorem bval_byteOf {z : Int} (h : (Lit.int .u8 z).wf = true) : bval (byteOf z) = .int .u8 z := by
  have h2 : 0 ≤ z ∧ z ≤ 255 := by simpa [Lit.wf, IntKind.min, IntKind.max, IntKind.signed, IntKind.bits] using h
  unfold bval byteOf
  congr 1
  rw [UInt8.toNat_ofNat']
  omega

theorem addr_add_none (b o i : Nat) : (⟨b, o, none⟩ : Addr).add i = ⟨b, o + i, none⟩ := by unfold Addr.add; split <;> simp_all

theorem open_bytes {t : TypeId} {fuel : Nat} {v : Value} {x : DataW H × List MemPlace} (ht : P.underlying t = some (.slice 5)) (he : P.underlying 5 = some (.int .u8)) (hc : P.cellsOf 5 = 1)
    (h : DataW.trod enc P w 0 (fun _ => true) true fuel t [v] = some x) : ∃ l : List UInt8, Rd w w.heap.size v l ∧ l.length ≤ Rows.uptoBulk x.1 := by
  rcases open_ints ht he hc h with ⟨hcs, rfl⟩ | ⟨a, len, cap, zs, hcs, _, hl, hm, hz, hx, hcell, hwz⟩
  · simp at hcs
    subst hcs
    exact ⟨[], Rd.nil _ _, by simp⟩
  · simp at hcs
    subst hcs
    simp only [if_true] at hz
    have hlen : ((zs.take len).map byteOf).length = len := by simp; omega
    refine ⟨(zs.take len).map byteOf, ⟨some a, cap, by rw [hlen], by rw [hlen]; exact hl, hm, fun h0 => ?_⟩, ?_⟩
    · rw [hlen] at h0
      have hc0 := hcell 0 (by omega)
      obtain ⟨b, o, spot⟩ := a
      have hspot : spot = none := by simpa [Addr.add] using World.cell?_spot hc0
      subst hspot
      refine ⟨b, o, rfl, ?_, fun j hj => ?_⟩
      · have := World.block_lt_of_cell? w _ hc0
        simpa [Addr.add] using this
      · rw [hlen] at hj
        have hcj := hcell j (by omega)
        rw [addr_add_none] at hcj
        rw [hcj]
        have hw := hwz (zs.getD j 0) (by rw [List.getD_eq_getElem?_getD, List.getElem?_eq_getElem (by omega)]; exact List.getElem_mem _)
        rw [List.getElem_map, List.getElem_take, bval_byteOf]
        · simp [List.getD_eq_getElem?_getD, List.getElem?_eq_getElem (show j < zs.length by omega)]
        · simpa [List.getD_eq_getElem?_getD, List.getElem?_eq_getElem (show j < zs.length by omega)] using hw
    · rw [hx, hlen]
      simp only [Rows.uptoBulk]
      have := bulk_len (lits (H := H) .u8 (zs.take len))
      simp [lits] at this ⊢
      omega

end
end Go.Proofs.YtniclaapiabmdaaGreatDoor
namespace Go.Proofs.YtniclaapiabmdaaGreatDoor
set_option maxRecDepth 100000
open Go.ChangeShapes Go.WideShapes Go.ChangeAt Go.RowKit Go.Deep

theorem str_bulk {H : Type} {d : DataW H} {a : ByteArray} (e : d = .lit (.string a.data.toList)) : a.size ≤ Rows.uptoBulk d := by
  have ea : a.data.toList.length = a.size := by rw [Array.length_toList]; rfl
  rw [e]
  simp only [Rows.uptoBulk, ea]
  omega
end Go.Proofs.YtniclaapiabmdaaGreatDoor
