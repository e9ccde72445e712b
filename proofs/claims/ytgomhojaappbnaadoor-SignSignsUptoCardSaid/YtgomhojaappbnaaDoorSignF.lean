/- The digits that a message's signature tells at: the mathematics, and the walk of package sign's digitsOf. -/
import Derived.Test.YtgomhojaappbnaaDoorSignE
import Derived.Test.YtgomhojaappbnaaDoorShaS
namespace Go.Proofs.YtgomhojaappbnaaDoor
open Go Go.RowKit

def signedWord : ByteArray := ⟨#[115, 105, 103, 110, 101, 100]⟩
def digs (h : List UInt8) : List Nat := h.flatMap fun x => [x.toNat / 16, x.toNat % 16]
def short (h : List UInt8) : Nat := (h.map fun x => 30 - x.toNat / 16 - x.toNat % 16).sum
def digitsH (h : List UInt8) : List Nat := digs (h.take 8) ++ [short (h.take 8) / 16, short (h.take 8) % 16]
def digitsL (root : List UInt8) (key : Nat) (msg : List UInt8) : List Nat := digitsH (shaSum (formB (strBytes signedWord) ++ formBs [root, be key 8, msg]))
theorem digs_length (h : List UInt8) : (digs h).length = 2 * h.length := by
  induction h with
  | nil => rfl
  | cons x r ih => simp only [digs, List.flatMap_cons, List.length_append, List.length_cons, List.length_nil] at *; omega
theorem digs_snoc (h : List UInt8) (k : Nat) (hk : k < h.length) : digs (h.take (k + 1)) = (digs (h.take k) ++ [h[k].toNat / 16]) ++ [h[k].toNat % 16] := by
  rw [List.take_succ_eq_append_getElem hk]
  simp only [digs, List.flatMap_append, List.flatMap_cons, List.flatMap_nil, List.append_nil, List.append_assoc, List.cons_append, List.nil_append]
theorem short_snoc (h : List UInt8) (k : Nat) (hk : k < h.length) : short (h.take (k + 1)) = short (h.take k) + (30 - h[k].toNat / 16 - h[k].toNat % 16) := by
  rw [List.take_succ_eq_append_getElem hk]
  simp only [short, List.map_append, List.map_cons, List.map_nil, List.sum_append, List.sum_cons, List.sum_nil, Nat.add_zero]
theorem short_le (h : List UInt8) : short h ≤ 30 * h.length := by
  induction h with
  | nil => simp [short]
  | cons x r ih => simp only [short, List.map_cons, List.sum_cons, List.length_cons] at *; omega
theorem digs_le (h : List UInt8) : ∀ d ∈ digs h, d ≤ 15 := by
  intro d hd
  simp only [digs, List.mem_flatMap, List.mem_cons, List.not_mem_nil, or_false] at hd
  obtain ⟨x, -, rfl | rfl⟩ := hd
  · have := x.toNat_lt; omega
  · omega
theorem digitsH_length (h : List UInt8) (hl : 8 ≤ h.length) : (digitsH h).length = 18 := by
  simp only [digitsH, List.length_append, digs_length, List.length_take, List.length_cons, List.length_nil]; omega
theorem digitsH_le (h : List UInt8) : ∀ d ∈ digitsH h, d ≤ 15 := by
  intro d hd
  simp only [digitsH, List.mem_append, List.mem_cons, List.not_mem_nil, or_false] at hd
  have hs := short_le (h.take 8)
  have hl : (h.take 8).length ≤ 8 := List.length_take_le _ _
  rcases hd with hd | rfl | rfl
  · exact digs_le _ d hd
  · omega
  · omega
theorem digitsL_length (root : List UInt8) (key : Nat) (msg : List UInt8) : (digitsL root key msg).length = 18 := digitsH_length _ (by rw [shaSum_length]; omega)
theorem digitsL_le (root : List UInt8) (key : Nat) (msg : List UInt8) : ∀ d ∈ digitsL root key msg, d ≤ 15 := digitsH_le _

def intV (d : Nat) : Value := .int .i64 (d : Int)
def dcells (p : List Nat) : List Value := p.map intV
def arr18 (p : List Nat) : List Value := dcells p ++ List.replicate (18 - p.length) (intV 0)
theorem arr18_length (p : List Nat) (h : p.length ≤ 18) : (arr18 p).length = 18 := by simp [arr18, dcells]; omega
theorem arr18_get (p : List Nat) (j : Nat) (h : j < p.length) : (arr18 p)[j]? = some (.int .i64 (p[j] : Int)) := by
  simp [arr18, dcells, h, List.getElem?_append_left, intV]
theorem arr18_old (p : List Nat) (j : Nat) (h : p.length ≤ j) (h2 : j < 18) : (arr18 p)[j]? = some (.int .i64 0) := by
  rw [arr18, List.getElem?_append_right (by simpa [dcells] using h)]
  rw [List.getElem?_replicate, if_pos (by simp only [dcells, List.length_map]; omega)]
  rfl
theorem arr18_set (p : List Nat) (x : Nat) (h : p.length < 18) : (arr18 p).set p.length (.int .i64 (x : Int)) = arr18 (p ++ [x]) := by
  unfold arr18 dcells
  obtain ⟨n, hn⟩ : ∃ n, 18 - p.length = n + 1 := ⟨17 - p.length, by omega⟩
  have hn2 : 18 - (p ++ [x]).length = n := by simp; omega
  rw [hn, hn2, List.replicate_succ, List.set_append_right _ _ (by simp)]
  simp [intV]
/-- the cells from o on of block b are the bytes l -/
def CellsB (w : World) (b o : Nat) (l : List UInt8) : Prop := ∀ j (h : j < l.length), w.cell? ⟨b, o + j, none⟩ = some (bval l[j])
theorem and15 (x : UInt8) : bits .and .u8 (x.toNat : Int) 15 = ((x.toNat % 16 : Nat) : Int) := by
  have hx := x.toNat_lt
  have h1 : (BitVec.ofInt 8 (x.toNat : Int)).toNat = x.toNat := by
    rw [BitVec.ofInt_natCast, BitVec.toNat_ofNat]; exact Nat.mod_eq_of_lt (by omega)
  show IntKind.u8.wrap ((BitVec.ofInt 8 (x.toNat : Int) &&& BitVec.ofInt 8 15).toNat : Int) = _
  rw [BitVec.toNat_and, h1, show (BitVec.ofInt 8 15).toNat = 2 ^ 4 - 1 from rfl, Nat.and_two_pow_sub_one_eq_mod]
  simp only [IntKind.wrap, IntKind.bits, IntKind.signed]
  simp
  omega

set_option maxHeartbeats 4000000 in
set_option maxRecDepth 100000 in
theorem digitsOf_any (v1 v3 : Value) (root msg : List UInt8) (key : Nat) (w : World) (h1 : Rd w w.heap.size v1 root) (h3 : Rd w w.heap.size v3 msg) (hkey : key ≤ 1000) (fr : TypeId × Nat × Nat) (hk : w.heap[0]? = some (.cells kVals fr.1 fr.2)) :
    Calls Tryd.prog 16 #[v1, .int .i64 (key : Int), v3] w fun e w' => e = .returned (.agg (dcells (digitsL root key msg)).toArray) ∧ Below w.heap.size w w' := by
  have hn0 := blk_lt hk
  have HK := Lib.hid hk
  clear hk
  have N1 := Lib.hid (fun W : World => number_any key W hkey)
  obtain ⟨A1, c1, rfl⟩ := h1.form
  obtain ⟨A3, c3, rfl⟩ := h3.form
  obtain ⟨W2, hW2⟩ : ∃ W2, W2 = (w.alloc (.cells (arr18 []).toArray 37)).alloc (.cells (arr18 []).toArray 37) := ⟨_, rfl⟩
  have hR0 : W2.heap[w.heap.size]? = some (.cells (arr18 []).toArray 37 (0, 0)) := by
    rw [hW2]
    exact (Below.heap_alloc (w.alloc (.cells (arr18 []).toArray 37)) (.cells (arr18 []).toArray 37) w.heap.size (by simp)).trans (heap_alloc_new w _)
  have hB0 : W2.heap[w.heap.size + 1]? = some (.cells (arr18 []).toArray 37 (0, 0)) := by
    rw [hW2]
    have := heap_alloc_new (w.alloc (.cells (arr18 []).toArray 37)) (.cells (arr18 []).toArray 37)
    rw [show (w.alloc (.cells (arr18 []).toArray 37)).heap.size = w.heap.size + 1 by simp] at this
    exact this
  have hbw : Below w.heap.size w W2 := by rw [hW2]; exact ((Below.refl _ _).alloc (Nat.le_refl _) _).alloc (by simp) _
  have HW2 := Lib.hid hW2
  clear hW2
  go_enter Tryd.func16, Tryd.ntmps16
  go_wp2_with fail
  change Calls _ _ _ ((w.alloc (.cells (arr18 []).toArray 37)).alloc (.cells (arr18 []).toArray 37)) _
  rw [← HW2.out]
  refine (N1.out _).mono ?_
  rintro e w3 ⟨vk, rfl, hok, hb3⟩
  obtain ⟨Ak, ck, rfl⟩ := hok.form' (be_length key 8)
  have hq3 := below_chain hbw hbw.size hb3
  have hr1 := h1.up (Nat.le_refl _) hq3
  have hr3 := h3.up (Nat.le_refl _) hq3
  have hp := partsOf3 w3 _ _ _ _ _ _ 22 hr1 hok.rd hr3
  have hbx : Below w3.heap.size w3 (w3.alloc (.cells #[.slice A1 root.length c1, .slice Ak 8 ck, .slice A3 msg.length c3] 22)) := (Below.refl _ _).alloc (Nat.le_refl _) _
  have hR3 := (hb3.block _ (blk_lt hR0)).trans hR0
  have hB3 := (hb3.block _ (blk_lt hB0)).trans hB0
  clear hb3 hok hr1 hr3 hR0 hB0 HW2
  go_wp2_with fail
  generalize w3.alloc (.cells #[.slice A1 root.length c1, .slice Ak 8 ck, .slice A3 msg.length c3] 22) = w4 at *
  have hq4 := below_chain hq3 hq3.size hbx
  refine (tagged_any signedWord _ [root, be key 8, msg] w4 hp (by unfold maxLen signedWord; decide) (by simp) fr ((hq4.block _ hn0).trans HK.out)).mono ?_
  rintro e w5 ⟨v5, rfl, ho5, hb5⟩
  have hD : Hid (digitsL root key msg = digitsH (shaSum (formB (strBytes signedWord) ++ formBs [root, be key 8, msg]))) := Lib.hid rfl
  have hSl := shaSum_length (formB (strBytes signedWord) ++ formBs [root, be key 8, msg])
  generalize shaSum (formB (strBytes signedWord) ++ formBs [root, be key 8, msg]) = S at *
  obtain ⟨A5, c5, rfl⟩ := ho5.form' hSl
  have hq5 := below_chain hq4 hq4.size hb5
  have hR5 := (hb5.block _ (Nat.lt_of_lt_of_le (blk_lt hR3) hbx.size)).trans ((hbx.block _ (blk_lt hR3)).trans hR3)
  have hB5 := (hb5.block _ (Nat.lt_of_lt_of_le (blk_lt hB3) hbx.size)).trans ((hbx.block _ (blk_lt hB3)).trans hB3)
  have hrS := ho5.rd
  have hc5 : (8 : Int) ≤ (c5 : Int) := by
    obtain ⟨A', c', e, h1, _⟩ := id hrS
    injection e with _ _ e3
    omega
  obtain ⟨-, b, o, rfl, hb5', hcell⟩ := hrS.cell (by omega)
  have hbne : b ≠ w.heap.size + 1 := by
    have h1 := (ho5.lt b rfl).1
    have h2 := blk_lt hB3
    have h3 := hbx.size
    omega
  have HC : CellsB w5 b o S := hcell
  have HSl := Lib.hid hSl
  clear hR3 hB3 hbx hp hb5 ho5 hq4 hcell hSl hrS
  go_wp2_with fail
  go_loopw [8, 19] (fun sv i wr => ∃ k : Nat, k ≤ 8 ∧ i = .int .i64 (k : Int) ∧ sv = .int .i64 (short (S.take k) : Int) ∧ wr.heap[w.heap.size + 1]? = some (.cells (arr18 (digs (S.take k))).toArray 37 (0, 0)) ∧ wr.heap[w.heap.size]? = some (.cells (arr18 []).toArray 37 (0, 0)) ∧ CellsB wr b o S ∧ Below w.heap.size w wr)
    (fun _ i _ => 8 - (intOf i).toNat)
  case atStart => exact ⟨0, by omega, rfl, rfl, hB5, hR5, HC, hq5⟩
  case round =>
    clear hB5 hR5 HC hq5
    obtain ⟨k, hk8, rfl, rfl, hB, hR, hC, hb⟩ := hrel
    have hsl := short_le (S.take k)
    rw [List.length_take, HSl.out] at hsl
    by_cases hlt : k < 8
    · have hkS : k < S.length := by have := HSl.out; omega
      have hD1 := Lib.hid (digs_snoc S k hkS)
      have hD2 := Lib.hid (short_snoc S k hkS)
      have hx : wr.cell? ⟨b, o + k, none⟩ = some (.int .u8 (S[k].toNat : Int)) := hC k hkS
      have hdl : (digs (S.take k)).length = 2 * k := by rw [digs_length, List.length_take, HSl.out]; omega
      have hCC := Lib.hid hC
      generalize S[k] = x at *
      have hxl := x.toNat_lt
      have hAnd := and15 x
      have i1 : (k : Int) < 8 := by omega
      have i0 : (0 : Int) ≤ (k : Int) := by omega
      have o1 : wr.cell? ⟨w.heap.size + 1, 2 * k, none⟩ = some (.int .i64 0) := by
        rw [blk_cell hB]; simpa using arr18_old (digs (S.take k)) (2 * k) (by omega) (by omega)
      have o2 : wr.cell? ⟨w.heap.size + 1, 2 * k + 1, none⟩ = some (.int .i64 0) := by
        rw [blk_cell hB]; simpa using arr18_old (digs (S.take k)) (2 * k + 1) (by omega) (by omega)
      have f1 : wr.frozen? ⟨w.heap.size + 1, 2 * k, none⟩ = false := blk_free hB _
      have f2 : wr.frozen? ⟨w.heap.size + 1, 2 * k + 1, none⟩ = false := blk_free hB _
      have HDL := Lib.hid hdl
      clear hC hdl
      go_wp2_with fail
      obtain ⟨a, ha⟩ : ∃ a, a = x.toNat / 16 := ⟨_, rfl⟩
      obtain ⟨d, hd⟩ : ∃ d, d = x.toNat % 16 := ⟨_, rfl⟩
      have e1 : (x.toNat : Int) / 16 = (a : Int) := by omega
      have e2 : (x.toNat : Int) % 16 = (d : Int) := by omega
      have ha15 : a ≤ 15 := by omega
      have hd15 : d ≤ 15 := by omega
      rw [e1, e2]
      rw [← ha, ← hd] at hD1 hD2
      clear e1 e2 ha hd hxl hx hAnd
      have hBn : ((wr.setCell ⟨w.heap.size + 1, 2 * k, none⟩ (.int .i64 (a : Int))).setCell ⟨w.heap.size + 1, 2 * k + 1, none⟩ (.int .i64 (d : Int))).heap[w.heap.size + 1]? = some (.cells (arr18 (digs (S.take (k + 1)))).toArray 37 (0, 0)) := by
        rw [blk_set (blk_set hB _ _), hD1.out]
        have hl := HDL.out
        have q1 := arr18_set (digs (S.take k)) a (by omega)
        have q2 := arr18_set (digs (S.take k) ++ [a]) d (by rw [List.length_append, List.length_cons, List.length_nil]; omega)
        rw [List.length_append, List.length_cons, List.length_nil, ← q1] at q2
        rw [hl] at q2
        simp only [List.setIfInBounds_toArray]
        rw [← q2]
      have hRn : ((wr.setCell ⟨w.heap.size + 1, 2 * k, none⟩ (.int .i64 (a : Int))).setCell ⟨w.heap.size + 1, 2 * k + 1, none⟩ (.int .i64 (d : Int))).heap[w.heap.size]? = some (.cells (arr18 []).toArray 37 (0, 0)) :=
        (Below.heap_setCell _ _ _ w.heap.size (by simp)).trans ((Below.heap_setCell wr _ _ w.heap.size (by simp)).trans hR)
      have hCn : CellsB ((wr.setCell ⟨w.heap.size + 1, 2 * k, none⟩ (.int .i64 (a : Int))).setCell ⟨w.heap.size + 1, 2 * k + 1, none⟩ (.int .i64 (d : Int))) b o S := fun j hj => by
        rw [World.cell?_setCell_far _ _ _ _ (Ne.symm hbne), World.cell?_setCell_far _ _ _ _ (Ne.symm hbne)]
        exact hCC.out j hj
      have hbn : Below w.heap.size w ((wr.setCell ⟨w.heap.size + 1, 2 * k, none⟩ (.int .i64 (a : Int))).setCell ⟨w.heap.size + 1, 2 * k + 1, none⟩ (.int .i64 (d : Int))) := (hb.setCell (by simp) _).setCell (by simp) _
      have p1 : ((wr.setCell ⟨w.heap.size + 1, 2 * k, none⟩ (.int .i64 (a : Int))).setCell ⟨w.heap.size + 1, 2 * k + 1, none⟩ (.int .i64 (d : Int))).cell? ⟨w.heap.size + 1, 2 * k, none⟩ = some (.int .i64 (a : Int)) := by
        exact (World.cell?_setCell_other _ _ _ _ (by simp)).trans (World.cell?_setCell_same _ _ _ o1)
      have p2 : ((wr.setCell ⟨w.heap.size + 1, 2 * k, none⟩ (.int .i64 (a : Int))).setCell ⟨w.heap.size + 1, 2 * k + 1, none⟩ (.int .i64 (d : Int))).cell? ⟨w.heap.size + 1, 2 * k + 1, none⟩ = some (.int .i64 (d : Int)) := by
        have o3 : (wr.setCell ⟨w.heap.size + 1, 2 * k, none⟩ (.int .i64 (a : Int))).cell? ⟨w.heap.size + 1, 2 * k + 1, none⟩ = some (.int .i64 0) := (World.cell?_setCell_other _ _ _ _ (by simp)).trans o2
        exact World.cell?_setCell_same _ _ _ o3
      generalize (wr.setCell ⟨w.heap.size + 1, 2 * k, none⟩ (.int .i64 (a : Int))).setCell ⟨w.heap.size + 1, 2 * k + 1, none⟩ (.int .i64 (d : Int)) = wz at *
      clear hB hR hCC hb o1 o2 f1 f2
      obtain ⟨s, hs⟩ : ∃ s, s = short (S.take k) := ⟨_, rfl⟩
      rw [← hs] at hsl hD2 ⊢
      have hs240 : s ≤ 240 := by omega
      have HN : Hid (((s : Int) + ((30 - (a : Int)) - (d : Int))) = ((short (S.take (k + 1)) : Nat) : Int)) := Lib.hid (by rw [hD2.out]; omega)
      clear hs hD2 hsl
      have w1 : IntKind.i64.wrap (2 * (k : Int)) = 2 * (k : Int) := IntWalk.i64_in _ (by omega)
      have w2 : IntKind.i64.wrap (2 * (k : Int) + 1) = 2 * (k : Int) + 1 := IntWalk.i64_in _ (by omega)
      have w3 : IntKind.i64.wrap (30 - (a : Int)) = 30 - (a : Int) := IntWalk.i64_in _ (by omega)
      have w4 : IntKind.i64.wrap (30 - (a : Int) - (d : Int)) = 30 - (a : Int) - (d : Int) := IntWalk.i64_in _ (by omega)
      have w5 : IntKind.i64.wrap ((s : Int) + (30 - (a : Int) - (d : Int))) = (s : Int) + (30 - (a : Int) - (d : Int)) := IntWalk.i64_in _ (by omega)
      have n1 : (2 * (k : Int)).toNat = 2 * k := by omega
      have n2 : (2 * (k : Int) + 1).toNat = 2 * k + 1 := by omega
      have b1 : (0 : Int) ≤ 2 * (k : Int) := by omega
      have b2 : 2 * (k : Int) < 18 := by omega
      have b3 : (0 : Int) ≤ 2 * (k : Int) + 1 := by omega
      have b4 : 2 * (k : Int) + 1 < 18 := by omega
      go_quiet (fail)
      clear w1 w2 w3 w4 w5 n1 n2
      go_wp2_with fail
      exact ⟨⟨k + 1, by omega, by go_num, by rw [HN.out], hBn, hRn, hCn, below_drewN' hbn nq⟩, by simp [intOf]; omega⟩
    · have i1 : ¬ (k : Int) < 8 := by omega
      obtain rfl : k = 8 := by omega
      have hdl : (digs (S.take 8)).length = 16 := by rw [digs_length, List.length_take, HSl.out]; rfl
      have hH : Hid (dcells (digitsL root key msg) = arr18 ((digs (S.take 8) ++ [short (S.take 8) / 16]) ++ [short (S.take 8) % 16])) := Lib.hid (by
        have e : digitsL root key msg = (digs (S.take 8) ++ [short (S.take 8) / 16]) ++ [short (S.take 8) % 16] := by
          rw [hD.out, digitsH, List.append_assoc]; rfl
        have hl := digitsL_length root key msg
        rw [← e, arr18, hl]; simp)
      have hCl : (dcells (digitsL root key msg)).length = 18 := by rw [dcells, List.length_map, digitsL_length]
      have o1 : wr.cell? ⟨w.heap.size + 1, 16, none⟩ = some (.int .i64 0) := by
        rw [blk_cell hB]; simpa using arr18_old (digs (S.take 8)) 16 (by omega) (by omega)
      have o2 : wr.cell? ⟨w.heap.size + 1, 17, none⟩ = some (.int .i64 0) := by
        rw [blk_cell hB]; simpa using arr18_old (digs (S.take 8)) 17 (by omega) (by omega)
      have f1 : wr.frozen? ⟨w.heap.size + 1, 16, none⟩ = false := blk_free hB _
      have f2 : wr.frozen? ⟨w.heap.size + 1, 17, none⟩ = false := blk_free hB _
      have HDL := Lib.hid hdl
      clear hdl hC HSl
      obtain ⟨D8, hD8⟩ : ∃ D, D = digs (S.take 8) := ⟨_, rfl⟩
      obtain ⟨s, hs⟩ : ∃ s, s = short (S.take 8) := ⟨_, rfl⟩
      rw [← hs, ← hD8] at hH
      rw [← hs] at hsl ⊢
      rw [← hD8] at hB HDL
      clear hs hD8
      have hBf : ((wr.setCell ⟨w.heap.size + 1, 16, none⟩ (.int .i64 ((s : Int) / 16))).setCell ⟨w.heap.size + 1, 17, none⟩ (.int .i64 ((s : Int) % 16))).heap[w.heap.size + 1]? = some (.cells (dcells (digitsL root key msg)).toArray 37 (0, 0)) := by
        rw [blk_set (blk_set hB _ _), hH.out]
        have hl := HDL.out
        have q1 := arr18_set D8 (s / 16) (by omega)
        have q2 := arr18_set (D8 ++ [s / 16]) (s % 16) (by rw [List.length_append, List.length_cons, List.length_nil]; omega)
        rw [List.length_append, List.length_cons, List.length_nil, ← q1] at q2
        rw [hl] at q2
        simp only [List.setIfInBounds_toArray]
        rw [← q2]
        rfl
      have hRf : ((wr.setCell ⟨w.heap.size + 1, 16, none⟩ (.int .i64 ((s : Int) / 16))).setCell ⟨w.heap.size + 1, 17, none⟩ (.int .i64 ((s : Int) % 16))).heap[w.heap.size]? = some (.cells (arr18 []).toArray 37 (0, 0)) :=
        (Below.heap_setCell _ _ _ w.heap.size (by simp)).trans ((Below.heap_setCell wr _ _ w.heap.size (by simp)).trans hR)
      have hbf : Below w.heap.size w ((wr.setCell ⟨w.heap.size + 1, 16, none⟩ (.int .i64 ((s : Int) / 16))).setCell ⟨w.heap.size + 1, 17, none⟩ (.int .i64 ((s : Int) % 16))) := (hb.setCell (by simp) _).setCell (by simp) _
      have HBf := Lib.hid hBf
      have HRf := Lib.hid hRf
      have Hbf := Lib.hid hbf
      have HCl := Lib.hid hCl
      have HC1 : Hid (∀ v ∈ dcells (digitsL root key msg), v.oneCell' = true) := Lib.hid (by
        intro v hv
        simp only [dcells, List.mem_map] at hv
        obtain ⟨x, -, rfl⟩ := hv
        rfl)
      clear hB hR hb hBf hRf hbf hCl hH HDL hD
      generalize hCe : dcells (digitsL root key msg) = C at *
      have HCe := Lib.hid hCe
      clear hCe
      go_wp2_with (
        with_reducible refine at_load 37 ?_
        have hB := HBf.out
        have hR := HRf.out
        have hbw := Hbf.out
        have hL := HCl.out
        generalize (wr.setCell ⟨w.heap.size + 1, 16, none⟩ (.int .i64 ((s : Int) / 16))).setCell ⟨w.heap.size + 1, 17, none⟩ (.int .i64 ((s : Int) % 16)) = wz at *
        refine wpList_load_mid rfl 37 (.tmp 7) rfl (w.heap.size + 1) 0 rfl C _ ?_ rfl rfl ?_ ?_
        · have := World.rangeAt_of_block hB 0 18
          rw [show (C.toArray.extract 0 (0 + 18)).toList = C by simp [List.take_of_length_le (show C.length ≤ 18 by omega)]] at this
          exact this
        · rw [hL]; rfl
        refine wpList_store_mid rfl 37 (.tmp 6) (.tmp 57) rfl w.heap.size 0 C.toArray rfl rfl ?_ ?_ ?_ ?_
        · intro j hj
          rw [show (0 + j) = j by omega, blk_cell hR j, blk_free hR j]
          rw [List.size_toArray, hL] at hj
          have : j < (arr18 []).length := by rw [arr18_length [] (by simp)]; omega
          simp [this]
        · rw [List.size_toArray, hL]; rfl
        · exact all_oneCell_toArray HC1.out
        have hmid := World.rangeAt_setCells_same wz w.heap.size 0 C (by
          intro j hj
          rw [show (0 + j) = j by omega, blk_cell hR j, blk_free hR j]
          have : j < (arr18 []).length := by rw [arr18_length [] (by simp)]; omega
          simp [this])
        have hwf := Below.setCells (Nat.le_refl w.heap.size) C 0 hbw
        rw [show C.toArray.toList = C by simp]
        clear hB hR hbw HBf HRf Hbf
        generalize wz.setCells w.heap.size 0 C = wf at *
        apply wpList_nil)
      go_wp2_with fail
      refine bodyPost_ret (results_cell_mid rfl _ wf w.heap.size 0 C _ rfl hmid rfl rfl (by rw [hL]; rfl)) rfl ?_
      rw [HCe.out]
      exact ⟨rfl, hwf⟩
end Go.Proofs.YtgomhojaappbnaaDoor
