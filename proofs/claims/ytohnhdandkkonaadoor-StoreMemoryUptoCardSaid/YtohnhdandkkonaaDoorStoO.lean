
/- A store with one value of its own; calls on a nil store; rows of bytes that are being changed. -/
import Derived.Test.YtohnhdandkkonaaDoorStoR
import Derived.Test.YtohnhdandkkonaaDoorSto1
namespace Go.Proofs.YtohnhdandkkonaaDoor
set_option maxRecDepth 100000
open Go Go.RowKit
set_option linter.unusedVariables false

set_option maxHeartbeats 2000000 in
theorem set_at {w : World} {y : Lyr} {l : List Lyr} (h : PileS w (y :: l)) (hn : y.n < maxLen) (key : ByteArray) (hk : key.size ≤ maxLen) (v : Value) (val : List UInt8) (hr : Rd w w.heap.size v val) (hp : pairB (key, val) = true) {g : ByteArray → Option Value} (hm : MapS Tryd.prog 9 w y.m y.n g) :
    Calls Tryd.prog 8 #[.pointer (some ⟨y.b, 0, none⟩), .string key, v] w fun e w' => e = .returned (.int .i64 0) ∧ ∃ sl, MapS Tryd.prog 9 w' y.m (y.n + 1) (fun s => if s = key then some (.agg #[sl, .bool false]) else g s) ∧ Own w' w.heap.size sl val ∧ Chg w w' (fun k => k = y.m) := by
  have hS := sound_yes h.1
  have hT := takes_any key v val w hk hr
  rw [hp] at hT
  have hpl : keyB key = true ∧ val.length ≤ 65535 := by simpa [pairB] using hp
  have c2d : w.drew.cell? ⟨y.b, 2, none⟩ = some (.map (some y.m)) := blk_cell h.1.cells 2
  have hmd : MapS Tryd.prog 9 w.drew y.m y.n g := hm.chg (F := fun _ => False) (Chg.drew w _) id
  have hbl := h.1.lt
  have HH := Lib.hid h
  obtain ⟨A, c, rfl⟩ := hr.form
  have HC : Calls Tryd.prog 20 #[.slice A val.length c] w.drew fun e w' => ∃ v', e = .returned v' ∧ Own w' w.drew.heap.size v' val ∧ Below w.drew.heap.size w.drew w' := clone_any _ val w.drew (hr.drew) (by omega)
  clear h
  go_enter Tryd.func8, Tryd.ntmps8
  go_wp2_with fail
  refine hS.mono ?_
  rintro e w1 ⟨rfl, rfl⟩
  go_wp2_with fail
  refine hT.mono ?_
  rintro e w2 ⟨rfl, rfl⟩
  go_wp2_with fail
  go_region_held_law (fun W => W.cell? ⟨y.b, 2, none⟩ = some (.map (some y.m)))
    (first | exact c2d | exact c3 | exact c4)
    ((go_at_call 20; (refine HC.mono ?_; rintro e w3 ⟨v3, rfl, ho3, hb3⟩; have c3 := (hb3.cell (p := ⟨y.b, 2, none⟩) hbl.1).trans c2d; obtain ⟨A3, k3, rfl⟩ := ho3.form; obtain ⟨w4, hrun4, hm4, ht4⟩ := (hmd.chg (.of_below hb3 (fun _ => False)) id).store Tryd.isString Tryd.underlying53 hn hk (.agg #[.slice A3 val.length k3, .bool false]); have hc4 := mapTurned_chg ht4; have hby : y.b ≠ y.m := HH.out.ne; have c4 : w4.cell? ⟨y.b, 2, none⟩ = some (.map (some y.m)) := (cell_same (p := ⟨y.b, 2, none⟩) (hc4.block y.b (Nat.lt_of_lt_of_le hbl.1 hb3.size) hby)).trans c3)))
  all_goals
    go_wp2_with fail
    go_ret
    have hb3' : Below w.heap.size w w3 := below_chain ((Below.refl w.heap.size w).drew) (Nat.le_refl _) hb3
    exact ⟨rfl, _, hm4, ho3.grown ht4.grown (.inr fun e => by have := (ho3.lt _ e).1; have h9 : w.drew.heap.size = w.heap.size := rfl; have := hbl.2; omega), (Chg.of_below hb3' _).trans' hc4⟩

/-! ### calls on a nil store -/
section
set_option maxHeartbeats 1000000
theorem del_none (w : World) (key : ByteArray) : Calls Tryd.prog 10 #[.pointer none, .string key] w fun e w' => e = .returned (.tuple #[]) ∧ w = w' := by
  go_enter Tryd.func10, Tryd.ntmps10
  go_wp2_with fail
  refine (sound_no w).mono ?_
  rintro e w1 ⟨rfl, rfl⟩
  go_wp2_with fail
  refine bodyPost_ret (results_none rfl _ _ _) rfl ?_
  exact ⟨rfl, rfl⟩
theorem write_none (w : World) : Calls Tryd.prog 15 #[.pointer none] w fun e w' => e = .returned (.tuple #[]) ∧ w = w' := by
  go_enter Tryd.func15, Tryd.ntmps15
  go_wp2_with fail
  refine (sound_no w).mono ?_
  rintro e w1 ⟨rfl, rfl⟩
  go_wp2_with fail
  refine bodyPost_ret (results_none rfl _ _ _) rfl ?_
  exact ⟨rfl, rfl⟩
theorem set_none (w : World) (key : ByteArray) (A : Option Addr) (n c : Nat) : Calls Tryd.prog 8 #[.pointer none, .string key, .slice A n c] w fun e w' => e = .returned (.int .i64 1) ∧ w = w' := by
  go_enter Tryd.func8, Tryd.ntmps8
  go_wp2_with fail
  refine (sound_no w).mono ?_
  rintro e w1 ⟨rfl, rfl⟩
  go_wp2_with fail
  go_ret
  exact ⟨rfl, rfl⟩
theorem root_none (w : World) : Calls Tryd.prog 12 #[.pointer none] w fun e w' => e = .returned (.slice none 0 0) ∧ w = w' := by
  go_enter Tryd.func12, Tryd.ntmps12
  go_wp2_with fail
  refine (sound_no w).mono ?_
  rintro e w1 ⟨rfl, rfl⟩
  go_wp2_with fail
  go_ret
  exact ⟨rfl, rfl⟩
theorem branch_none (w : World) : Calls Tryd.prog 16 #[.pointer none] w fun e w' => e = .returned (.pointer none) ∧ w = w' := by
  go_enter Tryd.func16, Tryd.ntmps16
  go_wp2_with fail
  refine (sound_no w).mono ?_
  rintro e w1 ⟨rfl, rfl⟩
  go_wp2_with fail
  go_ret
  exact ⟨rfl, rfl⟩
end

/-- a store that has one value, in a row of its own -/
structure OneV (W : World) (yb ym : Nat) (key : ByteArray) (Bs : Nat) (sl : Value) (val : List UInt8) : Prop where
  cells : W.heap[yb]? = some (.cells #[.pointer (some ⟨yb, 0, none⟩), .pointer none, .map (some ym)] 55 (0, 0))
  map : MapS Tryd.prog 9 W ym 1 (fun s => if s = key then some (.agg #[sl, .bool false]) else none)
  own : Own W Bs sl val
  ok : keyB key = true ∧ val.length ≤ 65535
section
variable {W W' : World} {yb ym Bs : Nat} {key : ByteArray} {sl : Value} {val : List UInt8}
theorem OneV.pile (h : OneV W yb ym key Bs sl val) : PileS W [⟨yb, ym, 1, fun s => if s = key then some (some val) else none⟩] := by
  refine ⟨⟨h.cells, ⟨_, h.map, fun s hs => ?_⟩, fun s l e => ?_⟩, (fun z hz => (by cases hz)), trivial⟩
  · by_cases e : s = key
    · exact .inr ⟨_, some val, by simp [e], by simp [e], _, rfl, h.own.rd⟩
    · exact .inl ⟨by simp [e], by simp [e]⟩
  · dsimp only at e
    by_cases k : s = key
    · rw [if_pos k] at e
      injection e with e
      injection e with e
      rw [k, ← e]; exact h.ok
    · rw [if_neg k] at e; cases e
theorem OneV.up (h : OneV W yb ym key Bs sl val) (hb : Below W.heap.size W W') : OneV W' yb ym key Bs sl val :=
  ⟨(hb.block _ (blk_lt h.cells)).trans h.cells, h.map.chg (.of_below hb (fun _ => False)) id, h.own.below hb, h.ok⟩
/-- a row that is not the store's is written -/
theorem OneV.off (h : OneV W yb ym key Bs sl val) {i : Nat} {cs : Array Value} {E : TypeId} {fr : Nat × Nat} (hi : W.heap[i]? = some (.cells cs E fr)) (hg : W.grownBy W' (some i)) (h1 : yb ≠ i) (h2 : sl.ownBlock ≠ some i) : OneV W' yb ym key Bs sl val := by
  refine ⟨(hg.block _ (blk_lt h.cells) (fun e => h1 (Option.some.inj e))).trans h.cells, h.map.chg (F := fun k => k = i) (.of_grown hg fun k e => (Option.some.inj e).symm) (fun e => ?_), h.own.grown hg (.inr h2), h.ok⟩
  obtain ⟨es, c, e'⟩ := h.map.isMap
  rw [e, hi] at e'; cases e'
theorem OneV.lyrIs (h : OneV W yb ym key Bs sl val) : LyrIs [(key, val)] ⟨yb, ym, 1, fun s => if s = key then some (some val) else none⟩ := fun s => by
  show (if s = key then some (some val) else none) = _
  rw [getL_cons]
  by_cases e : s = key
  · simp [e]
  · have e' : ¬ key = s := fun h => e h.symm
    simp [e, e', getL]
end

/-- a row of bytes: those from k on are still as they were -/
def markO (k : Nat) (l : List UInt8) : List (Option UInt8) := l.mapIdx fun i u => if i < k then none else some u
def ByO (w : World) (c : List Value) (p : Option UInt8) : Prop := ∃ x : Int, c = [.int .u8 x] ∧ ∀ u, p = some u → x = (u.toNat : Int)
abbrev OwnO (w : World) (B : Nat) (v : Value) (k : Nat) (l : List UInt8) : Prop := OwnX 5 1 ByO w B v (markO k l)
section
variable {W W' : World} {B k : Nat} {v : Value} {l : List UInt8}
theorem markO_len (k : Nat) (l : List UInt8) : (markO k l).length = l.length := by simp [markO]
theorem markO_get (k : Nat) (l : List UInt8) (i : Nat) (h : i < (markO k l).length) : (markO k l)[i] = if i < k then none else some (l[i]'(by simpa [markO] using h)) := by simp [markO]
theorem markO_set (k : Nat) (l : List UInt8) (h : k < l.length) : (markO k l).set k none = markO (k + 1) l := by
  refine List.ext_getElem (by simp [markO]) fun i h1 h2 => ?_
  rw [markO_get]
  by_cases e : k = i
  · subst e
    rw [List.getElem_set_self]; simp
  · rw [List.getElem_set_ne e, markO_get]
    by_cases h3 : i < k
    · rw [if_pos h3, if_pos (by omega)]
    · rw [if_neg h3, if_neg (by omega)]
theorem OwnO.start (h : Own W B v l) : OwnO W B v 0 l := by
  refine ⟨(bcells l).map (fun x => [x]), ?_, by simp [markO, bcells], fun c hc => by obtain ⟨x, _, rfl⟩ := List.mem_map.1 hc; rfl, fun j hj hj' => ?_⟩
  · have : ((bcells l).map (fun x => [x])).flatten = bcells l := by
      induction bcells l with
      | nil => rfl
      | cons a t ih => simp [ih]
    rw [this, markO_len]
    exact h
  · have hjl : j < l.length := by rw [markO_len] at hj'; exact hj'
    rw [markO_get]
    simp only [List.getElem_map, Nat.not_lt_zero, if_false]
    refine ⟨(l[j].toNat : Int), ?_, fun u e => ?_⟩
    · simp [bcells, bval]
    · injection e with e; rw [← e]
theorem OwnO.step (h : OwnO W B v k l) (hk : k < l.length) : ∃ b c, v = .slice (some ⟨b, 0, none⟩) l.length c ∧ B ≤ b ∧ b < W.heap.size ∧ (∃ cur, W.heap[b]? = some (.cells cur 5 (0, 0))) ∧ W.cell? ⟨b, k, none⟩ = some (.int .u8 ((l[k]).toNat : Int)) ∧ W.frozen? ⟨b, k, none⟩ = false ∧ ∀ x : Int, OwnO (W.setCell ⟨b, k, none⟩ (.int .u8 x)) B v (k + 1) l := by
  obtain ⟨b, c, cur, hv, hB, hblk⟩ := OwnX.blk h (by rw [markO_len]; omega)
  subst hv
  have hkm : k < (markO k l).length := by rw [markO_len]; exact hk
  obtain ⟨b', cs, e1, -, -, -, -, hbl, hcl, hcell, x, hcs, hx⟩ := OwnX.at_ h k hkm
  injection e1 with e1
  injection e1 with e1
  subst e1
  have c0 := hcell 0 (by omega)
  rw [hcs] at c0
  have hxx : x = (l[k].toNat : Int) := hx _ (by rw [markO_get, if_neg (by omega)])
  refine ⟨b, c, by rw [markO_len], hB, hbl, ⟨cur, hblk⟩, ?_, blk_free hblk k, fun z => ?_⟩
  · rw [← hxx]
    simpa using c0
  · have hs := OwnX.set h k 0 hkm (by omega) (.int .u8 z) none (fun c a h => h) (fun c hc => by
      obtain ⟨x, hc, _⟩ := hc
      exact ⟨z, by rw [hc]; rfl, fun u e => by cases e⟩)
    rw [markO_set k l hk] at hs
    simpa using hs
end
end Go.Proofs.YtohnhdandkkonaaDoor
