
/- A disk in memory: rows of files, whose bytes lie in rows of their own; what another's turning leaves. -/
import Derived.Test.YtbbpkenbeenocaaInfo
import Derived.Test.YtbbpkenbeenocaaDiskM
namespace Go.Proofs.Ytbbpkenbeenocaa
set_option maxRecDepth 100000
open Go Go.RowKit
set_option linter.unusedVariables false

/-- nothing has turned but blocks that F names -/
structure Chg (w w' : World) (F : Nat → Prop) : Prop where
  os : w'.os = w.os
  tape : w'.tape = w.tape
  output : w'.output = w.output
  size : w.heap.size ≤ w'.heap.size
  block : ∀ k, k < w.heap.size → ¬ F k → w'.heap[k]? = w.heap[k]?
/-- F, and the blocks that came since -/
def Ext (F : Nat → Prop) (w w' : World) : Nat → Prop := fun k => F k ∨ (w.heap.size ≤ k ∧ k < w'.heap.size)

section
variable {w w' w1 w2 : World} {F G : Nat → Prop} {B : Nat}
theorem Chg.refl (w : World) (F : Nat → Prop) : Chg w w F := ⟨rfl, rfl, rfl, Nat.le_refl _, fun _ _ _ => rfl⟩
theorem Chg.mono (h : Chg w w' F) (hF : ∀ k, k < w.heap.size → F k → G k) : Chg w w' G := ⟨h.os, h.tape, h.output, h.size, fun k h1 h2 => h.block k h1 fun h3 => h2 (hF k h1 h3)⟩
theorem Chg.trans (h : Chg w w1 F) (k : Chg w1 w2 (Ext F w w1)) : Chg w w2 F :=
  ⟨k.os.trans h.os, k.tape.trans h.tape, k.output.trans h.output, Nat.le_trans h.size k.size, fun i hi hn => (k.block i (Nat.lt_of_lt_of_le hi h.size) (fun e => e.elim hn fun e => by omega)).trans (h.block i hi hn)⟩
theorem Chg.trans' (h : Chg w w1 F) (k : Chg w1 w2 F) : Chg w w2 F := h.trans (k.mono fun _ _ => Or.inl)
theorem Chg.of_below (h : Below w.heap.size w w') (F : Nat → Prop) : Chg w w' F := ⟨h.os, h.tape, h.output, h.size, fun k hk _ => h.block k hk⟩
theorem Chg.of_grown {row : Option Nat} (h : w.grownBy w' row) (hF : ∀ k, row = some k → F k) : Chg w w' F := ⟨h.os, h.tape, h.output, h.size, fun k hk hn => h.block k hk fun e => hn (hF k e.symm)⟩
theorem Chg.set (w : World) {p : Addr} (hF : F p.block) (u : Value) : Chg w (w.setCell p u) F :=
  ⟨rfl, rfl, rfl, by simp [World.setCell], fun k _ hn => Below.heap_setCell w p u k (by rintro rfl; exact hn hF)⟩
theorem Chg.drew (w : World) (F : Nat → Prop) : Chg w w.drew F := ⟨rfl, rfl, rfl, Nat.le_refl _, fun _ _ _ => rfl⟩
theorem Chg.alloc (w : World) (F : Nat → Prop) (o : Obj) : Chg w (w.alloc o) F := .of_below ((Below.refl _ _).alloc (Nat.le_refl _) _) F
theorem Chg.below (h : Chg w w' F) (hF : ∀ k, F k → B ≤ k) (hB : B ≤ w.heap.size) : Below B w w' := ⟨h.os, h.tape, h.output, h.size, fun k hk => h.block k (by omega) fun e => by have := hF k e; omega⟩
theorem Ext.here {k : Nat} (h : F k) : Ext F w w' k := .inl h
theorem Ext.lt (hF : ∀ k, F k → k < w.heap.size) (hs : w.heap.size ≤ w'.heap.size) : ∀ k, Ext F w w' k → k < w'.heap.size := fun k h => h.elim (fun h => by have := hF k h; omega) And.right
theorem Ext.ge (hF : ∀ k, F k → B ≤ k) (hB : B ≤ w.heap.size) : ∀ k, Ext F w w' k → B ≤ k := fun k h => h.elim (hF k) fun h => by omega
theorem cell_same {p : Addr} (h : w'.heap[p.block]? = w.heap[p.block]?) : w'.cell? p = w.cell? p := World.cell?_of_block h
end

/-- The slice value v is nil, or has the bytes l in a row whose first cells are free for it to grow into. -/
def Dat (w : World) (v : Value) (l : List UInt8) : Prop :=
  (v = .slice none 0 0 ∧ l = []) ∨ ∃ g c cur, v = .slice (some ⟨g, 0, none⟩) l.length c ∧ w.heap[g]? = some (.cells cur 5 (0, 0)) ∧ l.length ≤ c ∧ c ≤ maxLen ∧ c ≤ cur.size ∧ cur.toList.take l.length = bcells l

section
variable {w w' : World} {v : Value} {l : List UInt8} {B : Nat}
theorem Own.dat (h : Own w B v l) : Dat w v l := by
  rcases h.2 with ⟨rfl, h0⟩ | ⟨g, cap, cur, rfl, hb, hg, hn, hm, hs, ht⟩
  · exact .inl ⟨rfl, List.eq_nil_of_length_eq_zero h0⟩
  · exact .inr ⟨g, cap, cur, rfl, hg, hn, hm, by omega, by rw [← ht, Nat.mul_one]⟩
theorem Dat.nil (w : World) : Dat w (.slice none 0 0) [] := .inl ⟨rfl, rfl⟩
theorem Dat.form (h : Dat w v l) : ∃ A c, v = .slice A l.length c := by
  rcases h with ⟨rfl, rfl⟩ | ⟨g, c, cur, rfl, _⟩
  · exact ⟨none, 0, rfl⟩
  · exact ⟨_, _, rfl⟩
theorem Dat.one (h : Dat w v l) : v.oneCell' = true := by obtain ⟨A, c, rfl⟩ := h.form; rfl
theorem Dat.lt (h : Dat w v l) : ∀ k, v.ownBlock = some k → k < w.heap.size := by
  intro k hk
  rcases h with ⟨rfl, rfl⟩ | ⟨g, c, cur, rfl, hg, _⟩
  · simp [Value.ownBlock] at hk
  · simp only [Value.ownBlock, Option.some.injEq] at hk
    subst hk
    exact blk_lt hg
theorem Dat.rd (h : Dat w v l) : Rd w w.heap.size v l := by
  rcases h with ⟨rfl, rfl⟩ | ⟨g, c, cur, rfl, hg, h1, h2, h3, h4⟩
  · exact Rd.nil _ _
  · refine ⟨_, _, rfl, h1, h2, fun _ => ⟨g, 0, rfl, blk_lt hg, fun j hj => ?_⟩⟩
    rw [cell_of_row w g _ cur _ (0, 0) hg, Nat.zero_add]
    have : (bcells l)[j]? = some (bval l[j]) := by rw [bcells_get, List.getElem?_eq_getElem hj]; rfl
    rw [← h4, List.getElem?_take, if_pos hj] at this
    simpa using this
theorem Dat.keep (h : Dat w v l) (hk : ∀ k, v.ownBlock = some k → w'.heap[k]? = w.heap[k]?) : Dat w' v l := by
  rcases h with h | ⟨g, c, cur, rfl, hg, rest⟩
  · exact .inl h
  · exact .inr ⟨g, c, cur, rfl, (hk g rfl).trans hg, rest⟩
theorem Dat.below (h : Dat w v l) (hb : Below w.heap.size w w') : Dat w' v l := h.keep fun k hk => hb.block k (h.lt k hk)
theorem Dat.ne (h : Dat w v l) {k : Nat} {cs : Array Value} {t : TypeId} (hk : w.heap[k]? = some (.cells cs t (0, 0))) (ht : t ≠ 5) : v.ownBlock ≠ some k := by
  intro e
  rcases h with ⟨rfl, rfl⟩ | ⟨g, c, cur, rfl, hg, _⟩
  · simp [Value.ownBlock] at e
  · simp only [Value.ownBlock, Option.some.injEq] at e
    subst e
    rw [hg] at hk
    injection hk with hk
    injection hk with _ hk _
    exact ht hk.symm
/-- the first n bytes, with the capacity that was, or n -/
theorem Dat.take {A : Option Addr} {m c c' n : Nat} (h : Dat w (.slice A m c) l) (hn : n ≤ l.length) (hc : c' = c ∨ c' = n) : Dat w (.slice A n c') (l.take n) := by
  rcases h with ⟨e, rfl⟩ | ⟨g, c0, cur, e, hg, h1, h2, h3, h4⟩
  · injection e with e1 e2 e3
    obtain rfl : n = 0 := by simpa using hn
    subst e1; subst e3
    obtain rfl : c' = 0 := by omega
    exact .inl ⟨rfl, by simp⟩
  · injection e with e1 e2 e3
    subst e1; subst e3
    have hl : (l.take n).length = n := by simp; omega
    refine .inr ⟨g, c', cur, by rw [hl], hg, by rw [hl]; omega, by omega, by omega, ?_⟩
    rw [hl]
    have : cur.toList.take n = (cur.toList.take l.length).take n := by rw [List.take_take, Nat.min_eq_left hn]
    rw [this, h4]
    simp [bcells]

variable {P : Program}
theorem run_append_dat (t ty : TypeId) (i : TypeInfo) (ht : P.underlying t = some (.slice 5)) (hi : P.info? 5 = some i)
    (hz : i.zero = some (.int .u8 0)) (hsize : i.size = 1) (hby : i.bytes = 1)
    (h : Dat w v l) {s : Value} {m : List UInt8} {Bs : Nat} (hr : Rd w Bs s m) (hlen : l.length + m.length ≤ 140737488355328) :
    ∃ v' w', (Builtin.append_ #[t, t] ty #[v, s]).run P w = .ok v' w' ∧ Dat w' v' (l ++ m) ∧ w.grownBy w' v.ownBlock ∧ (v'.ownBlock = v.ownBlock ∨ v'.ownBlock = some w.heap.size) := by
  rcases h with ⟨rfl, rfl⟩ | ⟨g, c, cur, rfl, hg, h1, h2, h3, h4⟩
  · obtain ⟨v', w', hrun, ho, hgr, hat⟩ := run_append_rd (B := w.heap.size) t ty i ht hi hz hsize hby (Own.nil w w.heap.size) hr (by simpa using hlen) (Nat.le_refl _)
    exact ⟨v', w', hrun, by simpa using ho.dat, hgr, hat⟩
  · by_cases hc : c = cur.size
    · have hown : Own w 0 (.slice (some ⟨g, 0, none⟩) l.length c) l := ⟨by rw [bcells_length]; omega, .inr ⟨g, c, cur, rfl, Nat.zero_le _, hg, h1, h2, by omega, by rw [Nat.mul_one]; exact h4⟩⟩
      obtain ⟨v', w', hrun, ho, hgr, hat⟩ := run_append_rd (B := 0) t ty i ht hi hz hsize hby hown hr hlen (Nat.zero_le _)
      exact ⟨v', w', hrun, ho.dat, hgr, hat⟩
    · obtain ⟨A, cm, rfl, hc2, hm, hp⟩ := hr
      by_cases h0 : m.length = 0
      · obtain rfl : m = [] := List.eq_nil_of_length_eq_zero h0
        refine ⟨_, w, ?_, by rw [List.append_nil]; exact .inr ⟨g, c, cur, rfl, hg, h1, h2, h3, h4⟩, World.grownBy.refl w _, .inl rfl⟩
        cases A <;> simp [Builtin.append_, run_underlying ht, sizeOf, typeInfo, hi, Builtin.lenOf, Builtin.firstCells, h1, storeCells, loadCells, loadCellsFrom, Addr.add]
      · obtain ⟨b, o, rfl, hb, hcell⟩ := hp (by omega)
        have hnews : ∀ j u, (bcells m)[j]? = some u → w.cell? ((⟨b, o, none⟩ : Addr).add j) = some u := fun j u hj => by
          rw [bcells_get] at hj
          obtain ⟨x, hx, rfl⟩ := Option.map_eq_some_iff.1 hj
          obtain ⟨hj', rfl⟩ := List.getElem?_eq_some_iff.1 hx
          have := hcell j hj'
          rw [← this]
          unfold Addr.add; split <;> simp_all
        have hl : (bcells m).length = m.length * i.size := by rw [bcells_length, hsize, Nat.mul_one]
        by_cases hroom : l.length + m.length ≤ c
        · have hr := run_append_room (P := P) w t ty 5 i ht hi g l.length c cur hg ⟨b, o, none⟩ m.length cm (bcells m) hl hnews (bcells_one m) hroom (by rw [bcells_length, hsize, Nat.mul_one]; omega)
          rw [hsize, Nat.mul_one, h4] at hr
          refine ⟨_, _, hr, .inr ⟨g, c, _, by rw [List.length_append], setRow_heap w g cur _ _ _ hg, by rw [List.length_append]; exact hroom, h2, ?_, ?_⟩, ⟨rfl, rfl, rfl, by simp, fun k _ hk => setRow_other w g k _ (fun e => hk (by simp [Value.ownBlock, e]))⟩, .inl rfl⟩
          · simp only [List.size_toArray, List.length_append, List.length_drop, Array.length_toList, bcells_length]
            omega
          · rw [List.length_append, bcells_append]
            exact List.take_left' (by simp [bcells_length])
        · have holds : ∀ j u, (bcells l)[j]? = some u → w.cell? ((⟨g, 0, none⟩ : Addr).add j) = some u := fun j u hj => by
            have hadd : (⟨g, 0, none⟩ : Addr).add j = ⟨g, j, none⟩ := by unfold Addr.add; split <;> simp_all
            rw [hadd, cell_of_row w g j cur _ (0, 0) hg]
            rw [← h4, List.getElem?_take] at hj
            split at hj
            · simpa using hj
            · cases hj
          have hr := run_append_grow (P := P) w t ty 5 i _ ht hi hz ⟨g, 0, none⟩ l.length c (bcells l) (by rw [bcells_length, hsize, Nat.mul_one]) holds ⟨b, o, none⟩ m.length cm (bcells m) hl hnews (by omega) (by omega)
            (growslice_fits (by omega) (by rw [hby]; omega))
          have hge := grownCap_ge w (l.length + m.length) c 5
          have hcm : grownCap w (l.length + m.length) c 5 ≤ maxLen := grownCap_le_maxLen w _ c _ (by unfold maxLen; omega)
          refine ⟨_, _, hr, .inr ⟨w.heap.size, _, _, by rw [List.length_append], heap_alloc_new w.drew _, by rw [List.length_append]; exact hge, hcm, ?_, ?_⟩, ⟨rfl, rfl, rfl, by simp, fun k hk _ => Below.heap_alloc w.drew _ k hk⟩, .inr rfl⟩
          · simp only [Array.size_append, List.size_toArray, size_zeroCells, bcells_length]
            simp [Value.cells]
            omega
          · simp only [Array.toList_append, List.length_append, bcells_append]
            exact List.take_left' (by simp [bcells_length])
end

/-- bytes that are read, in memory that F doesn't name -/
def RdF (w : World) (F : Nat → Prop) (v : Value) (l : List UInt8) : Prop := Rd w w.heap.size v l ∧ ∀ k, 0 < l.length → v.ownBlock = some k → ¬ F k
theorem RdF.chg {w w' : World} {F : Nat → Prop} {v : Value} {l : List UInt8} (h : RdF w F v l) (hc : Chg w w' F) : Rd w' w'.heap.size v l := by
  obtain ⟨⟨A, c, rfl, h1, h2, hp⟩, hn⟩ := h
  refine ⟨A, c, rfl, h1, h2, fun h0 => ?_⟩
  obtain ⟨b, o, rfl, hb, hcell⟩ := hp h0
  refine ⟨b, o, rfl, Nat.lt_of_lt_of_le hb hc.size, fun j hj => ?_⟩
  rw [← hcell j hj]
  exact World.cell?_of_block (hc.block b hb (hn b h0 rfl))
theorem RdF.old {w : World} {F : Nat → Prop} {v : Value} {l : List UInt8} {B : Nat} (h : Rd w B v l) (hB : B ≤ w.heap.size) (hF : ∀ k, F k → B ≤ k) : RdF w F v l := ⟨h.more hB, fun k h0 hk hFk => by
  obtain ⟨A, c, rfl, h1, h2, hp⟩ := h
  obtain ⟨b, o, rfl, hb, hcell⟩ := hp h0
  simp only [Value.ownBlock, Option.some.injEq] at hk
  have := hF k hFk
  omega⟩

/-! ### rows of files -/
/-- a row's cells: a name, bytes, how many are safe -/
def fcells (ps : List (FM × Value)) : List Value := ps.flatMap fun p => [.string p.1.name, p.2, .int .i64 (p.1.safe : Int)]
theorem fcells_nil : fcells [] = [] := rfl
theorem fcells_cons (p : FM × Value) (ps : List (FM × Value)) : fcells (p :: ps) = .string p.1.name :: p.2 :: .int .i64 (p.1.safe : Int) :: fcells ps := rfl
theorem fcells_append (a b : List (FM × Value)) : fcells (a ++ b) = fcells a ++ fcells b := by simp [fcells]
theorem fcells_length (ps : List (FM × Value)) : (fcells ps).length = ps.length * 3 := by
  induction ps with
  | nil => rfl
  | cons p ps ih => rw [fcells_cons]; simp [ih]; omega
theorem fcells_get (ps : List (FM × Value)) : ∀ (k : Nat) (p : FM × Value), ps[k]? = some p → (fcells ps)[k * 3]? = some (.string p.1.name) ∧ (fcells ps)[k * 3 + 1]? = some p.2 ∧ (fcells ps)[k * 3 + 2]? = some (.int .i64 (p.1.safe : Int)) := by
  induction ps with
  | nil => intro k p h; simp at h
  | cons q ps ih =>
    intro k p h
    rw [fcells_cons]
    rcases k with _ | k
    · simp at h; subst h; simp
    · have h' := ih k p (by simpa using h)
      have e : (k + 1) * 3 = k * 3 + 1 + 1 + 1 := by omega
      rw [e]
      simp only [List.getElem?_cons_succ]
      exact h'
theorem fcells_set1 (ps : List (FM × Value)) : ∀ (k : Nat) (p : FM × Value) (v : Value) (d : List UInt8), ps[k]? = some p → (fcells ps).set (k * 3 + 1) v = fcells (ps.set k ({ p.1 with data := d }, v)) := by
  induction ps with
  | nil => intro k p v d h; simp at h
  | cons q ps ih =>
    intro k p v d h
    rw [fcells_cons]
    rcases k with _ | k
    · simp at h; subst h; simp [fcells_cons]
    · have h' := ih k p v d (by simpa using h)
      rw [show (k + 1) * 3 + 1 = (k * 3 + 1) + 1 + 1 + 1 from by omega]
      simp only [List.set_cons_succ, fcells_cons, h']
theorem fcells_set2 (ps : List (FM × Value)) : ∀ (k : Nat) (p : FM × Value) (s : Nat), ps[k]? = some p → (fcells ps).set (k * 3 + 2) (.int .i64 (s : Int)) = fcells (ps.set k ({ p.1 with safe := s }, p.2)) := by
  induction ps with
  | nil => intro k p s h; simp at h
  | cons q ps ih =>
    intro k p s h
    rw [fcells_cons]
    rcases k with _ | k
    · simp at h; subst h; simp [fcells_cons]
    · have h' := ih k p s (by simpa using h)
      rw [show (k + 1) * 3 + 2 = (k * 3 + 2) + 1 + 1 + 1 from by omega]
      simp only [List.set_cons_succ, fcells_cons, h']

/-- the slice value v is a row of files, of elements of type T; it and the files' bytes lie in blocks that F names, no two in one -/
def FilesAt (T : TypeId) (w : World) (F : Nat → Prop) (v : Value) (fs : List FM) : Prop :=
  ∃ ps : List (FM × Value), ps.map (·.1) = fs ∧ w.ownsRow 0 T 3 v fs.length (fcells ps) ∧ (∀ k, v.ownBlock = some k → F k) ∧
    (∀ (j : Nat) (p : FM × Value), ps[j]? = some p → Dat w p.2 p.1.data ∧ p.1.safe ≤ p.1.data.length ∧ ∀ k, p.2.ownBlock = some k → F k) ∧
    (∀ (i j : Nat) (p q : FM × Value) (k : Nat), ps[i]? = some p → ps[j]? = some q → p.2.ownBlock = some k → q.2.ownBlock = some k → i = j)

section
variable {T : TypeId} {w w' : World} {F G : Nat → Prop} {v : Value} {fs : List FM}
theorem FilesAt.nil (T : TypeId) (w : World) (F : Nat → Prop) : FilesAt T w F (.slice none 0 0) [] :=
  ⟨[], rfl, World.ownsRow_nil w 0 _ 3, by simp [Value.ownBlock], by simp, by simp⟩
theorem FilesAt.mono (h : FilesAt T w F v fs) (hF : ∀ k, F k → G k) : FilesAt T w G v fs := by
  obtain ⟨ps, h1, h2, h3, h4, h5⟩ := h
  exact ⟨ps, h1, h2, fun k hk => hF k (h3 k hk), fun j p hp => ⟨(h4 j p hp).1, (h4 j p hp).2.1, fun k hk => hF k ((h4 j p hp).2.2 k hk)⟩, h5⟩
theorem FilesAt.keep (h : FilesAt T w F v fs) (hk : ∀ k, k < w.heap.size → F k → w'.heap[k]? = w.heap[k]?) : FilesAt T w' F v fs := by
  obtain ⟨ps, h1, h2, h3, h4, h5⟩ := h
  refine ⟨ps, h1, ⟨h2.1, ?_⟩, h3, fun j p hp => ⟨(h4 j p hp).1.keep fun k hk' => hk k ((h4 j p hp).1.lt k hk') ((h4 j p hp).2.2 k hk'), (h4 j p hp).2⟩, h5⟩
  rcases h2.2 with h0 | ⟨g, cap, cur, hv, hB, hg, rest⟩
  · exact .inl h0
  · exact .inr ⟨g, cap, cur, hv, hB, (hk g (blk_lt hg) (h3 g (by subst hv; rfl))).trans hg, rest⟩
theorem FilesAt.form (h : FilesAt T w F v fs) : ∃ A c, v = .slice A fs.length c ∧ fs.length ≤ c ∧ c ≤ maxLen := by
  obtain ⟨ps, h1, h2, h3⟩ := h
  rcases h2.2 with ⟨rfl, h0⟩ | ⟨g, cap, cur, rfl, hB, hg, hn, hm, _⟩
  · exact ⟨none, 0, by rw [h0], by omega, by simp [maxLen]⟩
  · exact ⟨_, _, rfl, hn, hm⟩
/-- one file of the row: where it lies, and what may be written there -/
theorem FilesAt.at_ {A : Option Addr} {n c : Nat} (h : FilesAt T w F (.slice A n c) fs) (hT : T ≠ 5) (k : Nat) (hk : k < fs.length) :
    ∃ g o dv, A = some ⟨g, o, none⟩ ∧ F g ∧ g < w.heap.size ∧ (∃ cs, w.heap[g]? = some (.cells cs T (0, 0))) ∧ w.cell? ⟨g, o + k * 3, none⟩ = some (.string fs[k].name) ∧ w.cell? ⟨g, o + k * 3 + 1, none⟩ = some dv ∧ w.cell? ⟨g, o + k * 3 + 2, none⟩ = some (.int .i64 (fs[k].safe : Int)) ∧
      (∀ i, w.frozen? ⟨g, i, none⟩ = false) ∧ Dat w dv fs[k].data ∧ fs[k].safe ≤ fs[k].data.length ∧ (∀ b, dv.ownBlock = some b → F b ∧ b ≠ g) ∧
      (∀ (s : Nat), s ≤ fs[k].data.length → FilesAt T (w.setCell ⟨g, o + k * 3 + 2, none⟩ (.int .i64 (s : Int))) F (.slice A n c) (fs.modify k fun f => { f with safe := s })) ∧
      (∀ (w1 : World) (v1 : Value) (l1 : List UInt8), Dat w1 v1 l1 → fs[k].safe ≤ l1.length → w.grownBy w1 dv.ownBlock → (v1.ownBlock = dv.ownBlock ∨ v1.ownBlock = some w.heap.size) → (∀ j, F j → j < w.heap.size) →
        FilesAt T (w1.setCell ⟨g, o + k * 3 + 1, none⟩ v1) (Ext F w w1) (.slice A n c) (fs.modify k fun f => { f with data := l1 })) := by
  obtain ⟨ps, h1, h2, h3, h4, h5⟩ := h
  subst h1
  rw [List.length_map] at hk
  rcases h2.2 with ⟨h0, h00⟩ | ⟨g, cap, cur, hv, hB, hg, hn, hm, hs, ht⟩
  · simp at h00; subst h00; simp at hk
  · injection hv with e1 e2 e3
    subst e1; subst e3
    rw [List.length_map] at e2 hn ht
    subst e2
    obtain ⟨p, hp⟩ : ∃ p, ps[k]? = some p := ⟨_, List.getElem?_eq_getElem hk⟩
    have hpk : (ps.map (·.1))[k]'(by simpa using hk) = p.1 := by
      simp only [List.getElem_map]
      rw [List.getElem?_eq_getElem hk] at hp
      injection hp with hp
      rw [hp]
    have hcur : ∀ i, i < ps.length * 3 → cur[i]? = (fcells ps)[i]? := fun i hi => by
      rw [← ht, List.getElem?_take, if_pos hi]; simp
    have hc := fcells_get ps k p hp
    have hcell : ∀ i u, i < ps.length * 3 → (fcells ps)[i]? = some u → w.cell? ⟨g, 0 + i, none⟩ = some u := fun i u hi hu => by
      rw [Nat.zero_add, cell_of_row w g i cur T (0, 0) hg, hcur i hi, hu]
    obtain ⟨hd, hsf, hdF⟩ := h4 k p hp
    have hFg : F g := h3 g rfl
    have hdg : ∀ b, p.2.ownBlock = some b → b ≠ g := by
      intro b hb e
      subst e
      exact hd.ne hg hT hb
    refine ⟨g, 0, p.2, rfl, hFg, blk_lt hg, ⟨_, hg⟩, ?_, ?_, ?_, fun i => blk_free hg i, by rw [hpk]; exact hd, by rw [hpk]; exact hsf, fun b hb => ⟨hdF b hb, hdg b hb⟩, fun s hsl => ?_, fun w1 v1 l1 hd1 hs1 hgr hat hFlt => ?_⟩
    · rw [hpk]; exact hcell _ _ (by omega) hc.1
    · rw [Nat.add_assoc]; exact hcell _ _ (by omega) hc.2.1
    · rw [hpk, Nat.add_assoc]; exact hcell _ _ (by omega) hc.2.2
    · rw [hpk] at hsl
      have hb' := blk_set hg (0 + k * 3 + 2) (.int .i64 (s : Int))
      have hsame : ∀ b, b ≠ g → (w.setCell ⟨g, 0 + k * 3 + 2, none⟩ (.int .i64 (s : Int))).heap[b]? = w.heap[b]? := fun b hb => Below.heap_setCell w _ _ b hb
      have hgetset : ∀ j q, (ps.set k ({ p.1 with safe := s }, p.2))[j]? = some q → (j = k ∧ q = ({ p.1 with safe := s }, p.2)) ∨ (j ≠ k ∧ ps[j]? = some q) := fun j q hq => by
        rw [List.getElem?_set] at hq
        by_cases e : k = j
        · subst e; simp [hk] at hq; exact .inl ⟨rfl, hq.symm⟩
        · rw [if_neg e] at hq; exact .inr ⟨fun h => e h.symm, hq⟩
      refine ⟨ps.set k ({ p.1 with safe := s }, p.2), ?_, ⟨by rw [fcells_length]; simp, .inr ⟨g, c, _, by simp, Nat.zero_le _, hb', by simpa using hn, hm, by simpa using hs, ?_⟩⟩, h3, fun j q hq => ?_, fun i j q r b hq hr hqb hrb => ?_⟩
      · rw [List.map_set]
        apply List.ext_getElem?
        intro j
        rw [List.getElem?_set, List.getElem?_modify, List.getElem?_map]
        by_cases e : k = j
        · subst e; simp [hk, List.getElem?_eq_getElem hk] at hp ⊢; rw [hp]; exact ⟨rfl, rfl⟩
        · simp [e]
      · rw [← fcells_set2 ps k p s hp, ← ht]
        simp only [List.length_modify, List.length_map, Array.toList_setIfInBounds]
        rw [List.take_set, Nat.zero_add]
      · rcases hgetset j q hq with ⟨rfl, rfl⟩ | ⟨hj, hq⟩
        · exact ⟨hd.keep fun b hb => hsame b (hdg b hb), hsl, hdF⟩
        · have := h4 j q hq
          exact ⟨this.1.keep fun b hb => hsame b (fun e => by subst e; exact this.1.ne hg hT hb), this.2⟩
      · rcases hgetset i q hq with ⟨rfl, rfl⟩ | ⟨hi, hq'⟩ <;> rcases hgetset j r hr with ⟨rfl, rfl⟩ | ⟨hj, hr'⟩
        · rfl
        · exact h5 _ _ _ _ b hp hr' hqb hrb
        · exact h5 _ _ _ _ b hq' hp hqb hrb
        · exact h5 _ _ _ _ b hq' hr' hqb hrb
    · rw [hpk] at hs1
      have hg1 : w1.heap[g]? = some (.cells cur T (0, 0)) := (hgr.block g (blk_lt hg) fun e => hdg g e.symm rfl).trans hg
      have hb' := blk_set hg1 (0 + k * 3 + 1) v1
      have hsame1 : ∀ b, b ≠ g → (w1.setCell ⟨g, 0 + k * 3 + 1, none⟩ v1).heap[b]? = w1.heap[b]? := fun b hb => Below.heap_setCell w1 _ _ b hb
      have hne1 : ∀ b, v1.ownBlock = some b → b ≠ g := fun b hb e => by subst e; exact hd1.ne hg1 hT hb
      have hF1 : ∀ b, v1.ownBlock = some b → Ext F w w1 b := fun b hb => by
        rcases hat with e | e
        · exact .inl (hdF b (e ▸ hb))
        · rw [e] at hb; injection hb with hb; subst hb
          exact .inr ⟨Nat.le_refl _, hd1.lt _ e⟩
      have hgetset : ∀ j q, (ps.set k ({ p.1 with data := l1 }, v1))[j]? = some q → (j = k ∧ q = ({ p.1 with data := l1 }, v1)) ∨ (j ≠ k ∧ ps[j]? = some q) := fun j q hq => by
        rw [List.getElem?_set] at hq
        by_cases e : k = j
        · subst e; simp [hk] at hq; exact .inl ⟨rfl, hq.symm⟩
        · rw [if_neg e] at hq; exact .inr ⟨fun h => e h.symm, hq⟩
      have hfar : ∀ j q b, j ≠ k → ps[j]? = some q → q.2.ownBlock = some b → v1.ownBlock ≠ some b := fun j q b hj hq hqb e => by
        rcases hat with e' | e'
        · exact hj (h5 _ _ _ _ b hq hp hqb (e' ▸ e))
        · rw [e'] at e; injection e with e; subst e
          have := (h4 j q hq).1.lt _ hqb
          omega
      refine ⟨ps.set k ({ p.1 with data := l1 }, v1), ?_, ⟨by rw [fcells_length]; simp, .inr ⟨g, c, _, by simp, Nat.zero_le _, hb', by simpa using hn, hm, by simpa using hs, ?_⟩⟩, fun b hb => .inl (h3 b hb), fun j q hq => ?_, fun i j q r b hq hr hqb hrb => ?_⟩
      · rw [List.map_set]
        apply List.ext_getElem?
        intro j
        rw [List.getElem?_set, List.getElem?_modify, List.getElem?_map]
        by_cases e : k = j
        · subst e; simp [hk, List.getElem?_eq_getElem hk] at hp ⊢; rw [hp]; exact ⟨rfl, rfl⟩
        · simp [e]
      · rw [← fcells_set1 ps k p v1 l1 hp, ← ht]
        simp only [List.length_modify, List.length_map, Array.toList_setIfInBounds]
        rw [List.take_set, Nat.zero_add]
      · rcases hgetset j q hq with ⟨rfl, rfl⟩ | ⟨hj, hq⟩
        · exact ⟨hd1.keep fun b hb => hsame1 b (hne1 b hb), hs1, hF1⟩
        · have hq4 := h4 j q hq
          refine ⟨hq4.1.keep fun b hb => ?_, hq4.2.1, fun b hb => .inl (hq4.2.2 b hb)⟩
          rw [hsame1 b (fun e => by subst e; exact hq4.1.ne hg hT hb)]
          exact hgr.block b (hq4.1.lt b hb) fun e => hj (h5 _ _ _ _ b hq hp hb e.symm)
      · rcases hgetset i q hq with ⟨rfl, rfl⟩ | ⟨hi, hq'⟩ <;> rcases hgetset j r hr with ⟨rfl, rfl⟩ | ⟨hj, hr'⟩
        · rfl
        · exact absurd hqb (hfar _ _ b hj hr' hrb)
        · exact absurd hrb (hfar _ _ b hi hq' hqb)
        · exact h5 _ _ _ _ b hq' hr' hqb hrb
/-- one file more -/
theorem FilesAt.push (h : FilesAt T w F v fs) {P : Program} (hT : T ≠ 5) (t ty : TypeId) (i : TypeInfo) (ht : P.underlying t = some (.slice T)) (hi : P.info? T = some i) {z : Value} (hz : i.zero = some z) (hsize : i.size = 3) {by_ : Nat} (hby : i.bytes = by_) (hby2 : by_ ≤ 4096) (hzs : z.cells.size = 3)
    (hlt : ∀ k, F k → k < w.heap.size) (f : FM) (dv : Value) (hd : Dat w dv f.data) (hsf : f.safe ≤ f.data.length) (hdF : ∀ k, dv.ownBlock = some k → F k) (hnew : ∀ k, dv.ownBlock = some k → ∀ ps, ps.map (·.1) = fs → w.ownsRow 0 T 3 v fs.length (fcells ps) → ∀ (j : Nat) (p : FM × Value), ps[j]? = some p → p.2.ownBlock ≠ some k)
    {b o c : Nat} (hnews : ∀ j u, [Value.string f.name, dv, .int .i64 (f.safe : Int)][j]? = some u → w.cell? ((⟨b, o, none⟩ : Addr).add j) = some u) (hlen : fs.length ≤ 1000) :
    ∃ v' w', (Builtin.append_ #[t, t] ty #[v, .slice (some ⟨b, o, none⟩) 1 c]).run P w = .ok v' w' ∧ FilesAt T w' (Ext F w w') v' (fs ++ [f]) ∧ w.grownBy w' v.ownBlock := by
  obtain ⟨ps, h1, h2, h3, h4, h5⟩ := h
  have hps : ps.length = fs.length := by rw [← h1]; simp
  have hbytes : (fs.length + 1) * by_ ≤ 140737488355328 := by
    have : (fs.length + 1) * by_ ≤ 1001 * 4096 := Nat.mul_le_mul (by omega) hby2
    omega
  obtain ⟨v', w', hrun, hown, hgr, _, hat⟩ := run_append_own_at (P := P) w 0 t ty T i z 3 by_ ht hi hz hsize hby hzs (by omega) v fs.length (fcells ps) h2 ⟨b, o, none⟩ 1 c [.string f.name, dv, .int .i64 (f.safe : Int)]
    rfl hnews (fun u hu => by
      simp only [List.mem_cons, List.not_mem_nil, or_false] at hu
      rcases hu with rfl | rfl | rfl
      · rfl
      · exact hd.one
      · rfl) (by simp only [maxLen]; omega) hbytes (Nat.zero_le _)
  have hvT : ∀ k, v.ownBlock = some k → ∃ cs, w.heap[k]? = some (.cells cs T (0, 0)) := fun k hk => by
    rcases h2.2 with ⟨rfl, h0⟩ | ⟨g, cap, cur, rfl, hB, hg, hn, hm, hs, ht⟩
    · simp [Value.ownBlock] at hk
    · simp only [Value.ownBlock, Option.some.injEq] at hk; subst hk; exact ⟨_, hg⟩
  have hkeep : ∀ x l, Dat w x l → Dat w' x l := fun x l hx => hx.keep fun k hk => hgr.block k (hx.lt k hk) fun e => by
    obtain ⟨cs, hcs⟩ := hvT k e.symm
    exact hx.ne hcs hT hk
  have hgetp : ∀ j q, (ps ++ [(f, dv)])[j]? = some q → (j < ps.length ∧ ps[j]? = some q) ∨ (j = ps.length ∧ q = (f, dv)) := fun j q hq => by
    by_cases e : j < ps.length
    · rw [List.getElem?_append_left e] at hq; exact .inl ⟨e, hq⟩
    · rw [List.getElem?_append_right (by omega)] at hq
      have : j - ps.length = 0 := by
        rcases Nat.eq_zero_or_pos (j - ps.length) with h | h
        · exact h
        · rw [List.getElem?_eq_none (by simp; omega)] at hq; cases hq
      rw [this] at hq
      simp at hq
      exact .inr ⟨by omega, hq.symm⟩
  refine ⟨v', w', hrun, ⟨ps ++ [(f, dv)], by simp [h1], ?_, fun k hk => ?_, fun j q hq => ?_, fun i j q r k hq hr hqk hrk => ?_⟩, hgr⟩
  · rw [fcells_append, List.length_append]; exact hown
  · rcases hat with e | e
    · exact .inl (h3 k (e ▸ hk))
    · rw [e] at hk; injection hk with hk; subst hk
      exact .inr ⟨Nat.le_refl _, (World.ownsRow.lt hown _ e).2⟩
  · rcases hgetp j q hq with ⟨_, hq⟩ | ⟨_, rfl⟩
    · have := h4 j q hq
      exact ⟨hkeep _ _ this.1, this.2.1, fun k hk => .inl (this.2.2 k hk)⟩
    · exact ⟨hkeep _ _ hd, hsf, fun k hk => .inl (hdF k hk)⟩
  · rcases hgetp i q hq with ⟨hi, hq⟩ | ⟨rfl, rfl⟩ <;> rcases hgetp j r hr with ⟨hj, hr⟩ | ⟨rfl, rfl⟩
    · exact h5 _ _ _ _ k hq hr hqk hrk
    · exact absurd hqk (hnew k hrk ps h1 h2 _ _ hq)
    · exact absurd hrk (hnew k hqk ps h1 h2 _ _ hr)
    · rfl
end
end Go.Proofs.Ytbbpkenbeenocaa
