/- Texts joined: ValS, TxR, TxE. -/
import Derived.Test.YtniclaapiabmdaaGreatDoorM12
import Derived.Maps.AppendAt
import Derived.Test.YtniclaapiabmdaaGreatDoorM13
import Derived.Test.YtniclaapiabmdaaGreatDoorM04
namespace Go.Proofs.YtniclaapiabmdaaGreatDoor
set_option maxRecDepth 100000
open Go Go.RowKit

theorem Tryz.infoStr : (Tryz.prog.info? 9).map (fun i => (i.zero, i.size, i.bytes)) = some (some (.string ⟨#[]⟩), 1, 16) := by kernel_rfl

/-- the slice value v is nil, or is a row of the call's own (blocks from B on) whose cells are the texts l -/
def OwnS (w : World) (B : Nat) (v : Value) (l : List ByteArray) : Prop := w.ownsRow B 9 1 v l.length (l.map Value.string) ∧ ∀ x ∈ l, x.size ≤ maxLen

section
variable {w w' : World} {B B' : Nat} {v : Value} {l : List ByteArray}
theorem OwnS.strs (h : OwnS w B v l) : StrsAt w w.heap.size v l := by
  obtain ⟨h, hf⟩ := h
  rcases h.2 with ⟨rfl, h0⟩ | ⟨g, cap, cur, rfl, hb, hg, hn, hm, hs, ht⟩
  · obtain rfl : l = [] := List.eq_nil_of_length_eq_zero h0
    exact StrsAt.nil _ _
  · refine ⟨_, _, rfl, hn, hm, hf, fun _ => ⟨g, 0, rfl, (Array.getElem?_eq_some_iff.1 hg).1, fun j hj => ?_⟩⟩
    rw [cell_of_row w g _ cur _ (0, 0) hg, Nat.zero_add]
    have : (l.map Value.string)[j]? = some (Value.string l[j]) := by rw [List.getElem?_map, List.getElem?_eq_getElem hj]; rfl
    rw [← ht, List.getElem?_take] at this
    split at this
    · simpa using this
    · cases this
theorem OwnS.form (h : OwnS w B v l) : ∃ A c, v = .slice A l.length c := h.strs.form
theorem OwnS.nil (w : World) (B : Nat) : OwnS w B (.slice none 0 0) [] := ⟨World.ownsRow_nil w B _ 1, fun _ h => absurd h (by simp)⟩
theorem OwnS.lt (h : OwnS w B v l) : ∀ k, v.ownBlock = some k → B ≤ k ∧ k < w.heap.size := World.ownsRow.lt h.1
theorem OwnS.below (h : OwnS w B v l) (hb : Below w.heap.size w w') : OwnS w' B v l := by
  obtain ⟨h, hf⟩ := h
  refine ⟨⟨h.1, ?_⟩, hf⟩
  rcases h.2 with h0 | ⟨g, cap, cur, hv, hB, hg, rest⟩
  · exact .inl h0
  · exact .inr ⟨g, cap, cur, hv, hB, (hb.block g (Array.getElem?_eq_some_iff.1 hg).1).trans hg, rest⟩
theorem OwnS.alloc (h : OwnS w B v l) (o : Obj) : OwnS (w.alloc o) B v l := ⟨World.ownsRow.alloc h.1 o, h.2⟩
theorem OwnS.more (h : OwnS w B v l) (hB : B' ≤ B) : OwnS w B' v l := by
  refine ⟨⟨h.1.1, ?_⟩, h.2⟩
  rcases h.1.2 with h0 | ⟨g, cap, cur, hv, hb, rest⟩
  · exact .inl h0
  · exact .inr ⟨g, cap, cur, hv, by omega, rest⟩
theorem OwnS.below_grown {w0 : World} {B0 : Nat} (hb : Below B0 w0 w) (h : OwnS w B v l) (hB : B0 ≤ B) (hs : B0 ≤ w.heap.size) (hg : w.grownBy w' v.ownBlock) : Below B0 w0 w' := hb.grown hg hs fun k hk => by have := h.lt k hk; omega
variable {P : Program}
theorem wpList_wanted {ops : Array Oper} {rest : List Oper} {o : Oper} {a : Act} {Q : Exit → Act → World → Prop} (hw : Region.wanted o (yielded ops a.tmps) = true)
    (h : ∀ K : Act → World → Prop, (∀ a w, wpList P ops Q rest a w → K a w) → o.wp P a w K Q) : wpList P ops Q (o :: rest) a w := by
  unfold wpList
  rw [if_pos hw]
  exact .inl (h _ (fun _ _ h => h))

end
end Go.Proofs.YtniclaapiabmdaaGreatDoor
namespace Go.Proofs.YtniclaapiabmdaaGreatDoor
set_option maxRecDepth 100000
open Go Go.RowKit
set_option linter.unusedVariables false

/-- the slice value v is nil, or a row of the call's own (blocks from B on) of type E whose cells are vs -/
def OwnV (w : World) (B : Nat) (E : TypeId) (v : Value) (vs : List Value) : Prop := w.ownsRow B E 1 v vs.length vs
/-- the slice value s reads as the cells m -/
def ValsIn (w : World) (s : Value) (m : List Value) : Prop := ∃ A c, s = .slice A m.length c ∧ (∀ u ∈ m, u.oneCell' = true) ∧ (0 < m.length → ∃ b o, A = some ⟨b, o, none⟩ ∧ ∀ (j : Nat) (u : Value), m[j]? = some u → w.cell? ⟨b, o + j, none⟩ = some u)
section
variable {w w' : World} {B B' : Nat} {E E' : TypeId} {v v' : Value} {vs vs' : List Value}
theorem OwnV.lt (h : OwnV w B E v vs) : ∀ k, v.ownBlock = some k → B ≤ k ∧ k < w.heap.size := World.ownsRow.lt h
theorem OwnV.up (h : OwnV w B E v vs) (hb : Below w.heap.size w w') : OwnV w' B E v vs := by
  refine ⟨h.1, ?_⟩
  rcases h.2 with h0 | ⟨g, cap, cur, hv, hB, hg, rest⟩
  · exact .inl h0
  · exact .inr ⟨g, cap, cur, hv, hB, (hb.block g (Array.getElem?_eq_some_iff.1 hg).1).trans hg, rest⟩
theorem OwnV.grown (h : OwnV w B E v vs) {row : Option Nat} (hg : w.grownBy w' row) (hne : v.ownBlock = none ∨ v.ownBlock ≠ row) : OwnV w' B E v vs := World.ownsRow.kept h hg hne
theorem OwnV.form (h : OwnV w B E v vs) : ∃ A c, v = .slice A vs.length c := by
  rcases h.2 with ⟨rfl, h0⟩ | ⟨g, cap, cur, rfl, hb, hg, hn, hm, hs, ht⟩
  · exact ⟨none, 0, by rw [h0]⟩
  · exact ⟨_, _, rfl⟩
theorem OwnV.len (h : OwnV w B E v vs) : vs.length ≤ maxLen := by
  rcases h.2 with ⟨rfl, h0⟩ | ⟨g, cap, cur, rfl, hb, hg, hn, hm, hs, ht⟩
  · rw [h0]; exact Nat.zero_le _
  · exact Nat.le_trans hn hm
theorem OwnV.cell (h : OwnV w B E v vs) {A : Option Addr} {n c : Nat} (hv : v = .slice A n c) (j : Nat) (u : Value) (hu : vs[j]? = some u) : ∃ b, A = some ⟨b, 0, none⟩ ∧ w.cell? ⟨b, 0 + j, none⟩ = some u := by
  rcases h.2 with ⟨rfl, h0⟩ | ⟨g, cap, cur, rfl, hb, hg, hn, hm, hs, ht⟩
  · have := (List.getElem?_eq_some_iff.1 hu).1
    omega
  · injection hv with e1 e2 e3
    refine ⟨g, e1.symm, ?_⟩
    rw [cell_of_row w g _ cur _ (0, 0) hg, Nat.zero_add]
    rw [← ht, List.getElem?_take] at hu
    split at hu
    · simpa using hu
    · cases hu
theorem OwnV.ne (h : OwnV w B E v vs) (h' : OwnV w B' E' v' vs') (hE : E ≠ E') : v.ownBlock = none ∨ v.ownBlock ≠ v'.ownBlock := by
  rcases h.2 with ⟨rfl, h0⟩ | ⟨g, cap, cur, rfl, hb, hg, -⟩
  · exact .inl rfl
  · rcases h'.2 with ⟨rfl, h0⟩ | ⟨g', cap', cur', rfl, hb', hg', -⟩
    · exact .inr (by simp [Value.ownBlock])
    · refine .inr fun e => ?_
      simp only [Value.ownBlock, Option.some.injEq] at e
      subst e
      rw [hg] at hg'
      injection hg' with e
      injection e with e1 e2 e3
      exact hE e2
theorem OwnV.keeps (h : OwnV w B E v vs) (hg : w.grownBy w' v.ownBlock) {b : Nat} {cs : Array Value} {T : TypeId} {fr : Nat × Nat} (hb : w.heap[b]? = some (.cells cs T fr)) (hT : T ≠ E) : w'.heap[b]? = some (.cells cs T fr) := by
  refine (hg.block b (Array.getElem?_eq_some_iff.1 hb).1 fun e => ?_).trans hb
  rcases h.2 with ⟨rfl, h0⟩ | ⟨g, cap, cur, rfl, hb2, hg2, -⟩
  · simp [Value.ownBlock] at e
  · simp only [Value.ownBlock, Option.some.injEq] at e
    subst e
    rw [hg2] at hb
    injection hb with e
    injection e with e1 e2 e3
    exact hT e2.symm
theorem OwnV.new (w : World) (l : List Value) (E : TypeId) (hl : l.length ≤ maxLen) : OwnV (w.alloc (.cells l.toArray E)) w.heap.size E (.slice (some ⟨w.heap.size, 0, none⟩) l.length l.length) l :=
  ⟨by simp, .inr ⟨w.heap.size, l.length, _, rfl, Nat.le_refl _, heap_alloc_new w _, Nat.le_refl _, hl, by simp, by simp [List.take_of_length_le]⟩⟩
theorem OwnV.more (h : OwnV w B E v vs) (hB : B' ≤ B) : OwnV w B' E v vs := World.ownsRow.mono h hB
theorem ValsIn.up {s : Value} {m : List Value} (h : ValsIn w s m) (hc : ∀ b o u, w.cell? ⟨b, o, none⟩ = some u → w'.cell? ⟨b, o, none⟩ = some u) : ValsIn w' s m := by
  obtain ⟨A, c, h1, h2, h3⟩ := h
  exact ⟨A, c, h1, h2, fun h0 => by obtain ⟨b, o, h4, h5⟩ := h3 h0; exact ⟨b, o, h4, fun j u hu => hc _ _ _ (h5 j u hu)⟩⟩
theorem ValsIn.row (w : World) (l : List Value) (E : TypeId) (h : ∀ u ∈ l, u.oneCell' = true) : ValsIn (w.alloc (.cells l.toArray E)) (.slice (some ⟨w.heap.size, 0, none⟩) l.length l.length) l :=
  ⟨_, _, rfl, h, fun _ => ⟨_, _, rfl, fun j u hu => by rw [Nat.zero_add, blk_cell (heap_alloc_new w _) j, List.getElem?_toArray]; exact hu⟩⟩

variable {P : Program}
theorem run_append_vals (t ty : TypeId) (i : TypeInfo) (z : Value) (nb : Nat) (ht : P.underlying t = some (.slice E)) (hi : P.info? E = some i)
    (hz : i.zero = some z) (hone : z.cells.size = 1) (hsize : i.size = 1) (hby : i.bytes = nb)
    (hown : OwnV w B E v vs) {s : Value} {m : List Value} (hr : ValsIn w s m)
    (hlen : vs.length + m.length ≤ 1000000) (hlen2 : (vs.length + m.length) * nb ≤ 140737488355328) (hbase : B ≤ w.heap.size) :
    ∃ v' w', (Builtin.append_ #[t, t] ty #[v, s]).run P w = .ok v' w' ∧ OwnV w' B E v' (vs ++ m) ∧ w.grownBy w' v.ownBlock ∧
      (v'.ownBlock = v.ownBlock ∨ v'.ownBlock = some w.heap.size) := by
  obtain ⟨A, c, rfl, hm1, hp⟩ := hr
  by_cases h0 : m.length = 0
  · obtain rfl : m = [] := List.eq_nil_of_length_eq_zero h0
    refine ⟨v, w, ?_, by rw [List.append_nil]; exact hown, World.grownBy.refl w _, .inl rfl⟩
    rcases hown.2 with ⟨rfl, h0⟩ | ⟨g, cap, cur, rfl, _, _, hnc, _⟩
    · cases A <;> simp [Builtin.append_, run_underlying ht, sizeOf, typeInfo, hi, Builtin.lenOf, Builtin.firstCells, loadCells, loadCellsFrom]
    · cases A <;> simp [Builtin.append_, run_underlying ht, sizeOf, typeInfo, hi, Builtin.lenOf, Builtin.firstCells, hnc, storeCells, loadCells, loadCellsFrom, Addr.add]
  · obtain ⟨b, o, rfl, hcell⟩ := hp (by omega)
    obtain ⟨v', w', hrun, h2, h3, _, h5⟩ := run_append_own_at (P := P) w B t ty E i z 1 nb ht hi hz hsize hby hone (by omega) v vs.length vs hown ⟨b, o, none⟩ m.length c m
      (by simp)
      (fun j u hj => by
        have := hcell j u hj
        rw [← this]
        unfold Addr.add; split <;> simp_all)
      hm1 (by simp only [maxLen]; omega) (by omega) hbase
    exact ⟨v', w', hrun, by unfold OwnV; rw [List.length_append]; exact h2, h3, h5⟩
theorem wpList_append_vals {ops : Array Oper} {rest : List Oper} {o : Oper} {a : Act} {Q : Exit → Act → World → Prop} (hw : Region.wanted o (yielded ops a.tmps) = true) (sv sx : Operand) (t : TypeId)
    (ho : o.op = .call { callee := .builtin .append, args := #[sv, sx], argTypes := #[t, t] })
    (i : TypeInfo) (z : Value) (nb : Nat) (ht : P.underlying t = some (.slice E)) (hi : P.info? E = some i)
    (hz : i.zero = some z) (hone : z.cells.size = 1) (hsize : i.size = 1) (hby : i.bytes = nb)
    (hs : a.eval sv = v) (hown : OwnV w B E v vs) {s : Value} {m : List Value} (hx : a.eval sx = s) (hr : ValsIn w s m)
    (hlen : vs.length + m.length ≤ 1000000) (hlen2 : (vs.length + m.length) * nb ≤ 140737488355328) (hbase : B ≤ w.heap.size)
    (h : ∀ v' w', OwnV w' B E v' (vs ++ m) → w.grownBy w' v.ownBlock → wpList P ops Q rest (a.put o.dst v') w') : wpList P ops Q (o :: rest) a w := by
  refine wpList_wanted hw fun K hK => ?_
  obtain ⟨v', w', hrun, h2, h3, h4⟩ := run_append_vals (P := P) t o.type i z nb ht hi hz hone hsize hby hown hr hlen hlen2 hbase
  unfold Oper.wp execOp
  simp only [ho, resolve, invoke, builtin, Sem.run_bind, Sem.run_pure, Result.andThen_ok, List.map_toArray, List.map_cons, List.map_nil, hs, hx, hrun]
  exact hK _ _ (h v' w' h2 h3)
end

/-- values that are slices of as many bytes as the parts have -/
def SlL (vs : List Value) (ls : List (List UInt8)) : Prop := vs.length = ls.length ∧ ∀ (j : Nat) (h : j < ls.length), ∃ A c, vs[j]? = some (.slice A ls[j].length c)
theorem SlL.append {a b : List Value} {c d : List (List UInt8)} (h : SlL a c) (k : SlL b d) : SlL (a ++ b) (c ++ d) := by
  refine ⟨by rw [List.length_append, List.length_append, h.1, k.1], fun j hj => ?_⟩
  rw [List.length_append] at hj
  by_cases hjc : j < c.length
  · rw [List.getElem?_append_left (by rw [h.1]; exact hjc), List.getElem_append_left hjc]
    exact h.2 j hjc
  · rw [List.getElem?_append_right (by rw [h.1]; omega), List.getElem_append_right (by omega), h.1]
    exact k.2 _ _
theorem SlL.cons {A : Option Addr} {n c : Nat} {b : List Value} {l : List UInt8} {d : List (List UInt8)} (hn : n = l.length) (k : SlL b d) : SlL (.slice A n c :: b) (l :: d) := by
  refine ⟨by simp [k.1], fun j hj => ?_⟩
  cases j with
  | zero => exact ⟨A, c, by simp [hn]⟩
  | succ j => simpa using k.2 j (by simpa using hj)
theorem SlL.nil : SlL [] [] := ⟨rfl, fun j h => absurd h (by simp)⟩
/-- two rows of the call's own, of texts and of parts -/
structure Two2 (W1 : World) (tx : List ByteArray) (px : List (List UInt8)) (t p : Value) (w : World) : Prop where
  t : OwnV w W1.heap.size 9 t (tx.map Value.string)
  p : ∃ vs, OwnV w W1.heap.size 27 p vs ∧ SlL vs px
  b : Below W1.heap.size W1 w
section
variable {W1 w w' : World} {tx : List ByteArray} {px : List (List UInt8)} {t p t' p' : Value}
theorem Two2.up (h : Two2 W1 tx px t p w) (hb : Below w.heap.size w w') : Two2 W1 tx px t p w' := by
  obtain ⟨vs, h1, h2⟩ := h.p
  exact ⟨h.t.up hb, ⟨vs, h1.up hb, h2⟩, below_chain h.b h.b.size hb⟩
theorem Two2.txs (h : Two2 W1 tx px t p w) {new : List ByteArray} (ho : OwnV w' W1.heap.size 9 t' (tx.map Value.string ++ new.map Value.string)) (hg : w.grownBy w' t.ownBlock) : Two2 W1 (tx ++ new) px t' p w' := by
  obtain ⟨vs, h1, h2⟩ := h.p
  exact ⟨by rw [List.map_append]; exact ho, ⟨vs, h1.grown hg (h1.ne h.t (by decide)), h2⟩, h.b.grown hg h.b.size fun k hk => (h.t.lt k hk).1⟩
theorem Two2.pxs (h : Two2 W1 tx px t p w) {vs new : List Value} {nl : List (List UInt8)} (h1 : OwnV w W1.heap.size 27 p vs) (h2 : SlL vs px) (hn : SlL new nl) (ho : OwnV w' W1.heap.size 27 p' (vs ++ new)) (hg : w.grownBy w' p.ownBlock) : Two2 W1 tx (px ++ nl) t p' w' :=
  ⟨h.t.grown hg (h.t.ne h1 (by decide)), ⟨_, ho, h2.append hn⟩, h.b.grown hg h.b.size fun k hk => (h1.lt k hk).1⟩
end
theorem strs_vals {W Z : World} {B : Nat} {s : Value} {l : List ByteArray} (h : StrsAt W B s l) (hz : Below B W Z) : ValsIn Z s (l.map Value.string) := by
  obtain ⟨A, c, rfl, h1, h2, h3, hp⟩ := h
  refine ⟨A, c, by rw [List.length_map], fun u hu => by obtain ⟨x, _, rfl⟩ := List.mem_map.1 hu; rfl, fun h0 => ?_⟩
  obtain ⟨b, o, rfl, hb, hat⟩ := hp (by simpa using h0)
  refine ⟨b, o, rfl, fun j u hu => ?_⟩
  rw [List.getElem?_map] at hu
  obtain ⟨x, hx, rfl⟩ := Option.map_eq_some_iff.1 hu
  obtain ⟨hj, rfl⟩ := List.getElem?_eq_some_iff.1 hx
  exact (hz.cell (p := ⟨b, _, none⟩) hb).trans (hat j hj)
theorem flatG_len {β : Type} (n : Nat) (l : List (List β)) (h : ∀ x ∈ l, x.length ≤ n) : l.flatten.length ≤ l.length * n := by
  induction l with
  | nil => simp
  | cons x l ih =>
    have h1 := h x List.mem_cons_self
    have h2 := ih fun y hy => h y (List.mem_cons_of_mem _ hy)
    simp only [List.flatten_cons, List.length_append, List.length_cons, Nat.add_mul, Nat.one_mul]
    omega
theorem flatG_take {β : Type} (l : List (List β)) (k : Nat) (h : k < l.length) : (l.take (k + 1)).flatten = (l.take k).flatten ++ l[k] := by
  rw [List.take_succ_eq_append_getElem h, List.flatten_append]
  simp
end Go.Proofs.YtniclaapiabmdaaGreatDoor
namespace Go.Proofs.YtniclaapiabmdaaGreatDoor
set_option maxRecDepth 100000
open Go Go.RowKit
set_option linter.unusedVariables false

def FB (m : MsgV) : Prop := (∀ s ∈ m.allTexts, s.size ≤ 65535) ∧ ∀ l ∈ m.parts, l.length ≤ 65535
theorem fieldsB_iff (m : MsgV) : fieldsB m = true ↔ FB m := by
  simp only [fieldsB, FB, Bool.and_eq_true, decide_eq_true_eq, List.all_eq_true]
theorem fieldsB_no {m : MsgV} (h : ¬ FB m) : fieldsB m = false := by
  cases e : fieldsB m
  · rfl
  · exact absurd ((fieldsB_iff m).1 e) h
theorem vals_cells {W Z : World} {B : Nat} {A : Option Addr} {n c : Nat} {l : List VD} (h : ValsAt W B (.slice A n c) l) (hz : Below B W Z) (j : Nat) (hj : j < l.length) :
    ∃ b o, A = some ⟨b, o, none⟩ ∧ Z.cell? ⟨b, o + j * 2, none⟩ = some (.string l[j].name) ∧ Z.cell? ⟨b, o + j * 2 + 1, none⟩ = some (.int .u64 (l[j].power : Int)) := by
  obtain ⟨A', c', e, _, _, _, hp⟩ := h
  injection e with e1 e2 e3
  subst e1
  obtain ⟨b, o, hA, hb, hat⟩ := hp (by omega)
  obtain ⟨q0, q1⟩ := hat j hj
  exact ⟨b, o, hA, (hz.cell (p := ⟨b, _, none⟩) hb).trans q0, (hz.cell (p := ⟨b, _, none⟩) hb).trans q1⟩
theorem path_vals {W Z : World} {B b o : Nat} {l : Lf} {A : Option Addr} {n c : Nat} (h : LeafAt W B b o l) (hq : W.cell? ⟨b, o + 3, none⟩ = some (.slice A n c)) (hz : Below B W Z) :
    ∃ vals, ValsIn Z (.slice A n c) vals ∧ SlL vals l.path ∧ vals.length = l.path.length := by
  obtain ⟨sv, pv, q0, q1, q2, q3, sv', pv', heq, hrv, hpv, hks, -⟩ := h
  injection heq with heq
  simp only [Array.mk.injEq, List.cons.injEq, and_true, true_and] at heq
  obtain ⟨rfl, rfl⟩ := heq
  rw [q3] at hq
  injection hq with hq
  subst hq
  obtain ⟨A2, k2, e, hk2, hm2, hq2⟩ := hpv
  injection e with e1 e2 e3
  subst e1; subst e2; subst e3
  by_cases h0 : l.path.length = 0
  · exact ⟨[], ⟨_, _, by rw [h0]; rfl, fun u hu => by simp at hu, fun hh => by simp at hh⟩, ⟨by simp [h0], fun j hj => by omega⟩, by simp [h0]⟩
  · obtain ⟨b', o', rfl, hb', hat⟩ := hq2 (by omega)
    have hv : ∀ j (hj : j < l.path.length), ∃ A c, Z.cell? ⟨b', o' + j, none⟩ = some (.slice A l.path[j].length c) := fun j hj => by
      obtain ⟨x, e1, e2⟩ := hat j hj
      obtain ⟨A, c, rfl⟩ := e2.form
      exact ⟨A, c, (hz.cell (p := ⟨b', o' + j, none⟩) hb').trans e1⟩
    refine ⟨(List.range l.path.length).map (fun j => (Z.cell? ⟨b', o' + j, none⟩).getD undef), ⟨_, _, by rw [List.length_map, List.length_range], fun u hu => ?_, fun _ => ⟨_, _, rfl, fun j u hu => ?_⟩⟩, ⟨by simp, fun j hj => ?_⟩, by simp⟩
    · obtain ⟨j, hj, rfl⟩ := List.mem_map.1 hu
      obtain ⟨A, c, e⟩ := hv j (List.mem_range.1 hj)
      rw [e]; rfl
    · rw [List.getElem?_map] at hu
      obtain ⟨i, hi, rfl⟩ := Option.map_eq_some_iff.1 hu
      obtain ⟨hi1, rfl⟩ := List.getElem?_eq_some_iff.1 hi
      simp only [List.getElem_range]
      simp only [List.length_range] at hi1
      obtain ⟨A, c, e⟩ := hv j hi1
      rw [e]; rfl
    · obtain ⟨A, c, e⟩ := hv j hj
      exact ⟨A, c, by rw [List.getElem?_map, List.getElem?_eq_getElem (by simpa using hj)]; simp [e]⟩
set_option maxRecDepth 100000 in
set_option maxHeartbeats 40000000 in
theorem fieldsfit_any (w : World) (m : MsgV) (hr : m.rd w) (hlb : LB m) :
    Calls Tryz.prog 168 #[.agg m.cells.toArray] w fun e w' => e = .returned (.bool (fieldsB m)) ∧ Below w.heap.size w w' := by
  obtain ⟨i0, hi, hz, hsz, hby⟩ := info_parts Tryz.infoStr
  obtain ⟨j0, ji, jz, jsz, jby⟩ := info_parts Tryz.infoRow
  obtain ⟨As1, cs1, hvs1⟩ : ∃ A c, m.vs1 = .slice A m.s1.length c := by obtain ⟨A, c, e, _⟩ := hr.r_s1; exact ⟨A, c, e⟩
  have hxs1 := hr.r_s1
  rw [hvs1] at hxs1
  obtain ⟨As2, cs2, hvs2⟩ : ∃ A c, m.vs2 = .slice A m.s2.length c := by obtain ⟨A, c, e, _⟩ := hr.r_s2; exact ⟨A, c, e⟩
  have hxs2 := hr.r_s2
  rw [hvs2] at hxs2
  obtain ⟨As3, cs3, hvs3⟩ : ∃ A c, m.vs3 = .slice A m.s3.length c := by obtain ⟨A, c, e, _⟩ := hr.r_s3; exact ⟨A, c, e⟩
  have hxs3 := hr.r_s3
  rw [hvs3] at hxs3
  obtain ⟨Aos, cos, hvos, hos⟩ := hr.r_os
  obtain ⟨Alf, clf, hvlf⟩ : ∃ A c, m.vpf = .slice A m.pf.ls.length c := by obtain ⟨A, c, e, h1, h2, _⟩ := hr.r_pf; exact ⟨A, c, e⟩
  have hlv := hr.r_pf
  rw [hvlf] at hlv
  have HR := Lib.hid hr
  have HLB := Lib.hid hlb
  have HLV := Lib.hid (fun (Z : World) (hz : Below w.heap.size w Z) => leaf_cells hlv hz)
  have HOS := Lib.hid hos
  obtain ⟨B20, d20, e20⟩ := (hr.r_h.1).form
  obtain ⟨B21, d21, e21⟩ := (hr.r_h.2).form
  obtain ⟨B22, d22, e22⟩ := (hr.r_h.3).form
  obtain ⟨B26, d26, e26⟩ := (hr.r_o.1).form
  obtain ⟨B27, d27, e27⟩ := (hr.r_o.2).form
  obtain ⟨B28, d28, e28⟩ := (hr.r_o.3).form
  obtain ⟨B41, d41, e41⟩ := (hr.r_pk.1).form
  obtain ⟨B44, d44, e44⟩ := (hr.r_ak).form
  have ha0 : Below w.heap.size w (w.alloc (.cells m.cells.toArray 175)) := (Below.refl _ _).alloc (Nat.le_refl _) _
  have hbox := heap_alloc_new w (.cells m.cells.toArray 175)
  have hsz1 : (w.alloc (.cells m.cells.toArray 175)).heap.size = w.heap.size + 1 := by simp
  have hI : ∀ (i : Nat) (u : Value), m.cells[i]? = some u → m.cells.toArray[i]? = some u := fun i u hu => by rw [List.getElem?_toArray]; exact hu
  generalize m.cells.toArray = cs at *
  generalize hW1 : w.alloc (.cells cs 175) = W1 at *
  have HC : Hid (∀ Z, Below W1.heap.size W1 Z → ∀ (i : Nat) (u : Value), m.cells[i]? = some u → Z.cell? ⟨w.heap.size, i, none⟩ = some u) := Lib.hid fun Z hz i u hu => (hz.cell (p := ⟨_, i, none⟩) (by rw [hsz1]; exact Nat.lt_succ_self _)).trans ((blk_cell hbox i).trans (hI i u hu))
  have HOLD : Hid (∀ Z, Below W1.heap.size W1 Z → Below w.heap.size w Z) := Lib.hid fun Z hz => ha0.trans (hz.mono (by rw [hsz1]; exact Nat.le_succ _))
  obtain ⟨rs, hrs⟩ : ∃ rs, rs = fieldsB m := ⟨_, rfl⟩
  rw [← hrs]
  have HY : Hid (FB m → rs = true) := Lib.hid fun h => by rw [hrs]; exact (fieldsB_iff m).2 h
  have HN : Hid (¬ FB m → rs = false) := Lib.hid fun h => by rw [hrs]; exact fieldsB_no h
  have HRF := HC.out _ (Below.refl _ _)
  generalize hg1 : w.heap.size = g0 at *
  have HGG := Lib.hid hg1
  have c1 := HRF 1 (.string m.to) rfl
  have c2 := HRF 2 (.string m.dn) rfl
  have c7 := HRF 7 (.string m.cl) rfl
  have c8 := HRF 8 (.string m.cc) rfl
  have c9 := HRF 9 (.string m.cn) rfl
  have c10 := HRF 10 (.string m.cd) rfl
  have c11 := HRF 11 (.string m.ch) rfl
  have c12 := HRF 12 (.string m.ce) rfl
  have c13 := HRF 13 (.string m.po) rfl
  have c14 := HRF 14 (.string m.pe) rfl
  have c15 := HRF 15 (.string m.ve) rfl
  have c17 := HRF 17 (.string m.h.ch) rfl
  have c23 := HRF 23 (.string m.o.ch) rfl
  have c38 := HRF 38 (.string m.pk.src) rfl
  have c39 := HRF 39 (.string m.pk.dst) rfl
  have c48 := HRF 48 (.string m.pay.d) rfl
  clear hrs hI hbox ha0 hr hlv hsz1 hos HRF hlb
  go_enter Tryz.func168, Tryz.ntmps168
  go_upto_region 1 with fail
  try rw [hW1]
  try rw [hg1]
  clear hW1
  have hb2 := (Below.refl W1.heap.size W1).alloc (Nat.le_refl _) (.cells #[.string m.to, .string m.dn, .string m.cl, .string m.cc, .string m.cn, .string m.cd, .string m.ch, .string m.ce, .string m.po, .string m.pe, .string m.ve, .string m.h.ch, .string m.o.ch, .string m.pk.src, .string m.pk.dst, .string m.pay.d] 9)
  have ht2 : OwnV (W1.alloc (.cells #[.string m.to, .string m.dn, .string m.cl, .string m.cc, .string m.cn, .string m.cd, .string m.ch, .string m.ce, .string m.po, .string m.pe, .string m.ve, .string m.h.ch, .string m.o.ch, .string m.pk.src, .string m.pk.dst, .string m.pay.d] 9)) W1.heap.size 9 (.slice (some ⟨W1.heap.size, 0, none⟩) 16 16) (m.texts.map Value.string) := OwnV.new W1 (m.texts.map Value.string) 9 (by simp [MsgV.texts, maxLen])
  go_upto_region 2 with fail
  generalize hW2 : W1.alloc (.cells #[.string m.to, .string m.dn, .string m.cl, .string m.cc, .string m.cn, .string m.cd, .string m.ch, .string m.ce, .string m.po, .string m.pe, .string m.ve, .string m.h.ch, .string m.o.ch, .string m.pk.src, .string m.pk.dst, .string m.pay.d] 9) = W2 at *
  clear c1 c2 c7 c8 c9 c10 c11 c12 c13 c14 c15 c17 c23 c38 c39 c48
  have HT2 := Lib.hid (And.intro hb2 ht2)
  have HRF := HC.out _ hb2
  have c20 := HRF 20 (.slice B20 m.h.rt.length d20) (by rw [← e20]; rfl)
  have c21 := HRF 21 (.slice B21 m.h.va.length d21) (by rw [← e21]; rfl)
  have c22 := HRF 22 (.slice B22 m.h.nx.length d22) (by rw [← e22]; rfl)
  have c26 := HRF 26 (.slice B26 m.o.rt.length d26) (by rw [← e26]; rfl)
  have c27 := HRF 27 (.slice B27 m.o.va.length d27) (by rw [← e27]; rfl)
  have c28 := HRF 28 (.slice B28 m.o.nx.length d28) (by rw [← e28]; rfl)
  have c41 := HRF 41 (.slice B41 m.pk.da.length d41) (by rw [← e41]; rfl)
  have c44 := HRF 44 (.slice B44 m.ak.length d44) (by rw [← e44]; rfl)
  have hb3 := (Below.refl W2.heap.size W2).alloc (Nat.le_refl _) (.cells #[.slice B20 m.h.rt.length d20, .slice B21 m.h.va.length d21, .slice B22 m.h.nx.length d22, .slice B26 m.o.rt.length d26, .slice B27 m.o.va.length d27, .slice B28 m.o.nx.length d28, .slice B41 m.pk.da.length d41, .slice B44 m.ak.length d44] 27)
  have ht3 : OwnV (W2.alloc (.cells #[.slice B20 m.h.rt.length d20, .slice B21 m.h.va.length d21, .slice B22 m.h.nx.length d22, .slice B26 m.o.rt.length d26, .slice B27 m.o.va.length d27, .slice B28 m.o.nx.length d28, .slice B41 m.pk.da.length d41, .slice B44 m.ak.length d44] 27)) W2.heap.size 27 (.slice (some ⟨W2.heap.size, 0, none⟩) 8 8) [Value.slice B20 m.h.rt.length d20, Value.slice B21 m.h.va.length d21, Value.slice B22 m.h.nx.length d22, Value.slice B26 m.o.rt.length d26, Value.slice B27 m.o.va.length d27, Value.slice B28 m.o.nx.length d28, Value.slice B41 m.pk.da.length d41, Value.slice B44 m.ak.length d44] := OwnV.new W2 [Value.slice B20 m.h.rt.length d20, Value.slice B21 m.h.va.length d21, Value.slice B22 m.h.nx.length d22, Value.slice B26 m.o.rt.length d26, Value.slice B27 m.o.va.length d27, Value.slice B28 m.o.nx.length d28, Value.slice B41 m.pk.da.length d41, Value.slice B44 m.ak.length d44] 27 (by simp [maxLen])
  clear HRF hW2 hb2 ht2 e20 e21 e22 e26 e27 e28 e41 e44
  go_upto_region 3 with fail
  have hsl : SlL [Value.slice B20 m.h.rt.length d20, Value.slice B21 m.h.va.length d21, Value.slice B22 m.h.nx.length d22, Value.slice B26 m.o.rt.length d26, Value.slice B27 m.o.va.length d27, Value.slice B28 m.o.nx.length d28, Value.slice B41 m.pk.da.length d41, Value.slice B44 m.ak.length d44] [m.h.rt, m.h.va, m.h.nx, m.o.rt, m.o.va, m.o.nx, m.pk.da, m.ak] := SlL.cons rfl (SlL.cons rfl (SlL.cons rfl (SlL.cons rfl (SlL.cons rfl (SlL.cons rfl (SlL.cons rfl (SlL.cons rfl (SlL.nil))))))))
  obtain ⟨PX, hPX⟩ : ∃ PX, PX = [m.h.rt, m.h.va, m.h.nx, m.o.rt, m.o.va, m.o.nx, m.pk.da, m.ak] := ⟨_, rfl⟩
  rw [← hPX] at hsl
  have hpx8 : PX.length = 8 := by rw [hPX]; rfl
  have T3 : Two2 W1 m.texts PX (.slice (some ⟨W1.heap.size, 0, none⟩) 16 16) (.slice (some ⟨W2.heap.size, 0, none⟩) 8 8) (W2.alloc (.cells #[.slice B20 m.h.rt.length d20, .slice B21 m.h.va.length d21, .slice B22 m.h.nx.length d22, .slice B26 m.o.rt.length d26, .slice B27 m.o.va.length d27, .slice B28 m.o.nx.length d28, .slice B41 m.pk.da.length d41, .slice B44 m.ak.length d44] 27)) := ⟨HT2.out.2.up hb3, ⟨_, ht3.more HT2.out.1.size, hsl⟩, below_chain HT2.out.1 HT2.out.1.size hb3⟩
  generalize hW3 : W2.alloc (.cells #[.slice B20 m.h.rt.length d20, .slice B21 m.h.va.length d21, .slice B22 m.h.nx.length d22, .slice B26 m.o.rt.length d26, .slice B27 m.o.va.length d27, .slice B28 m.o.nx.length d28, .slice B41 m.pk.da.length d41, .slice B44 m.ak.length d44] 27) = W3 at *
  have HPX := Lib.hid hPX
  clear hsl hPX ht3 hb3 HT2 hW3 c20 c21 c22 c26 c27 c28 c41 c44
  generalize Value.slice (some ⟨W2.heap.size, 0, none⟩) 8 8 = pv at *
  generalize Value.slice (some ⟨W1.heap.size, 0, none⟩) 16 16 = tv at *
  have HRF := HC.out _ T3.b
  have c29 := HRF 29 (.slice As1 m.s1.length cs1) (by rw [← hvs1]; rfl)
  have c30 := HRF 30 (.slice As2 m.s2.length cs2) (by rw [← hvs2]; rfl)
  have c31 := HRF 31 (.slice As3 m.s3.length cs3) (by rw [← hvs3]; rfl)
  have hb4 := (Below.refl W3.heap.size W3).alloc (Nat.le_refl _) (.cells #[.slice As1 m.s1.length cs1, .slice As2 m.s2.length cs2, .slice As3 m.s3.length cs3] 164)
  have hrow := heap_alloc_new W3 (.cells #[.slice As1 m.s1.length cs1, .slice As2 m.s2.length cs2, .slice As3 m.s3.length cs3] 164)
  have T4 := T3.up hb4
  obtain ⟨sets, hsets⟩ : ∃ sets, sets = [m.s1, m.s2, m.s3] := ⟨_, rfl⟩
  have hl3 : sets.length = 3 := by rw [hsets]; rfl
  have HSET : Hid (∀ k (h : k < sets.length), ∃ A c, (∀ Z : World, Z.heap[W3.heap.size]? = some (.cells #[.slice As1 m.s1.length cs1, .slice As2 m.s2.length cs2, .slice As3 m.s3.length cs3] 164) → Z.cell? ⟨W3.heap.size, k, none⟩ = some (.slice A sets[k].length c)) ∧ sets[k].length ≤ 8 ∧ ∀ Z, Below g0 w Z → ∀ j (hj : j < sets[k].length), ∃ b o, A = some ⟨b, o, none⟩ ∧ Z.cell? ⟨b, o + j * 2, none⟩ = some (.string sets[k][j].name) ∧ Z.cell? ⟨b, o + j * 2 + 1, none⟩ = some (.int .u64 (sets[k][j].power : Int))) := Lib.hid fun k hk => by
    subst hsets
    rcases (by omega : k = 0 ∨ k = 1 ∨ k = 2) with rfl | rfl | rfl
    · exact ⟨As1, cs1, fun Z hz => blk_cell hz 0, HLB.out.1, fun Z hz j hj => vals_cells hxs1 hz j hj⟩
    · exact ⟨As2, cs2, fun Z hz => blk_cell hz 1, HLB.out.2.1, fun Z hz j hj => vals_cells hxs2 hz j hj⟩
    · exact ⟨As3, cs3, fun Z hz => blk_cell hz 2, HLB.out.2.2.1, fun Z hz j hj => vals_cells hxs3 hz j hj⟩
  have HL3 := Lib.hid hl3
  have HSE := Lib.hid hsets
  have HFL : Hid (∀ k, (sets.take k).flatten.length ≤ 24) := Lib.hid fun k => by
    have h1 := flatG_len 8 (sets.take k) fun x hx => by
      obtain ⟨i, hi, rfl⟩ := List.getElem_of_mem (List.mem_of_mem_take hx)
      obtain ⟨A, c, _, h8, _⟩ := HSET.out i hi
      exact h8
    have h2 : (sets.take k).length ≤ 3 := by rw [List.length_take]; omega
    omega
  go_upto_block 0 with fail
  generalize hW4 : W3.alloc (.cells #[.slice As1 m.s1.length cs1, .slice As2 m.s2.length cs2, .slice As3 m.s3.length cs3] 164) = W4 at *
  generalize hgD : W3.heap.size = gD at *
  have HT4 := Lib.hid (And.intro T4 hrow)
  clear hsets hl3 HRF hb4 hrow T3 T4 hW4 hgD c29 c30 c31 hxs1 hxs2 hxs3 hvs1 hvs2 hvs3
  have h16 : m.texts.length = 16 := rfl
  go_cut [3] (fun s3 wx => Hid (Two2 W1 (m.texts ++ ((m.s1 ++ m.s2 ++ m.s3).map VD.name)) PX s3 pv wx))
  case first =>
    go_wp2_with fail
    go_loopw [3, 87] (fun s3 i wr => ∃ k : Nat, k ≤ 3 ∧ i = .int .i64 (k : Int) ∧ Hid (Two2 W1 (m.texts ++ ((sets.take k).flatten.map VD.name)) PX s3 pv wr ∧ wr.heap[gD]? = some (.cells #[.slice As1 m.s1.length cs1, .slice As2 m.s2.length cs2, .slice As3 m.s3.length cs3] 164)))
      (fun _ i _ => 3 - (intOf i).toNat)
    case atStart => exact ⟨0, by omega, rfl, Lib.hid ⟨by simpa using HT4.out.1, HT4.out.2⟩⟩
    case round =>
      clear HT4
      obtain ⟨k, hk, rfl, HX⟩ := hrel
      by_cases hlt : k < 3
      · have hkl : k < sets.length := by have := HL3.out; omega
        obtain ⟨A, c, hrw, h8, hval⟩ := HSET.out k hkl
        have q9 := hrw _ HX.out.2
        have hfk := HFL.out k
        have hnx := flatG_take sets k hkl
        have i1 : (0 : Int) ≤ (k : Int) := by omega
        have i2 : (k : Int) < 3 := by omega
        generalize sets[k] = x at *
        obtain ⟨TK, hTK⟩ : ∃ TK, TK = m.texts ++ ((sets.take k).flatten.map VD.name) := ⟨_, rfl⟩
        have htk : TK.length ≤ 40 := by rw [hTK, List.length_append, List.length_map]; omega
        rw [← hTK] at HX
        have HTK : Hid (m.texts ++ ((sets.take (k + 1)).flatten.map VD.name) = TK ++ x.map VD.name) := Lib.hid (by rw [hnx, hTK, List.map_append, List.append_assoc])
        have HV := Lib.hid hval
        obtain ⟨n, hnn⟩ : ∃ n, n = x.length := ⟨_, rfl⟩
        rw [← hnn] at q9 h8
        have HNN := Lib.hid hnn
        clear hTK hfk hnx hrw hval hnn
        go_wp2_with fail
        clear q9
        go_loopw [3, 93] (fun s3 i wr => ∃ j : Nat, j ≤ n ∧ i = .int .i64 (j : Int) ∧ Hid (Two2 W1 (TK ++ (x.take j).map VD.name) PX s3 pv wr ∧ wr.heap[gD]? = some (.cells #[.slice As1 m.s1.length cs1, .slice As2 m.s2.length cs2, .slice As3 m.s3.length cs3] 164)))
          (fun _ i _ => n - (intOf i).toNat)
        case atStart => exact ⟨0, by omega, rfl, Lib.hid ⟨by simpa using HX.out.1, HX.out.2⟩⟩
        case round =>
          rename_i s3a wra s3
          clear HX
          obtain ⟨j, hj, rfl, HX⟩ := hrel
          by_cases hjt : j < n
          · have hjl : j < x.length := by have := HNN.out; omega
            obtain ⟨b, o, rfl, q0, q1⟩ := HV.out _ (by have h := HOLD.out _ HX.out.1.b; exact h) j hjl
            have hmj : TK ++ (x.take (j + 1)).map VD.name = (TK ++ (x.take j).map VD.name) ++ [x[j].name] := by rw [List.take_succ_eq_append_getElem hjl, List.map_append, List.append_assoc]; rfl
            have hlj : (TK ++ (x.take j).map VD.name).length ≤ 60 := by rw [List.length_append, List.length_map, List.length_take]; omega
            have i3 : (0 : Int) ≤ (j : Int) := by omega
            have i4 : (j : Int) < (n : Int) := by omega
            generalize x[j] = y at *
            obtain ⟨TJ, hTJ⟩ : ∃ TJ, TJ = TK ++ (x.take j).map VD.name := ⟨_, rfl⟩
            rw [← hTJ] at hmj hlj HX
            have HMJ := Lib.hid hmj
            have HLJ := Lib.hid hlj
            have hs1 : (wr.alloc (.cells #[.string y.name, .int .u64 (y.power : Int)] 235)).heap.size = wr.heap.size + 1 := by simp
            have T5 := (HX.out.1.up ((Below.refl _ _).alloc (Nat.le_refl _) (.cells #[.string y.name, .int .u64 (y.power : Int)] 235))).up ((Below.refl _ _).alloc (Nat.le_refl _) (.cells #[.string y.name] 9))
            have hD : ((wr.alloc (.cells #[.string y.name, .int .u64 (y.power : Int)] 235)).alloc (.cells #[.string y.name] 9)).heap[gD]? = some (.cells #[.slice As1 m.s1.length cs1, .slice As2 m.s2.length cs2, .slice As3 m.s3.length cs3] 164) := ((((Below.refl _ _).alloc (Nat.le_refl _) (.cells #[.string y.name] 9)).block _ (by have := blk_lt HX.out.2; simp; omega)).trans (((Below.refl _ _).alloc (Nat.le_refl _) (.cells #[.string y.name, .int .u64 (y.power : Int)] 235)).block _ (blk_lt HX.out.2))).trans HX.out.2
            have hV := ValsIn.row (wr.alloc (.cells #[.string y.name, .int .u64 (y.power : Int)] 235)) [.string y.name] 9 (fun u hu => by simp at hu; subst hu; rfl)
            rw [hs1] at hV
            have HVV := Lib.hid hV
            have HD := Lib.hid hD
            clear hTJ hmj hlj HX hs1 hV hD
            go_wp2_with (at_builtin; refine wpList_append_vals rfl (.tmp 97) (.tmp 100) 165 rfl i0 (.string ⟨#[]⟩) 16 Tryz.underlying165 hi hz rfl hsz hby rfl T5.t rfl HVV.out (by have := HLJ.out; simp; omega) (by have := HLJ.out; simp; omega) T5.b.size ?_; intro v4 w4 ho4 hg4)
            have HNX := Lib.hid (And.intro (T5.txs (new := [y.name]) ho4 hg4) (T5.t.keeps hg4 HD.out (by decide)))
            rw [← HMJ.out] at HNX
            clear T5 ho4 hg4
            try go_wp2_with fail
            exact ⟨⟨j + 1, by omega, by go_num, HNX⟩, by simp [intOf]; omega⟩
          · have hj2 : ¬ (j : Int) < (n : Int) := by omega
            obtain rfl : j = n := by omega
            have HNX : Hid (Two2 W1 (m.texts ++ ((sets.take (k + 1)).flatten.map VD.name)) PX _ pv wr ∧ wr.heap[gD]? = some (.cells #[.slice As1 m.s1.length cs1, .slice As2 m.s2.length cs2, .slice As3 m.s3.length cs3] 164)) := Lib.hid (by rw [HTK.out]; have h := HX.out; rw [HNN.out, List.take_length] at h; exact h)
            clear HX
            go_wp2_with fail
            exact ⟨⟨k + 1, by omega, by go_num, HNX⟩, by simp [intOf]; omega⟩
      · have hk2 : ¬ (k : Int) < 3 := by omega
        obtain rfl : k = 3 := by omega
        have HNX : Hid (Two2 W1 (m.texts ++ ((m.s1 ++ m.s2 ++ m.s3).map VD.name)) PX _ pv wr) := Lib.hid (by have h := HX.out.1; rw [HSE.out] at h; simpa using h)
        clear HX
        go_wp2_with fail
        go_meet
        case rel => exact HNX
  case rest =>
    have T1 := hcut.out
    have hTl : (m.texts ++ ((m.s1 ++ m.s2 ++ m.s3).map VD.name)).length ≤ 40 := by rw [List.length_append, List.length_map, List.length_append, List.length_append]; have := HLB.out.1; have := HLB.out.2.1; have := HLB.out.2.2.1; omega
    obtain ⟨TA, hTA⟩ : ∃ TA, TA = m.texts ++ ((m.s1 ++ m.s2 ++ m.s3).map VD.name) := ⟨_, rfl⟩
    rw [← hTA] at T1 hTl
    have HTA := Lib.hid hTA
    clear hcut hTA HSET HFL HL3 HSE HT4
    have c32 := HC.out _ T1.b 32 m.vt1 rfl
    have HVV := Lib.hid (strs_vals HR.out.r_t1 (by have h := HOLD.out _ T1.b; rw [← HGG.out] at h; exact h))
    have hl1 := HLB.out.2.2.2.1
    have hl2 := HLB.out.2.2.2.2.1
    go_upto_region 13 with (at_builtin; refine wpList_append_vals rfl (.tmp 104) (.tmp 106) 165 rfl i0 (.string ⟨#[]⟩) 16 Tryz.underlying165 hi hz rfl hsz hby rfl T1.t rfl HVV.out (by simp; omega) (by simp; omega) T1.b.size ?_; intro v4 w4 ho4 hg4)
    have T2 := T1.txs ho4 hg4
    clear c32 HVV ho4 hg4 T1
    have c33 := HC.out _ T2.b 33 m.vt2 rfl
    have HVV := Lib.hid (strs_vals HR.out.r_t2 (by have h := HOLD.out _ T2.b; rw [← HGG.out] at h; exact h))
    go_upto_region 14 with (at_builtin; refine wpList_append_vals rfl (.tmp 108) (.tmp 110) 165 rfl i0 (.string ⟨#[]⟩) 16 Tryz.underlying165 hi hz rfl hsz hby rfl T2.t rfl HVV.out (by simp; omega) (by simp; omega) T2.b.size ?_; intro v5 w5 ho5 hg5)
    have T3 := T2.txs ho5 hg5
    clear c33 HVV ho5 hg5 T2
    have hTl2 : ((TA ++ m.t1) ++ m.t2).length ≤ 60 := by rw [List.length_append, List.length_append]; omega
    obtain ⟨TB, hTB⟩ : ∃ TB, TB = (TA ++ m.t1) ++ m.t2 := ⟨_, rfl⟩
    rw [← hTB] at T3 hTl2
    have HTB := Lib.hid hTB
    clear hTB hTl hl1 hl2
    obtain ⟨ls, hls⟩ : ∃ ls, ls = m.pf.ls := ⟨_, rfl⟩
    obtain ⟨n, hnn⟩ : ∃ n, n = m.pf.ls.length := ⟨_, rfl⟩
    have c46 := HC.out _ T3.b 46 (.slice Alf n clf) (by rw [hnn, ← hvlf]; rfl)
    have hn2 : n ≤ 2 := by rw [hnn]; exact HLB.out.2.2.2.2.2.2.1
    have HPA : Hid (∀ x ∈ ls, x.path.length ≤ 17) := Lib.hid (by rw [hls]; exact HLB.out.2.2.2.2.2.2.2)
    rw [← hls] at hnn HLV
    have HNN := Lib.hid hnn
    have HLS := Lib.hid hls
    have HT3 := Lib.hid T3
    have HPP : Hid (∀ k, ((ls.take k).map (fun l => l.val :: l.path)).flatten.length ≤ 36) := Lib.hid fun k => by
      have h1 := flatG_len 18 ((ls.take k).map (fun l => l.val :: l.path)) fun x hx => by
        obtain ⟨y, hy, rfl⟩ := List.mem_map.1 hx
        have := HPA.out y (List.mem_of_mem_take hy)
        simp; omega
      have h2 : ((ls.take k).map (fun l => l.val :: l.path)).length ≤ 2 := by rw [List.length_map, List.length_take]; omega
      omega
    clear hls hnn T3
    go_upto_block 4 with fail
    clear c46
    go_cut [3, 4] (fun s3 s4 wx => Hid (Two2 W1 (TB ++ ls.map Lf.key) (PX ++ (ls.map (fun l => l.val :: l.path)).flatten) s3 s4 wx))
    case first =>
      go_wp2_with fail
      go_loopw [3, 4, 116] (fun s3 s4 i wr => ∃ k : Nat, k ≤ n ∧ i = .int .i64 (k : Int) ∧ Hid (Two2 W1 (TB ++ (ls.take k).map Lf.key) (PX ++ ((ls.take k).map (fun l => l.val :: l.path)).flatten) s3 s4 wr))
        (fun _ _ i _ => n - (intOf i).toNat)
      case atStart => exact ⟨0, by omega, rfl, Lib.hid (by simpa using HT3.out)⟩
      case round =>
        clear HT3
        obtain ⟨k, hk, rfl, HX⟩ := hrel
        by_cases hlt : k < n
        · have hkl : k < ls.length := by have := HNN.out; omega
          obtain ⟨b, o, sv, pw, A1, c1, A2, c2, rfl, rfl, rfl, q0, q1, q2, q3, hlf⟩ := HLV.out wr (HOLD.out _ HX.out.b) k hkl
          have HPV := Lib.hid (fun (Z : World) (hz : Below g0 wr Z) => path_vals hlf q3 hz)
          have hpl := HPA.out _ (List.getElem_mem hkl)
          have htl : (TB ++ (ls.take k).map Lf.key).length ≤ 70 := by rw [List.length_append, List.length_map, List.length_take]; omega
          have hpp := HPP.out k
          have hpt : (PX ++ ((ls.take k).map (fun l => l.val :: l.path)).flatten).length ≤ 50 := by rw [List.length_append]; omega
          have hmk : TB ++ (ls.take (k + 1)).map Lf.key = (TB ++ (ls.take k).map Lf.key) ++ [ls[k].key] := by rw [List.take_succ_eq_append_getElem hkl, List.map_append, List.append_assoc]; rfl
          have hmp : PX ++ ((ls.take (k + 1)).map (fun l => l.val :: l.path)).flatten = ((PX ++ ((ls.take k).map (fun l => l.val :: l.path)).flatten) ++ [ls[k].val]) ++ ls[k].path := by rw [List.take_succ_eq_append_getElem hkl, List.map_append, List.flatten_append, List.append_assoc, List.append_assoc]; simp
          have i1 : (0 : Int) ≤ (k : Int) := by omega
          have i2 : (k : Int) < (n : Int) := by omega
          generalize ls[k] = x at *
          obtain ⟨TJ, hTJ⟩ : ∃ TJ, TJ = TB ++ (ls.take k).map Lf.key := ⟨_, rfl⟩
          obtain ⟨PJ, hPJ⟩ : ∃ PJ, PJ = PX ++ ((ls.take k).map (fun l => l.val :: l.path)).flatten := ⟨_, rfl⟩
          rw [← hTJ] at hmk htl HX
          rw [← hPJ] at hmp hpt HX
          have HMK := Lib.hid (And.intro hmk hmp)
          have HLJ := Lib.hid (And.intro htl (And.intro hpt hpl))
          have hgr : g0 ≤ wr.heap.size := by have h := (HOLD.out _ HX.out.b).size; rw [HGG.out] at h; exact h
          have HGR := Lib.hid hgr
          have hs1 : (wr.alloc (.cells #[.int .i64 x.at_, .string x.key, .slice A1 x.val.length c1, .slice A2 x.path.length c2] 232)).heap.size = wr.heap.size + 1 := by simp
          have bl1 := (Below.refl wr.heap.size wr).alloc (Nat.le_refl _) (.cells #[.int .i64 x.at_, .string x.key, .slice A1 x.val.length c1, .slice A2 x.path.length c2] 232)
          have bl2 := (Below.refl (wr.alloc (.cells #[.int .i64 x.at_, .string x.key, .slice A1 x.val.length c1, .slice A2 x.path.length c2] 232)).heap.size (wr.alloc (.cells #[.int .i64 x.at_, .string x.key, .slice A1 x.val.length c1, .slice A2 x.path.length c2] 232))).alloc (Nat.le_refl _) (.cells #[.string x.key] 9)
          have hbx := heap_alloc_new wr (.cells #[.int .i64 x.at_, .string x.key, .slice A1 x.val.length c1, .slice A2 x.path.length c2] 232)
          have HBX2 := Lib.hid ((bl2.block _ (blk_lt hbx)).trans hbx)
          have z1 := blk_cell hbx 1
          have T5 := (HX.out.up bl1).up bl2
          have HGW := Lib.hid (And.intro hgr (below_chain bl1 bl1.size bl2))
          have hV := ValsIn.row (wr.alloc (.cells #[.int .i64 x.at_, .string x.key, .slice A1 x.val.length c1, .slice A2 x.path.length c2] 232)) [.string x.key] 9 (fun u hu => by simp at hu; subst hu; rfl)
          rw [hs1] at hV
          have HVV := Lib.hid hV
          clear hTJ hPJ hmk hmp htl hpt hpp hpl HX hs1 hV bl1 bl2 hbx hlf hgr
          go_upto_region 18 with (at_builtin; refine wpList_append_vals rfl (.tmp 120) (.tmp 123) 165 rfl i0 (.string ⟨#[]⟩) 16 Tryz.underlying165 hi hz rfl hsz hby rfl T5.t rfl HVV.out (by have := HLJ.out.1; simp; omega) (by have := HLJ.out.1; simp; omega) T5.b.size ?_; intro v4 w4 ho4 hg4)
          have T6 := T5.txs (new := [x.key]) ho4 hg4
          have hb6 := T5.t.keeps hg4 HBX2.out (by decide)
          have HG6 := Lib.hid (HGW.out.2.mono HGW.out.1 |>.grown hg4 (Nat.le_trans HGW.out.1 HGW.out.2.size) fun k hk => by have h := (T5.t.lt k hk).1; have h2 := (HOLD.out _ (Below.refl _ _)).size; rw [HGG.out] at h2; omega)
          clear z1 q0 q1 q2 q3 HVV ho4 hg4 T5 HBX2 HGW
          have z2 := blk_cell hb6 2
          have bl3 := (Below.refl w4.heap.size w4).alloc (Nat.le_refl _) (.cells #[.slice A1 x.val.length c1] 27)
          have HBX3 := Lib.hid ((bl3.block _ (blk_lt hb6)).trans hb6)
          have T7 := T6.up bl3
          have HG7 := Lib.hid (below_chain HG6.out (Nat.le_trans HGR.out HG6.out.size) bl3)
          have HVV := Lib.hid (ValsIn.row w4 [.slice A1 x.val.length c1] 27 (fun u hu => by simp at hu; subst hu; rfl))
          obtain ⟨vs, hvs, hsl⟩ := T7.p
          have HVL : Hid (vs.length ≤ 50) := Lib.hid (by rw [hsl.1]; exact HLJ.out.2.1)
          clear HG6 T6 bl3 hb6
          go_upto_region 19 with (at_builtin; refine wpList_append_vals rfl (.tmp 125) (.tmp 128) 107 rfl j0 (.slice none 0 0) 24 Tryz.underlying107 ji jz rfl jsz jby rfl hvs rfl HVV.out (by have := HVL.out; simp; omega) (by have := HVL.out; simp; omega) T7.b.size ?_; intro v5 w5 ho5 hg5)
          have T8 := T7.pxs hvs hsl (new := [.slice A1 x.val.length c1]) (nl := [x.val]) (SlL.cons rfl SlL.nil) ho5 hg5
          have hb8 := hvs.keeps hg5 HBX3.out (by decide)
          have HG8 := Lib.hid (HG7.out.grown hg5 (Nat.le_trans HGR.out HG7.out.size) fun k hk => by have h := (hvs.lt k hk).1; have h2 := (HOLD.out _ (Below.refl _ _)).size; rw [HGG.out] at h2; omega)
          have z3 := blk_cell hb8 3
          clear z2 HVV ho5 hg5 T7 HBX3 hvs hsl HVL HG7 hb8
          obtain ⟨pvs, hpv, hpsl, hpl⟩ := HPV.out _ HG8.out
          have HVV := Lib.hid hpv
          obtain ⟨vs, hvs, hsl⟩ := T8.p
          have HVL : Hid (vs.length ≤ 60 ∧ pvs.length ≤ 17) := Lib.hid ⟨by rw [hsl.1, List.length_append]; have := HLJ.out.2.1; simp; omega, by rw [hpl]; exact HLJ.out.2.2⟩
          clear hpv hpl HPV HG8
          go_wp2_with (at_builtin; refine wpList_append_vals rfl (.tmp 130) (.tmp 132) 107 rfl j0 (.slice none 0 0) 24 Tryz.underlying107 ji jz rfl jsz jby rfl hvs rfl HVV.out (by have := HVL.out; omega) (by have := HVL.out; omega) T8.b.size ?_; intro v6 w6 ho6 hg6)
          have HNX := Lib.hid (T8.pxs hvs hsl hpsl ho6 hg6)
          rw [← HMK.out.1, ← HMK.out.2] at HNX
          clear T8 ho6 hg6 hvs hsl hpsl HVV HVL
          try go_wp2_with fail
          exact ⟨⟨k + 1, by omega, by go_num, HNX⟩, by simp [intOf]; omega⟩
        · have hk2 : ¬ (k : Int) < (n : Int) := by omega
          obtain rfl : k = n := by omega
          have HNX : Hid (Two2 W1 (TB ++ ls.map Lf.key) (PX ++ (ls.map (fun l => l.val :: l.path)).flatten) _ _ wr) := Lib.hid (by have h := HX.out; rw [HNN.out, List.take_length] at h; exact h)
          clear HX
          go_wp2_with fail
          go_meet
          case rel => exact HNX
    case rest =>
      have T1 := hcut.out
      have hTl3 : (TB ++ ls.map Lf.key).length ≤ 70 := by rw [List.length_append, List.length_map]; have := HNN.out; omega
      obtain ⟨TC, hTC⟩ : ∃ TC, TC = TB ++ ls.map Lf.key := ⟨_, rfl⟩
      obtain ⟨PF, hPF⟩ : ∃ PF, PF = PX ++ (ls.map (fun l => l.val :: l.path)).flatten := ⟨_, rfl⟩
      rw [← hTC] at T1 hTl3
      rw [← hPF] at T1
      have HTC := Lib.hid (And.intro hTC hPF)
      clear hcut hTC hPF HLV HPA HPP HNN hn2 hTl2 HT3
      obtain ⟨q, hq⟩ : ∃ q, q = m.os.length := ⟨_, rfl⟩
      have c61 := HC.out _ T1.b 61 (.slice Aos q cos) (by rw [hq, ← hvos]; rfl)
      have hq8 : q ≤ 8 := by rw [hq]; exact HLB.out.2.2.2.2.2.1
      have HQQ := Lib.hid hq
      have HCELL : Hid (∀ Z, Below g0 w Z → ∀ j (hj : j < m.os.length), ∃ b o, Aos = some ⟨b, o, none⟩ ∧ ∀ (i : Nat) (u : Value), i < 6 → m.os[j].cells[i]? = some u → Z.cell? ⟨b, o + j * 6 + i, none⟩ = some u) := Lib.hid fun Z hz j hj => by
        obtain ⟨b, o, hA, hb, hat⟩ := HOS.out (by omega)
        exact ⟨b, o, hA, fun i u hi hu => (hz.cell (p := ⟨b, _, none⟩) hb).trans (hat j hj i u hi hu)⟩
      have HT1 := Lib.hid T1
      have HOL : Hid (∀ k, ((m.os.take k).map (fun q => [q.t, q.d])).flatten.length ≤ 16) := Lib.hid fun k => by
        have h1 := flatG_len 2 ((m.os.take k).map (fun q => [q.t, q.d])) fun x hx => by
          obtain ⟨y, hy, rfl⟩ := List.mem_map.1 hx
          simp
        have h2 : ((m.os.take k).map (fun q => [q.t, q.d])).length ≤ 8 := by rw [List.length_map, List.length_take]; omega
        omega
      clear hq T1 hvos HOS
      go_upto_block 6 with fail
      clear c61
      go_cut [3] (fun s3 wx => Hid (Two2 W1 (TC ++ (m.os.map (fun q => [q.t, q.d])).flatten) PF s3 u4 wx))
      case first =>
        go_wp2_with fail
        go_loopw [3, 138] (fun s3 i wr => ∃ k : Nat, k ≤ q ∧ i = .int .i64 (k : Int) ∧ Hid (Two2 W1 (TC ++ ((m.os.take k).map (fun q => [q.t, q.d])).flatten) PF s3 u4 wr))
          (fun _ i _ => q - (intOf i).toNat)
        case atStart => exact ⟨0, by omega, rfl, Lib.hid (by simpa using HT1.out)⟩
        case round =>
          clear HT1
          obtain ⟨k, hk, rfl, HX⟩ := hrel
          by_cases hlt : k < q
          · have hkl : k < m.os.length := by have := HQQ.out; omega
            obtain ⟨b, o, rfl, hqq⟩ := HCELL.out wr (HOLD.out _ HX.out.b) k hkl
            have htl : (TC ++ ((m.os.take k).map (fun q => [q.t, q.d])).flatten).length ≤ 90 := by rw [List.length_append]; have := HOL.out k; omega
            have hmk : TC ++ ((m.os.take (k + 1)).map (fun q => [q.t, q.d])).flatten = (TC ++ ((m.os.take k).map (fun q => [q.t, q.d])).flatten) ++ [m.os[k].t, m.os[k].d] := by rw [List.take_succ_eq_append_getElem hkl, List.map_append, List.flatten_append, List.append_assoc]; simp
            have i1 : (0 : Int) ≤ (k : Int) := by omega
            have i2 : (k : Int) < (q : Int) := by omega
            generalize m.os[k] = x at *
            have q0 := hqq 0 (.string x.t) (by omega) rfl
            have q1 := hqq 1 (.string x.d) (by omega) rfl
            have q2 := hqq 2 (.int .u64 (x.x.a : Int)) (by omega) rfl
            have q3 := hqq 3 (.int .u64 (x.x.b : Int)) (by omega) rfl
            have q4 := hqq 4 (.int .u64 (x.x.c : Int)) (by omega) rfl
            have q5 := hqq 5 (.int .u64 (x.x.d : Int)) (by omega) rfl
            simp only [Nat.add_zero] at q0
            obtain ⟨TJ, hTJ⟩ : ∃ TJ, TJ = TC ++ ((m.os.take k).map (fun q => [q.t, q.d])).flatten := ⟨_, rfl⟩
            rw [← hTJ] at hmk htl HX
            have HMK := Lib.hid hmk
            have HLJ := Lib.hid htl
            have hs1 : (wr.alloc (.cells #[.string x.t, .string x.d, .int .u64 (x.x.a : Int), .int .u64 (x.x.b : Int), .int .u64 (x.x.c : Int), .int .u64 (x.x.d : Int)] 215)).heap.size = wr.heap.size + 1 := by simp
            have T5 := (HX.out.up ((Below.refl _ _).alloc (Nat.le_refl _) (.cells #[.string x.t, .string x.d, .int .u64 (x.x.a : Int), .int .u64 (x.x.b : Int), .int .u64 (x.x.c : Int), .int .u64 (x.x.d : Int)] 215))).up ((Below.refl _ _).alloc (Nat.le_refl _) (.cells #[.string x.t, .string x.d] 9))
            have hV := ValsIn.row (wr.alloc (.cells #[.string x.t, .string x.d, .int .u64 (x.x.a : Int), .int .u64 (x.x.b : Int), .int .u64 (x.x.c : Int), .int .u64 (x.x.d : Int)] 215)) [.string x.t, .string x.d] 9 (fun u hu => by simp at hu; rcases hu with rfl | rfl <;> rfl)
            rw [hs1] at hV
            have HVV := Lib.hid hV
            clear hTJ hmk htl HX hs1 hV hqq
            go_wp2_with (at_builtin; refine wpList_append_vals rfl (.tmp 142) (.tmp 147) 165 rfl i0 (.string ⟨#[]⟩) 16 Tryz.underlying165 hi hz rfl hsz hby rfl T5.t rfl HVV.out (by have := HLJ.out; simp; omega) (by have := HLJ.out; simp; omega) T5.b.size ?_; intro v4 w4 ho4 hg4)
            have HNX := Lib.hid (T5.txs (new := [x.t, x.d]) ho4 hg4)
            rw [← HMK.out] at HNX
            clear T5 ho4 hg4 q0 q1 q2 q3 q4 q5
            try go_wp2_with fail
            exact ⟨⟨k + 1, by omega, by go_num, HNX⟩, by simp [intOf]; omega⟩
          · have hk2 : ¬ (k : Int) < (q : Int) := by omega
            obtain rfl : k = q := by omega
            have HNX : Hid (Two2 W1 (TC ++ (m.os.map (fun q => [q.t, q.d])).flatten) PF _ u4 wr) := Lib.hid (by have h := HX.out; rw [HQQ.out, List.take_length] at h; exact h)
            clear HX
            go_wp2_with fail
            go_meet
            case rel => exact HNX
      case rest =>
        obtain ⟨WCN, rfl⟩ : ∃ W, W = wc := ⟨_, rfl⟩
        have T1 := hcut.out
        have hTD : TC ++ (m.os.map (fun q => [q.t, q.d])).flatten = m.allTexts := by rw [HTC.out.1, HTB.out, HTA.out, HLS.out]; simp only [MsgV.allTexts, List.append_assoc]
        have hPD : PF = m.parts := by rw [HTC.out.2, HPX.out, HLS.out]; rfl
        rw [hTD, hPD] at T1
        obtain ⟨TD, htd⟩ : ∃ TD, TD = m.allTexts := ⟨_, rfl⟩
        obtain ⟨PD, hpd⟩ : ∃ PD, PD = m.parts := ⟨_, rfl⟩
        rw [← htd, ← hpd] at T1
        have HTN : Hid (∀ k (h : k < TD.length), ¬ TD[k].size ≤ 65535 → rs = false) := Lib.hid fun k h hx => HN.out fun hb => hx (hb.1 _ (by rw [← htd]; exact List.getElem_mem h))
        have HPN : Hid (∀ k (h : k < PD.length), ¬ PD[k].length ≤ 65535 → rs = false) := Lib.hid fun k h hx => HN.out fun hb => hx (hb.2 _ (by rw [← hpd]; exact List.getElem_mem h))
        have HYY : Hid ((∀ s ∈ TD, s.size ≤ 65535) → (∀ l ∈ PD, l.length ≤ 65535) → rs = true) := Lib.hid fun a b => HY.out ⟨by rw [← htd]; exact a, by rw [← hpd]; exact b⟩
        have hfin := HOLD.out _ T1.b
        have HFIN := Lib.hid hfin
        obtain ⟨At, ct, hta⟩ := T1.t.form
        obtain ⟨vs, hvs, hsl⟩ := T1.p
        obtain ⟨Ap, cp, hpa⟩ := hvs.form
        have HTC2 : Hid (∀ k (h : k < TD.length), ∃ b, At = some ⟨b, 0, none⟩ ∧ WCN.cell? ⟨b, 0 + k, none⟩ = some (.string TD[k])) := Lib.hid fun k h => T1.t.cell hta k _ (by rw [List.getElem?_map, List.getElem?_eq_getElem h]; rfl)
        have HPC2 : Hid (∀ k (h : k < PD.length), ∃ b A c, Ap = some ⟨b, 0, none⟩ ∧ WCN.cell? ⟨b, 0 + k, none⟩ = some (.slice A PD[k].length c)) := Lib.hid fun k h => by
          obtain ⟨A, c, e⟩ := hsl.2 k h
          obtain ⟨b, e1, e2⟩ := hvs.cell hpa k _ e
          exact ⟨b, A, c, e1, e2⟩
        obtain ⟨nt, hnt⟩ : ∃ nt, nt = TD.length := ⟨_, rfl⟩
        obtain ⟨np, hnp⟩ : ∃ np, np = PD.length := ⟨_, rfl⟩
        have HNT := Lib.hid hnt
        have HNP := Lib.hid hnp
        have hntl : nt ≤ 200 := by rw [hnt, htd, ← hTD, List.length_append]; have := HOL.out m.os.length; rw [List.take_length] at this; omega
        rw [List.length_map, ← hnt] at hta
        rw [hsl.1, ← hnp] at hpa
        have hnpl : np ≤ 9223372036854775807 := by rw [hnp, ← hsl.1]; exact Nat.le_trans hvs.len (by decide)
        subst hta; subst hpa
        clear hcut hTD hPD htd hpd T1 hvs hsl hnt hnp hfin HTC HTB HTA HPX HLS HQQ HCELL HOL HY HN HT1 HLB HR HC HOLD hTl3
        go_upto_block 8 with fail
        go_cut [] (fun wx => Hid (wx = WCN ∧ ∀ s ∈ TD, s.size ≤ 65535))
        case first =>
          go_wp2_with fail
          go_loopw [152] (fun i wr => ∃ k : Nat, k ≤ nt ∧ i = .int .i64 (k : Int) ∧ Hid (wr = WCN ∧ ∀ j (h : j < TD.length), j < k → TD[j].size ≤ 65535))
            (fun i _ => nt - (intOf i).toNat)
          case atStart => exact ⟨0, by omega, rfl, Lib.hid ⟨rfl, fun j _ h => absurd h (by omega)⟩⟩
          case round =>
            obtain ⟨k, hk, rfl, HX0⟩ := hrel
            obtain rfl := HX0.out.1
            have HX := Lib.hid HX0.out.2
            clear HX0
            by_cases hlt : k < nt
            · have hkl : k < TD.length := by have := HNT.out; omega
              obtain ⟨b, rfl, q0⟩ := HTC2.out k hkl
              rw [Nat.zero_add] at q0
              have i1 : (0 : Int) ≤ (k : Int) := by omega
              have i2 : (k : Int) < (nt : Int) := by omega
              have hno := HTN.out k hkl
              have HK : Hid (TD[k].size ≤ 65535 → ∀ j (h : j < TD.length), j < k + 1 → TD[j].size ≤ 65535) := Lib.hid fun h8 j h hj => by
                by_cases hjk : j = k
                · subst hjk; exact h8
                · exact HX.out j h (by omega)
              generalize TD[k] = x at *
              by_cases h8 : x.size ≤ 65535
              · have h9 : ¬ (65535 : Int) < (x.size : Int) := by omega
                have HKN := Lib.hid (HK.out h8)
                clear HK hno h8 HX
                go_wp2_with fail
                exact ⟨⟨k + 1, by omega, by go_num, Lib.hid ⟨by first | trivial | rfl, HKN.out⟩⟩, by simp [intOf]; omega⟩
              · have h9 : (65535 : Int) < (x.size : Int) := by omega
                have hres := Lib.hid (hno h8)
                clear HK hno h8 HX
                go_wp2_with fail
                go_ret
                refine ⟨?_, HFIN.out⟩
                rw [hres.out]
                rfl
            · have hk2 : ¬ (k : Int) < (nt : Int) := by omega
              obtain rfl : k = nt := by omega
              have HXL3 : Hid (∀ s ∈ TD, s.size ≤ 65535) := Lib.hid fun s hs => by
                obtain ⟨j, hj, rfl⟩ := List.getElem_of_mem hs
                exact HX.out j hj (by rw [HNT.out]; exact hj)
              clear HX
              go_wp2_with fail
              go_meet
              case rel => exact Lib.hid ⟨by first | trivial | rfl, HXL3.out⟩
        case rest =>
          have HTX2 := Lib.hid hcut.out.2
          have hwc := hcut.out.1.symm
          subst hwc
          clear hcut HTN HTC2
          go_wp2_with fail
          go_loopw [162] (fun i wr => ∃ k : Nat, k ≤ np ∧ i = .int .i64 (k : Int) ∧ Hid (wr = WCN ∧ ∀ j (h : j < PD.length), j < k → PD[j].length ≤ 65535))
            (fun i _ => np - (intOf i).toNat)
          case atStart => exact ⟨0, by omega, rfl, Lib.hid ⟨rfl, fun j _ h => absurd h (by omega)⟩⟩
          case round =>
            obtain ⟨k, hk, rfl, HX0⟩ := hrel
            obtain rfl := HX0.out.1
            have HX := Lib.hid HX0.out.2
            clear HX0
            by_cases hlt : k < np
            · have hkl : k < PD.length := by have := HNP.out; omega
              obtain ⟨b, A, c, rfl, q0⟩ := HPC2.out k hkl
              rw [Nat.zero_add] at q0
              have i1 : (0 : Int) ≤ (k : Int) := by omega
              have i2 : (k : Int) < (np : Int) := by omega
              have hno := HPN.out k hkl
              have HK : Hid (PD[k].length ≤ 65535 → ∀ j (h : j < PD.length), j < k + 1 → PD[j].length ≤ 65535) := Lib.hid fun h8 j h hj => by
                by_cases hjk : j = k
                · subst hjk; exact h8
                · exact HX.out j h (by omega)
              generalize PD[k] = x at *
              generalize x.length = xl at *
              by_cases h8 : xl ≤ 65535
              · have h9 : ¬ (65535 : Int) < (xl : Int) := by omega
                have HKN := Lib.hid (HK.out h8)
                clear HK hno h8 HX
                go_wp2_with fail
                exact ⟨⟨k + 1, by omega, by go_num, Lib.hid ⟨by first | trivial | rfl, HKN.out⟩⟩, by simp [intOf]; omega⟩
              · have h9 : (65535 : Int) < (xl : Int) := by omega
                have hres := Lib.hid (hno h8)
                clear HK hno h8 HX
                go_wp2_with fail
                go_ret
                refine ⟨?_, HFIN.out⟩
                rw [hres.out]
                rfl
            · have hk2 : ¬ (k : Int) < (np : Int) := by omega
              obtain rfl : k = np := by omega
              have hres := Lib.hid (HYY.out HTX2.out fun s hs => by
                obtain ⟨j, hj, rfl⟩ := List.getElem_of_mem hs
                exact HX.out j hj (by rw [HNP.out]; exact hj))
              clear HX
              go_wp2_with fail
              go_ret
              refine ⟨?_, HFIN.out⟩
              rw [hres.out]
              rfl
end Go.Proofs.YtniclaapiabmdaaGreatDoor
