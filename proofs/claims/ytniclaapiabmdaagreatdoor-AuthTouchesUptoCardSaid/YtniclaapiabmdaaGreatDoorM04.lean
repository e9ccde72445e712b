/- Texts joined: RowR0. -/
import Derived.Test.YtniclaapiabmdaaGreatDoorM01
import Derived.Deep.Onto
namespace Go.Proofs.YtniclaapiabmdaaGreatDoor
set_option maxRecDepth 100000
open Go Go.RowKit

theorem Tryz.infoRow : (Tryz.prog.info? 27).map (fun i => (i.zero, i.size, i.bytes)) = some (some (.slice none 0 0), 1, 24) := by kernel_rfl

/-- block b was there before B0, or its cells have the type t -/
def Of (w : World) (B0 : Nat) (t : TypeId) (b : Nat) : Prop := b < B0 ∨ ∃ cs fr, w.heap[b]? = some (.cells cs t fr)
/-- a row of type E, of the call's own from B0 on, may have grown -/
def Grow (w : World) (B0 : Nat) (E : TypeId) (w' : World) : Prop := ∃ row, w.grownBy w' row ∧ ∀ g, row = some g → B0 ≤ g ∧ ∃ cs fr, w.heap[g]? = some (.cells cs E fr)

section
variable {w w' : World} {B0 B B' b : Nat} {t E : TypeId} {x v : Value} {l : List UInt8} {ls : List (List UInt8)}
theorem Of.up (h : Of w B0 t b) (hb : Below w.heap.size w w') (hl : b < w.heap.size) : Of w' B0 t b := h.imp id fun ⟨cs, fr, e⟩ => ⟨cs, fr, (hb.block b hl).trans e⟩
theorem Of.same (h : Of w B0 t b) (hg : Grow w B0 E w') (hl : b < w.heap.size) (hE : t ≠ E) : w'.heap[b]? = w.heap[b]? := by
  obtain ⟨row, hg, hr⟩ := hg
  refine hg.block b hl fun e => ?_
  obtain ⟨h1, cs, fr, h2⟩ := hr b e.symm
  rcases h with h | ⟨cs', fr', h⟩
  · omega
  · rw [h] at h2
    injection h2 with h2
    injection h2 with _ h2 _
    exact hE h2
theorem Of.grow (h : Of w B0 t b) (hg : Grow w B0 E w') (hl : b < w.heap.size) (hE : t ≠ E) : Of w' B0 t b := by
  have e := h.same hg hl hE
  exact h.imp id fun ⟨cs, fr, e'⟩ => ⟨cs, fr, e.trans e'⟩
theorem Grow.size (hg : Grow w B0 E w') : w.heap.size ≤ w'.heap.size := by
  obtain ⟨row, hg, _⟩ := hg
  exact hg.size

/-- a slice of bytes that reads as l; its block was there before B0, or has cells of bytes -/
def RdS (w : World) (B0 : Nat) (x : Value) (l : List UInt8) : Prop := Rd w w.heap.size x l ∧ ∀ b, 0 < l.length → x.ownBlock = some b → Of w B0 5 b
theorem RdS.rd (h : RdS w B0 x l) : Rd w w.heap.size x l := h.1
theorem RdS.lt (h : RdS w B0 x l) (h0 : 0 < l.length) {b : Nat} (hb : x.ownBlock = some b) : b < w.heap.size := by
  obtain ⟨A, c, rfl, _, _, hp⟩ := h.1
  obtain ⟨b', o, rfl, hlt, _⟩ := hp h0
  simp only [Value.ownBlock, Option.some.injEq] at hb
  omega
theorem RdS.up (h : RdS w B0 x l) (hb : Below w.heap.size w w') : RdS w' B0 x l :=
  ⟨h.1.up (Nat.le_refl _) hb, fun b h0 e => (h.2 b h0 e).up hb (h.lt h0 e)⟩
theorem RdS.old (h : Rd w B0 x l) (hB : B0 ≤ w.heap.size) : RdS w B0 x l := ⟨h.more hB, fun b h0 e => by
  obtain ⟨A, c, rfl, _, _, hp⟩ := h
  obtain ⟨b', o, rfl, hlt, _⟩ := hp h0
  simp only [Value.ownBlock, Option.some.injEq] at e
  exact .inl (by omega)⟩
theorem Own.rdS (h : Own w B v l) : RdS w B0 v l := ⟨h.rd, fun b h0 e => by
  rcases h.2 with ⟨rfl, _⟩ | ⟨g, cap, cur, rfl, hb, hg, _⟩
  · simp [Value.ownBlock] at e
  · simp only [Value.ownBlock, Option.some.injEq] at e
    subst e
    exact .inr ⟨_, _, hg⟩⟩
theorem RdS.grow (h : RdS w B0 x l) (hg : Grow w B0 E w') (hE : 5 ≠ E) : RdS w' B0 x l := by
  refine ⟨?_, fun b h0 e => (h.2 b h0 e).grow hg (h.lt h0 e) hE⟩
  obtain ⟨h1, h2⟩ := h
  obtain ⟨A, c, rfl, hc, hm, hp⟩ := h1
  refine ⟨A, c, rfl, hc, hm, fun h0 => ?_⟩
  obtain ⟨b, o, rfl, hlt, hcell⟩ := hp h0
  have hs := (h2 b h0 rfl).same hg hlt hE
  refine ⟨b, o, rfl, Nat.lt_of_lt_of_le hlt hg.size, fun j hj => ?_⟩
  rw [← hcell j hj]
  simp [World.cell?, hs]

/-- a row of rows of bytes -/
def RowS (w : World) (B0 : Nat) (v : Value) (ls : List (List UInt8)) : Prop :=
  ∃ A c, v = .slice A ls.length c ∧ ls.length ≤ c ∧ c ≤ maxLen ∧ (0 < ls.length → ∃ b o, A = some ⟨b, o, none⟩ ∧ b < w.heap.size ∧ Of w B0 27 b ∧ ∀ j (h : j < ls.length), ∃ x, w.cell? ⟨b, o + j, none⟩ = some x ∧ RdS w B0 x ls[j])
theorem RowS.form (h : RowS w B0 v ls) : ∃ A c, v = .slice A ls.length c := by obtain ⟨A, c, h, _⟩ := h; exact ⟨A, c, h⟩
theorem RowS.up (h : RowS w B0 v ls) (hb : Below w.heap.size w w') : RowS w' B0 v ls := by
  obtain ⟨A, c, rfl, hc, hm, hp⟩ := h
  refine ⟨A, c, rfl, hc, hm, fun h0 => ?_⟩
  obtain ⟨b, o, rfl, hlt, ho, hcell⟩ := hp h0
  refine ⟨b, o, rfl, Nat.lt_of_lt_of_le hlt hb.size, ho.up hb hlt, fun j hj => ?_⟩
  obtain ⟨x, hx, hr⟩ := hcell j hj
  exact ⟨x, (hb.cell (p := ⟨b, o + j, none⟩) hlt).trans hx, hr.up hb⟩
theorem RowS.grow (h : RowS w B0 v ls) (hg : Grow w B0 E w') (hE : 5 ≠ E) (hE2 : 27 ≠ E) : RowS w' B0 v ls := by
  obtain ⟨A, c, rfl, hc, hm, hp⟩ := h
  refine ⟨A, c, rfl, hc, hm, fun h0 => ?_⟩
  obtain ⟨b, o, rfl, hlt, ho, hcell⟩ := hp h0
  have hs := ho.same hg hlt hE2
  refine ⟨b, o, rfl, Nat.lt_of_lt_of_le hlt hg.size, ho.grow hg hlt hE2, fun j hj => ?_⟩
  obtain ⟨x, hx, hr⟩ := hcell j hj
  refine ⟨x, ?_, hr.grow hg hE⟩
  rw [← hx]
  simp [World.cell?, hs]
/-- a cell of it -/
theorem RowS.at_ {A : Option Addr} {n c : Nat} (h : RowS w B0 (.slice A n c) ls) (j : Nat) (hj : j < ls.length) : ∃ b o x, A = some ⟨b, o, none⟩ ∧ n = ls.length ∧ b < w.heap.size ∧ w.cell? ⟨b, o + j, none⟩ = some x ∧ RdS w B0 x ls[j] := by
  obtain ⟨A', c', e, hc, hm, hp⟩ := h
  injection e with e1 e2 e3
  subst e1; subst e2; subst e3
  obtain ⟨b, o, rfl, hlt, ho, hcell⟩ := hp (by omega)
  obtain ⟨x, hx, hr⟩ := hcell j hj
  exact ⟨b, o, x, rfl, rfl, hlt, hx, hr⟩

/-- a row of rows of bytes, of the call's own from B on -/
def OwnR (w : World) (B0 B : Nat) (v : Value) (ls : List (List UInt8)) : Prop :=
  ∃ vs, w.ownsRow B 27 1 v ls.length vs ∧ ∀ j (h : j < ls.length), ∃ x, vs[j]? = some x ∧ RdS w B0 x ls[j]
theorem OwnR.lt (h : OwnR w B0 B v ls) : ∀ k, v.ownBlock = some k → B ≤ k ∧ k < w.heap.size := by
  obtain ⟨vs, h, _⟩ := h
  exact World.ownsRow.lt h
theorem OwnR.rowS (h : OwnR w B0 B v ls) : RowS w B0 v ls := by
  obtain ⟨vs, h, hr⟩ := h
  rcases h.2 with ⟨rfl, h0⟩ | ⟨g, cap, cur, rfl, hb, hg, hn, hm, hs, ht⟩
  · exact ⟨none, 0, by rw [h0], by omega, by simp [maxLen], fun h => by omega⟩
  · refine ⟨_, _, rfl, hn, hm, fun _ => ⟨g, 0, rfl, (Array.getElem?_eq_some_iff.1 hg).1, .inr ⟨_, _, hg⟩, fun j hj => ?_⟩⟩
    obtain ⟨x, hx, hrd⟩ := hr j hj
    refine ⟨x, ?_, hrd⟩
    rw [cell_of_row w g _ cur _ (0, 0) hg, Nat.zero_add]
    rw [← ht, List.getElem?_take] at hx
    split at hx
    · simpa using hx
    · cases hx
theorem OwnR.form (h : OwnR w B0 B v ls) : ∃ A c, v = .slice A ls.length c := h.rowS.form
theorem OwnR.nil (w : World) (B0 B : Nat) : OwnR w B0 B (.slice none 0 0) [] := ⟨[], World.ownsRow_nil w B _ 1, fun j h => absurd h (by simp)⟩
theorem OwnR.more (h : OwnR w B0 B v ls) (hB : B' ≤ B) : OwnR w B0 B' v ls := by
  obtain ⟨vs, h, hr⟩ := h
  exact ⟨vs, World.ownsRow.mono h hB, hr⟩
theorem OwnR.up (h : OwnR w B0 B v ls) (hb : Below w.heap.size w w') : OwnR w' B0 B v ls := by
  obtain ⟨vs, h, hr⟩ := h
  refine ⟨vs, ⟨h.1, ?_⟩, fun j hj => ?_⟩
  · rcases h.2 with h0 | ⟨g, cap, cur, hv, hB, hg, rest⟩
    · exact .inl h0
    · exact .inr ⟨g, cap, cur, hv, hB, (hb.block g (Array.getElem?_eq_some_iff.1 hg).1).trans hg, rest⟩
  · obtain ⟨x, hx, hrd⟩ := hr j hj
    exact ⟨x, hx, hrd.up hb⟩
theorem OwnR.one {w : World} {B0 : Nat} {x : Value} {l : List UInt8} (hx : RdS w B0 x l) : OwnR (w.alloc (.cells #[x] 27)) B0 w.heap.size (.slice (some ⟨w.heap.size, 0, none⟩) 1 1) [l] := by
  have hb : Below w.heap.size w (w.alloc (.cells #[x] 27)) := (Below.refl _ _).alloc (Nat.le_refl _) _
  refine ⟨[x], ⟨rfl, .inr ⟨w.heap.size, 1, _, rfl, Nat.le_refl _, heap_alloc_new w _, Nat.le_refl _, by unfold maxLen; omega, rfl, rfl⟩⟩, fun j hj => ?_⟩
  obtain rfl : j = 0 := by simp at hj; exact hj
  exact ⟨x, rfl, hx.up hb⟩
theorem OwnR.grows (h : OwnR w B0 B v ls) (hB : B0 ≤ B) (hg : w.grownBy w' v.ownBlock) : Grow w B0 27 w' := by
  refine ⟨_, hg, fun g e => ?_⟩
  obtain ⟨vs, h, hr⟩ := h
  rcases h.2 with ⟨rfl, h0⟩ | ⟨g', cap, cur, rfl, hb, hg, _⟩
  · simp [Value.ownBlock] at e
  · simp only [Value.ownBlock, Option.some.injEq] at e
    subst e
    exact ⟨by omega, _, _, hg⟩
theorem OwnR.below (h : OwnR w B0 B v ls) {w0 : World} (h0 : Below B w0 w) (hB : B ≤ w.heap.size) (hg : w.grownBy w' v.ownBlock) : Below B w0 w' := h0.grown hg hB fun k hk => (h.lt k hk).1

variable {P : Program}
theorem run_append_row (t ty : TypeId) (i : TypeInfo) (ht : P.underlying t = some (.slice 27)) (hi : P.info? 27 = some i)
    (hz : i.zero = some (.slice none 0 0)) (hsize : i.size = 1) (hby : i.bytes = 24)
    (hown : OwnR w B0 B v ls) {o : Nat} {c : Nat} (hcell : w.cell? ⟨b, o, none⟩ = some x) (hx : RdS w B0 x l) (hB : B0 ≤ B) (hlen : ls.length ≤ 1000000000) (hbase : B ≤ w.heap.size) :
    ∃ v' w', (Builtin.append_ #[t, t] ty #[v, .slice (some ⟨b, o, none⟩) 1 c]).run P w = .ok v' w' ∧ OwnR w' B0 B v' (ls ++ [l]) ∧ w.grownBy w' v.ownBlock := by
  obtain ⟨vs, hr, hrd⟩ := id hown
  have hone : x.oneCell' = true := by obtain ⟨A, c, rfl⟩ := hx.1.form; rfl
  obtain ⟨v', w', hrun, h2, h3, _, h5⟩ := run_append_own_at (P := P) w B t ty 27 i (.slice none 0 0) 1 24 ht hi hz hsize hby rfl (by omega) v ls.length vs hr ⟨b, o, none⟩ 1 c [x]
    rfl
    (fun j u hj => by
      rcases j with _ | j
      · simp only [List.getElem?_cons_zero, Option.some.injEq] at hj
        subst hj
        rw [← hcell]
        unfold Addr.add; split <;> simp_all
      · simp at hj)
    (fun u hu => by simp only [List.mem_cons, List.not_mem_nil, or_false] at hu; subst hu; exact hone) (by simp only [maxLen]; omega) (by omega) hbase
  have hgr := hown.grows hB h3
  refine ⟨v', w', hrun, ⟨vs ++ [x], by rw [List.length_append]; exact h2, fun j hj => ?_⟩, h3⟩
  have hv1 : vs.length = ls.length := by have := hr.1; omega
  rw [List.length_append] at hj
  by_cases hj' : j < ls.length
  · obtain ⟨y, hy, hyr⟩ := hrd j hj'
    exact ⟨y, by rw [List.getElem?_append_left (by omega)]; exact hy, by rw [List.getElem_append_left hj']; exact hyr.grow hgr (by decide)⟩
  · obtain rfl : j = ls.length := by simp at hj; omega
    refine ⟨x, by rw [List.getElem?_append_right (by omega), hv1]; simp, ?_⟩
    rw [List.getElem_append_right (by omega)]
    simpa using hx.grow hgr (by decide)

theorem wp_append_row {o : Oper} {a : Act} {K : Act → World → Prop} {Q : Exit → Act → World → Prop} (sv sx : Operand) (t : TypeId)
    (ho : o.op = .call { callee := .builtin .append, args := #[sv, sx], argTypes := #[t, t] })
    (i : TypeInfo) (ht : P.underlying t = some (.slice 27)) (hi : P.info? 27 = some i)
    (hz : i.zero = some (.slice none 0 0)) (hsize : i.size = 1) (hby : i.bytes = 24)
    (hs : a.eval sv = v) (hown : OwnR w B0 B v ls) {off c : Nat} (hxe : a.eval sx = .slice (some ⟨b, off, none⟩) 1 c) (hcell : w.cell? ⟨b, off, none⟩ = some x) (hx : RdS w B0 x l) (hB : B0 ≤ B) (hlen : ls.length ≤ 1000000000) (hbase : B ≤ w.heap.size)
    (h : ∀ v' w', OwnR w' B0 B v' (ls ++ [l]) → w.grownBy w' v.ownBlock → K (a.put o.dst v') w') : o.wp P a w K Q := by
  obtain ⟨v', w', hrun, h2, h3⟩ := run_append_row (P := P) t o.type i ht hi hz hsize hby hown (c := c) hcell hx hB hlen hbase
  unfold Oper.wp execOp
  simp only [ho, resolve, invoke, builtin, Sem.run_bind, Sem.run_pure, Result.andThen_ok, List.map_toArray, List.map_cons, List.map_nil, hs, hxe, hrun]
  exact h v' w' h2 h3

theorem wpList_append_row {ops : Array Oper} {rest : List Oper} {o : Oper} {a : Act} {Q : Exit → Act → World → Prop} (hgd : o.guard = none) (sv sx : Operand) (t : TypeId)
    (ho : o.op = .call { callee := .builtin .append, args := #[sv, sx], argTypes := #[t, t] })
    (i : TypeInfo) (ht : P.underlying t = some (.slice 27)) (hi : P.info? 27 = some i)
    (hz : i.zero = some (.slice none 0 0)) (hsize : i.size = 1) (hby : i.bytes = 24)
    (hs : a.eval sv = v) (hown : OwnR w B0 B v ls) {off c : Nat} (hxe : a.eval sx = .slice (some ⟨b, off, none⟩) 1 c) (hcell : w.cell? ⟨b, off, none⟩ = some x) (hx : RdS w B0 x l) (hB : B0 ≤ B) (hlen : ls.length ≤ 1000000000) (hbase : B ≤ w.heap.size)
    (h : ∀ v' w', OwnR w' B0 B v' (ls ++ [l]) → w.grownBy w' v.ownBlock → wpList P ops Q rest (a.put o.dst v') w') : wpList P ops Q (o :: rest) a w := by
  refine wpList_plain hgd fun K hK => ?_
  exact wp_append_row sv sx t ho i ht hi hz hsize hby hs hown hxe hcell hx hB hlen hbase fun v' w' h1 h2 => hK _ _ (h v' w' h1 h2)
end
end Go.Proofs.YtniclaapiabmdaaGreatDoor
namespace Go.Proofs.YtniclaapiabmdaaGreatDoor
set_option maxRecDepth 100000
open Go Go.RowKit

theorem Tryz.infoRows : (Tryz.prog.info? 107).map (fun i => (i.zero, i.size, i.bytes)) = some (some (.slice none 0 0), 1, 24) := by kernel_rfl
section
variable {w w' : World} {B0 B B' b : Nat} {t E : TypeId} {x v : Value} {l : List (List UInt8)} {ls : List (List (List UInt8))}
/-- a row of rows of rows of bytes, of the call's own from B on -/
def OwnRR (w : World) (B0 B : Nat) (v : Value) (ls : List (List (List UInt8))) : Prop :=
  ∃ vs, w.ownsRow B 107 1 v ls.length vs ∧ ∀ j (h : j < ls.length), ∃ x, vs[j]? = some x ∧ RowS w B0 x ls[j]
theorem OwnRR.lt (h : OwnRR w B0 B v ls) : ∀ k, v.ownBlock = some k → B ≤ k ∧ k < w.heap.size := by
  obtain ⟨vs, h, _⟩ := h
  exact World.ownsRow.lt h
theorem OwnRR.form (h : OwnRR w B0 B v ls) : ∃ A c, v = .slice A ls.length c := by
  obtain ⟨vs, h, hr⟩ := h
  rcases h.2 with ⟨rfl, h0⟩ | ⟨g, cap, cur, rfl, _⟩
  · exact ⟨none, 0, by rw [h0]⟩
  · exact ⟨_, _, rfl⟩
/-- a cell of it -/
theorem OwnRR.at_ {A : Option Addr} {n c : Nat} (h : OwnRR w B0 B (.slice A n c) ls) (j : Nat) (hj : j < ls.length) : ∃ b x, A = some ⟨b, 0, none⟩ ∧ n = ls.length ∧ b < w.heap.size ∧ w.cell? ⟨b, j, none⟩ = some x ∧ RowS w B0 x ls[j] := by
  obtain ⟨vs, h, hr⟩ := h
  rcases h.2 with ⟨_, h0⟩ | ⟨g, cap, cur, hv, hb, hg, hn, hm, hs, ht⟩
  · omega
  · injection hv with h1 h2 h3
    subst h1; subst h2; subst h3
    obtain ⟨x, hx, hrd⟩ := hr j hj
    refine ⟨g, x, rfl, rfl, (Array.getElem?_eq_some_iff.1 hg).1, ?_, hrd⟩
    rw [cell_of_row w g _ cur _ (0, 0) hg]
    rw [← ht, List.getElem?_take] at hx
    split at hx
    · simpa using hx
    · cases hx
theorem OwnRR.nil (w : World) (B0 B : Nat) : OwnRR w B0 B (.slice none 0 0) [] := ⟨[], World.ownsRow_nil w B _ 1, fun j h => absurd h (by simp)⟩
theorem OwnRR.more (h : OwnRR w B0 B v ls) (hB : B' ≤ B) : OwnRR w B0 B' v ls := by
  obtain ⟨vs, h, hr⟩ := h
  exact ⟨vs, World.ownsRow.mono h hB, hr⟩
theorem OwnRR.up (h : OwnRR w B0 B v ls) (hb : Below w.heap.size w w') : OwnRR w' B0 B v ls := by
  obtain ⟨vs, h, hr⟩ := h
  refine ⟨vs, ⟨h.1, ?_⟩, fun j hj => ?_⟩
  · rcases h.2 with h0 | ⟨g, cap, cur, hv, hB, hg, rest⟩
    · exact .inl h0
    · exact .inr ⟨g, cap, cur, hv, hB, (hb.block g (Array.getElem?_eq_some_iff.1 hg).1).trans hg, rest⟩
  · obtain ⟨x, hx, hrd⟩ := hr j hj
    exact ⟨x, hx, hrd.up hb⟩
theorem OwnRR.one {w : World} {B0 : Nat} {x : Value} {l : List (List UInt8)} (hx : RowS w B0 x l) : OwnRR (w.alloc (.cells #[x] 107)) B0 w.heap.size (.slice (some ⟨w.heap.size, 0, none⟩) 1 1) [l] := by
  have hb : Below w.heap.size w (w.alloc (.cells #[x] 107)) := (Below.refl _ _).alloc (Nat.le_refl _) _
  refine ⟨[x], ⟨rfl, .inr ⟨w.heap.size, 1, _, rfl, Nat.le_refl _, heap_alloc_new w _, Nat.le_refl _, by unfold maxLen; omega, rfl, rfl⟩⟩, fun j hj => ?_⟩
  obtain rfl : j = 0 := by simp at hj; exact hj
  exact ⟨x, rfl, hx.up hb⟩
theorem OwnRR.grows (h : OwnRR w B0 B v ls) (hB : B0 ≤ B) (hg : w.grownBy w' v.ownBlock) : Grow w B0 107 w' := by
  refine ⟨_, hg, fun g e => ?_⟩
  obtain ⟨vs, h, hr⟩ := h
  rcases h.2 with ⟨rfl, h0⟩ | ⟨g', cap, cur, rfl, hb, hg, _⟩
  · simp [Value.ownBlock] at e
  · simp only [Value.ownBlock, Option.some.injEq] at e
    subst e
    exact ⟨by omega, _, _, hg⟩
theorem OwnRR.below (h : OwnRR w B0 B v ls) {w0 : World} (h0 : Below B w0 w) (hB : B ≤ w.heap.size) (hg : w.grownBy w' v.ownBlock) : Below B w0 w' := h0.grown hg hB fun k hk => (h.lt k hk).1

variable {P : Program}
theorem run_append_rows (t ty : TypeId) (i : TypeInfo) (ht : P.underlying t = some (.slice 107)) (hi : P.info? 107 = some i)
    (hz : i.zero = some (.slice none 0 0)) (hsize : i.size = 1) (hby : i.bytes = 24)
    (hown : OwnRR w B0 B v ls) {o : Nat} {c : Nat} (hcell : w.cell? ⟨b, o, none⟩ = some x) (hx : RowS w B0 x l) (hB : B0 ≤ B) (hlen : ls.length ≤ 1000) (hbase : B ≤ w.heap.size) :
    ∃ v' w', (Builtin.append_ #[t, t] ty #[v, .slice (some ⟨b, o, none⟩) 1 c]).run P w = .ok v' w' ∧ OwnRR w' B0 B v' (ls ++ [l]) ∧ w.grownBy w' v.ownBlock := by
  obtain ⟨vs, hr, hrd⟩ := id hown
  have hone : x.oneCell' = true := by obtain ⟨A, c, rfl⟩ := hx.form; rfl
  obtain ⟨v', w', hrun, h2, h3, _, h5⟩ := run_append_own_at (P := P) w B t ty 107 i (.slice none 0 0) 1 24 ht hi hz hsize hby rfl (by omega) v ls.length vs hr ⟨b, o, none⟩ 1 c [x]
    rfl
    (fun j u hj => by
      rcases j with _ | j
      · simp only [List.getElem?_cons_zero, Option.some.injEq] at hj
        subst hj
        rw [← hcell]
        unfold Addr.add; split <;> simp_all
      · simp at hj)
    (fun u hu => by simp only [List.mem_cons, List.not_mem_nil, or_false] at hu; subst hu; exact hone) (by simp only [maxLen]; omega) (by omega) hbase
  have hgr := hown.grows hB h3
  refine ⟨v', w', hrun, ⟨vs ++ [x], by rw [List.length_append]; exact h2, fun j hj => ?_⟩, h3⟩
  have hv1 : vs.length = ls.length := by have := hr.1; omega
  rw [List.length_append] at hj
  by_cases hj' : j < ls.length
  · obtain ⟨y, hy, hyr⟩ := hrd j hj'
    exact ⟨y, by rw [List.getElem?_append_left (by omega)]; exact hy, by rw [List.getElem_append_left hj']; exact hyr.grow hgr (by decide) (by decide)⟩
  · obtain rfl : j = ls.length := by simp at hj; omega
    refine ⟨x, by rw [List.getElem?_append_right (by omega), hv1]; simp, ?_⟩
    rw [List.getElem_append_right (by omega)]
    simpa using hx.grow hgr (by decide) (by decide)

theorem wp_append_rows {o : Oper} {a : Act} {K : Act → World → Prop} {Q : Exit → Act → World → Prop} (sv sx : Operand) (t : TypeId)
    (ho : o.op = .call { callee := .builtin .append, args := #[sv, sx], argTypes := #[t, t] })
    (i : TypeInfo) (ht : P.underlying t = some (.slice 107)) (hi : P.info? 107 = some i)
    (hz : i.zero = some (.slice none 0 0)) (hsize : i.size = 1) (hby : i.bytes = 24)
    (hs : a.eval sv = v) (hown : OwnRR w B0 B v ls) {off c : Nat} (hxe : a.eval sx = .slice (some ⟨b, off, none⟩) 1 c) (hcell : w.cell? ⟨b, off, none⟩ = some x) (hx : RowS w B0 x l) (hB : B0 ≤ B) (hlen : ls.length ≤ 1000) (hbase : B ≤ w.heap.size)
    (h : ∀ v' w', OwnRR w' B0 B v' (ls ++ [l]) → w.grownBy w' v.ownBlock → K (a.put o.dst v') w') : o.wp P a w K Q := by
  obtain ⟨v', w', hrun, h2, h3⟩ := run_append_rows (P := P) t o.type i ht hi hz hsize hby hown (c := c) hcell hx hB hlen hbase
  unfold Oper.wp execOp
  simp only [ho, resolve, invoke, builtin, Sem.run_bind, Sem.run_pure, Result.andThen_ok, List.map_toArray, List.map_cons, List.map_nil, hs, hxe, hrun]
  exact h v' w' h2 h3

theorem wpList_append_rows {ops : Array Oper} {rest : List Oper} {o : Oper} {a : Act} {Q : Exit → Act → World → Prop} (hgd : o.guard = none) (sv sx : Operand) (t : TypeId)
    (ho : o.op = .call { callee := .builtin .append, args := #[sv, sx], argTypes := #[t, t] })
    (i : TypeInfo) (ht : P.underlying t = some (.slice 107)) (hi : P.info? 107 = some i)
    (hz : i.zero = some (.slice none 0 0)) (hsize : i.size = 1) (hby : i.bytes = 24)
    (hs : a.eval sv = v) (hown : OwnRR w B0 B v ls) {off c : Nat} (hxe : a.eval sx = .slice (some ⟨b, off, none⟩) 1 c) (hcell : w.cell? ⟨b, off, none⟩ = some x) (hx : RowS w B0 x l) (hB : B0 ≤ B) (hlen : ls.length ≤ 1000) (hbase : B ≤ w.heap.size)
    (h : ∀ v' w', OwnRR w' B0 B v' (ls ++ [l]) → w.grownBy w' v.ownBlock → wpList P ops Q rest (a.put o.dst v') w') : wpList P ops Q (o :: rest) a w := by
  refine wpList_plain hgd fun K hK => ?_
  exact wp_append_rows sv sx t ho i ht hi hz hsize hby hs hown hxe hcell hx hB hlen hbase fun v' w' h1 h2 => hK _ _ (h v' w' h1 h2)
end
end Go.Proofs.YtniclaapiabmdaaGreatDoor
namespace Go.Proofs.YtniclaapiabmdaaGreatDoor
set_option maxRecDepth 100000
open Go Go.RowKit
section
variable {w w' w1 : World} {B0 B g : Nat} {E : TypeId} {v : Value} {l : List UInt8} {ls : List (List UInt8)}
theorem Own.grow (h : Own w B v l) (hg : Grow w B0 E w') (hB : B0 ≤ B) (hE : 5 ≠ E) : Own w' B v l := by
  obtain ⟨row, hg, hr⟩ := hg
  refine h.grown hg ?_
  cases hv : v.ownBlock with
  | none => exact .inl rfl
  | some b =>
    right
    intro e
    obtain ⟨h1, cs, fr, h2⟩ := hr b e.symm
    rcases h.2 with ⟨rfl, _⟩ | ⟨g', cap, cur, rfl, hb, hg', _⟩
    · simp [Value.ownBlock] at hv
    · simp only [Value.ownBlock, Option.some.injEq] at hv
      subst hv
      rw [hg'] at h2
      injection h2 with h2
      injection h2 with _ h2 _
      exact hE h2
theorem OwnR.grow (h : OwnR w B0 B v ls) (hg : Grow w B0 E w') (hE : 5 ≠ E) (hE2 : 27 ≠ E) : OwnR w' B0 B v ls := by
  obtain ⟨vs, h, hr⟩ := h
  refine ⟨vs, ?_, fun j hj => ?_⟩
  · obtain ⟨row, hg, hrow⟩ := hg
    refine World.ownsRow.kept h hg ?_
    cases hv : v.ownBlock with
    | none => exact .inl rfl
    | some b =>
      right
      intro e
      obtain ⟨h1, cs, fr, h2⟩ := hrow b e.symm
      rcases h.2 with ⟨rfl, _⟩ | ⟨g', cap, cur, rfl, hb, hg', _⟩
      · simp [Value.ownBlock] at hv
      · simp only [Value.ownBlock, Option.some.injEq] at hv
        subst hv
        rw [hg'] at h2
        injection h2 with h2
        injection h2 with _ h2 _
        exact hE2 h2
  · obtain ⟨x, hx, hrd⟩ := hr j hj
    exact ⟨x, hx, hrd.grow hg hE⟩
theorem grown_set (h : w.grownBy w1 (some g)) (j : Nat) (x : Value) : w.grownBy (w1.setCell ⟨g, j, none⟩ x) (some g) :=
  ⟨h.os, h.tape, h.output, by have := h.size; simpa [World.setCell] using this, fun k hk hne => by
    rw [← h.block k hk hne]
    have : g ≠ k := fun e => hne (by rw [e])
    simp [World.setCell, Array.getElem?_modify, this]⟩
theorem grow_of {cs : Array Value} {fr : Nat × Nat} (h : w.grownBy w' (some g)) (hB : B0 ≤ g) (hg : w.heap[g]? = some (.cells cs E fr)) : Grow w B0 E w' :=
  ⟨some g, h, fun k e => by injection e with e; subst e; exact ⟨hB, cs, fr, hg⟩⟩
end
end Go.Proofs.YtniclaapiabmdaaGreatDoor
namespace Go.Proofs.YtniclaapiabmdaaGreatDoor
set_option maxRecDepth 100000
open Go Go.RowKit

theorem flat_get {sz : Nat} : ∀ (cs : List (List Value)) (h : ∀ c ∈ cs, c.length = sz) (j i : Nat) (hj : j < cs.length), i < sz → cs.flatten[j * sz + i]? = (cs[j])[i]?
  | c :: cs, h, 0, i, _, hi => by
    rw [List.flatten_cons, Nat.zero_mul, Nat.zero_add, List.getElem?_append_left (by rw [h c (by simp)]; exact hi)]
    rfl
  | c :: cs, h, j + 1, i, hj, hi => by
    have hc := h c (by simp)
    rw [List.flatten_cons, List.getElem?_append_right (by rw [hc, Nat.add_mul]; omega), hc, show (j + 1) * sz + i - sz = j * sz + i by rw [Nat.add_mul]; omega]
    exact flat_get cs (fun c hc => h c (by simp [hc])) j i (by simpa using hj) hi
theorem flat_len {sz : Nat} : ∀ (cs : List (List Value)) (h : ∀ c ∈ cs, c.length = sz), cs.flatten.length = cs.length * sz
  | [], _ => by simp
  | c :: cs, h => by rw [List.flatten_cons, List.length_append, h c (by simp), flat_len cs (fun c hc => h c (by simp [hc])), List.length_cons, Nat.add_mul]; omega

section
variable {α : Type} {E : TypeId} {sz : Nat} {R : World → List Value → α → Prop}
/-- a row of things, of the call's own from B on -/
def OwnX (E : TypeId) (sz : Nat) (R : World → List Value → α → Prop) (w : World) (B : Nat) (v : Value) (ls : List α) : Prop :=
  ∃ cs : List (List Value), w.ownsRow B E sz v ls.length cs.flatten ∧ cs.length = ls.length ∧ (∀ c ∈ cs, c.length = sz) ∧ ∀ (j : Nat) (h : j < cs.length) (h' : j < ls.length), R w cs[j] ls[j]
variable {w w' : World} {B0 B B' b : Nat} {v : Value} {l : α} {ls : List α}
theorem OwnX.lt (h : OwnX E sz R w B v ls) : ∀ k, v.ownBlock = some k → B ≤ k ∧ k < w.heap.size := by
  obtain ⟨cs, h, _⟩ := h
  exact World.ownsRow.lt h
theorem OwnX.form (h : OwnX E sz R w B v ls) : ∃ A c, v = .slice A ls.length c := by
  obtain ⟨cs, h, _⟩ := h
  rcases h.2 with ⟨rfl, h0⟩ | ⟨g, cap, cur, rfl, _⟩
  · exact ⟨none, 0, by rw [h0]⟩
  · exact ⟨_, _, rfl⟩
theorem OwnX.nil (w : World) (B : Nat) : OwnX E sz R w B (.slice none 0 0) [] := ⟨[], World.ownsRow_nil w B _ sz, rfl, fun c hc => by simp at hc, fun j h => absurd h (by simp)⟩
theorem OwnX.more (h : OwnX E sz R w B v ls) (hB : B' ≤ B) : OwnX E sz R w B' v ls := by
  obtain ⟨cs, h, hr⟩ := h
  exact ⟨cs, World.ownsRow.mono h hB, hr⟩
theorem OwnX.up (h : OwnX E sz R w B v ls) (hb : Below w.heap.size w w') (hR : ∀ c a, R w c a → R w' c a) : OwnX E sz R w' B v ls := by
  obtain ⟨cs, h, h1, h2, h3⟩ := h
  refine ⟨cs, ⟨h.1, ?_⟩, h1, h2, fun j hj hj' => hR _ _ (h3 j hj hj')⟩
  rcases h.2 with h0 | ⟨g, cap, cur, hv, hB, hg, rest⟩
  · exact .inl h0
  · exact .inr ⟨g, cap, cur, hv, hB, (hb.block g (Array.getElem?_eq_some_iff.1 hg).1).trans hg, rest⟩
theorem OwnX.grow {E' : TypeId} (h : OwnX E sz R w B v ls) (hg : Grow w B0 E' w') (hE : E ≠ E') (hR : ∀ c a, R w c a → R w' c a) : OwnX E sz R w' B v ls := by
  obtain ⟨cs, h, h1, h2, h3⟩ := h
  refine ⟨cs, ?_, h1, h2, fun j hj hj' => hR _ _ (h3 j hj hj')⟩
  obtain ⟨row, hg, hrow⟩ := hg
  refine World.ownsRow.kept h hg ?_
  cases hv : v.ownBlock with
  | none => exact .inl rfl
  | some b =>
    right
    intro e
    obtain ⟨h1, cs', fr, h2⟩ := hrow b e.symm
    rcases h.2 with ⟨rfl, _⟩ | ⟨g', cap, cur, rfl, hb, hg', _⟩
    · simp [Value.ownBlock] at hv
    · simp only [Value.ownBlock, Option.some.injEq] at hv
      subst hv
      rw [hg'] at h2
      injection h2 with h2
      injection h2 with _ h2 _
      exact hE h2
theorem OwnX.grows (h : OwnX E sz R w B v ls) (hB : B0 ≤ B) (hg : w.grownBy w' v.ownBlock) : Grow w B0 E w' := by
  refine ⟨_, hg, fun g e => ?_⟩
  obtain ⟨vs, h, _⟩ := h
  rcases h.2 with ⟨rfl, h0⟩ | ⟨g', cap, cur, rfl, hb, hg, _⟩
  · simp [Value.ownBlock] at e
  · simp only [Value.ownBlock, Option.some.injEq] at e
    subst e
    exact ⟨by omega, _, _, hg⟩
theorem OwnX.below (h : OwnX E sz R w B v ls) {w0 : World} (h0 : Below B w0 w) (hB : B ≤ w.heap.size) (hg : w.grownBy w' v.ownBlock) : Below B w0 w' := h0.grown hg hB fun k hk => (h.lt k hk).1
/-- a thing of it -/
theorem OwnX.at_ {A : Option Addr} {n c : Nat} (h : OwnX E sz R w B (.slice A n c) ls) (j : Nat) (hj : j < ls.length) : ∃ b cs, A = some ⟨b, 0, none⟩ ∧ n = ls.length ∧ n ≤ c ∧ c ≤ maxLen ∧ B ≤ b ∧ b < w.heap.size ∧ cs.length = sz ∧ (∀ i, i < sz → w.cell? ⟨b, j * sz + i, none⟩ = cs[i]?) ∧ R w cs ls[j] := by
  obtain ⟨cs, h, h1, h2, h3⟩ := h
  rcases h.2 with ⟨_, h0⟩ | ⟨g, cap, cur, hv, hb, hg, hn, hm, hs, ht⟩
  · omega
  · injection hv with e1 e2 e3
    subst e1; subst e2; subst e3
    refine ⟨g, cs[j]'(by omega), rfl, rfl, hn, hm, hb, (Array.getElem?_eq_some_iff.1 hg).1, h2 _ (List.getElem_mem _), fun i hi => ?_, h3 j (by omega) hj⟩
    rw [← flat_get cs h2 j i (by omega) hi, cell_of_row w g _ cur _ (0, 0) hg, ← ht, List.getElem?_take]
    have : j * sz + i < ls.length * sz := by
      have : (j + 1) * sz ≤ ls.length * sz := Nat.mul_le_mul_right sz hj
      rw [Nat.add_mul] at this
      omega
    rw [if_pos this]
    simp
variable {P : Program}
theorem run_append_x (t ty : TypeId) (i : TypeInfo) (z : Value) (bytes : Nat) (ht : P.underlying t = some (.slice E)) (hi : P.info? E = some i)
    (hz : i.zero = some z) (hsize : i.size = sz) (hby : i.bytes = bytes) (hzs : z.cells.size = sz) (hsz : 0 < sz)
    (hown : OwnX E sz R w B v ls) {o : Nat} {c : Nat} (cs : List Value) (hcl : cs.length = sz) (hcell : ∀ i, i < sz → w.cell? ⟨b, o + i, none⟩ = cs[i]?) (hone : ∀ u ∈ cs, u.oneCell' = true) (hx : R w cs l)
    (hG : ∀ w' c a, R w c a → Grow w B0 E w' → R w' c a) (hB : B0 ≤ B) (hm : ls.length + 1 ≤ maxLen) (hlen : (ls.length + 1) * bytes ≤ 140737488355328) (hbase : B ≤ w.heap.size) :
    ∃ v' w', (Builtin.append_ #[t, t] ty #[v, .slice (some ⟨b, o, none⟩) 1 c]).run P w = .ok v' w' ∧ OwnX E sz R w' B v' (ls ++ [l]) ∧ w.grownBy w' v.ownBlock := by
  obtain ⟨vs, hr, h1, h2, h3⟩ := id hown
  obtain ⟨v', w', hrun, q2, q3, _, _⟩ := run_append_own_at (P := P) w B t ty E i z sz bytes ht hi hz hsize hby hzs hsz v ls.length vs.flatten hr ⟨b, o, none⟩ 1 c cs (by rw [hcl]; omega)
    (fun j u hj => by
      have hjl : j < sz := by rw [← hcl]; exact (List.getElem?_eq_some_iff.1 hj).1
      rw [← hj, ← hcell j hjl]
      unfold Addr.add; split <;> simp_all) hone hm hlen hbase
  have hgr := hown.grows hB q3
  refine ⟨v', w', hrun, ⟨vs ++ [cs], by rw [List.length_append, List.flatten_append]; simpa using q2, by simp [h1], fun c hc => by
    rcases List.mem_append.1 hc with hc | hc
    · exact h2 c hc
    · simp only [List.mem_cons, List.not_mem_nil, or_false] at hc; rw [hc]; exact hcl, fun j hj hj' => ?_⟩, q3⟩
  by_cases hjl : j < ls.length
  · rw [List.getElem_append_left (by omega), List.getElem_append_left hjl]
    exact hG _ _ _ (h3 j (by omega) hjl) hgr
  · obtain rfl : j = ls.length := by simp at hj'; omega
    rw [List.getElem_append_right (by omega), List.getElem_append_right (by omega)]
    simpa [h1] using hG _ _ _ hx hgr

theorem wp_append_x {o : Oper} {a : Act} {K : Act → World → Prop} {Q : Exit → Act → World → Prop} (sv sx : Operand) (t : TypeId)
    (ho : o.op = .call { callee := .builtin .append, args := #[sv, sx], argTypes := #[t, t] })
    (i : TypeInfo) (z : Value) (bytes : Nat) (ht : P.underlying t = some (.slice E)) (hi : P.info? E = some i)
    (hz : i.zero = some z) (hsize : i.size = sz) (hby : i.bytes = bytes) (hzs : z.cells.size = sz) (hsz : 0 < sz)
    (hs : a.eval sv = v) (hown : OwnX E sz R w B v ls) {off c : Nat} (hxe : a.eval sx = .slice (some ⟨b, off, none⟩) 1 c) (cs : List Value) (hcl : cs.length = sz) (hcell : ∀ i, i < sz → w.cell? ⟨b, off + i, none⟩ = cs[i]?) (hone : ∀ u ∈ cs, u.oneCell' = true) (hx : R w cs l)
    (hG : ∀ w' c a, R w c a → Grow w B0 E w' → R w' c a) (hB : B0 ≤ B) (hm : ls.length + 1 ≤ maxLen) (hlen : (ls.length + 1) * bytes ≤ 140737488355328) (hbase : B ≤ w.heap.size)
    (h : ∀ v' w', OwnX E sz R w' B v' (ls ++ [l]) → w.grownBy w' v.ownBlock → K (a.put o.dst v') w') : o.wp P a w K Q := by
  obtain ⟨v', w', hrun, h2, h3⟩ := run_append_x (P := P) t o.type i z bytes ht hi hz hsize hby hzs hsz hown (c := c) cs hcl hcell hone hx hG hB hm hlen hbase
  unfold Oper.wp execOp
  simp only [ho, resolve, invoke, builtin, Sem.run_bind, Sem.run_pure, Result.andThen_ok, List.map_toArray, List.map_cons, List.map_nil, hs, hxe, hrun]
  exact h v' w' h2 h3
theorem wpList_append_x {ops : Array Oper} {rest : List Oper} {o : Oper} {a : Act} {Q : Exit → Act → World → Prop} (hgd : o.guard = none) (sv sx : Operand) (t : TypeId)
    (ho : o.op = .call { callee := .builtin .append, args := #[sv, sx], argTypes := #[t, t] })
    (i : TypeInfo) (z : Value) (bytes : Nat) (ht : P.underlying t = some (.slice E)) (hi : P.info? E = some i)
    (hz : i.zero = some z) (hsize : i.size = sz) (hby : i.bytes = bytes) (hzs : z.cells.size = sz) (hsz : 0 < sz)
    (hs : a.eval sv = v) (hown : OwnX E sz R w B v ls) {off c : Nat} (hxe : a.eval sx = .slice (some ⟨b, off, none⟩) 1 c) (cs : List Value) (hcl : cs.length = sz) (hcell : ∀ i, i < sz → w.cell? ⟨b, off + i, none⟩ = cs[i]?) (hone : ∀ u ∈ cs, u.oneCell' = true) (hx : R w cs l)
    (hG : ∀ w' c a, R w c a → Grow w B0 E w' → R w' c a) (hB : B0 ≤ B) (hm : ls.length + 1 ≤ maxLen) (hlen : (ls.length + 1) * bytes ≤ 140737488355328) (hbase : B ≤ w.heap.size)
    (h : ∀ v' w', OwnX E sz R w' B v' (ls ++ [l]) → w.grownBy w' v.ownBlock → wpList P ops Q rest (a.put o.dst v') w') : wpList P ops Q (o :: rest) a w := by
  refine wpList_plain hgd fun K hK => ?_
  exact wp_append_x sv sx t ho i z bytes ht hi hz hsize hby hzs hsz hs hown hxe cs hcl hcell hone hx hG hB hm hlen hbase fun v' w' h1 h2 => hK _ _ (h v' w' h1 h2)
end
end Go.Proofs.YtniclaapiabmdaaGreatDoor
