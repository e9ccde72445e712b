
/- Rows of rows of rows of bytes, of the call's own: appended to. -/
import Derived.Test.YtpnfdfnbnoplgaaDoorRowR
namespace Go.Proofs.YtpnfdfnbnoplgaaDoor
open Go Go.RowKit

theorem Tryd.infoRows : (Tryd.prog.info? 44).map (fun i => (i.zero, i.size, i.bytes)) = some (some (.slice none 0 0), 1, 24) := by kernel_rfl
section
variable {w w' : World} {B0 B B' b : Nat} {t E : TypeId} {x v : Value} {l : List (List UInt8)} {ls : List (List (List UInt8))}
/-- a row of rows of rows of bytes, of the call's own from B on -/
def OwnRR (w : World) (B0 B : Nat) (v : Value) (ls : List (List (List UInt8))) : Prop :=
  ∃ vs, w.ownsRow B 44 1 v ls.length vs ∧ ∀ j (h : j < ls.length), ∃ x, vs[j]? = some x ∧ RowS w B0 x ls[j]
theorem OwnRR.lt (h : OwnRR w B0 B v ls) : ∀ k, v.ownBlock = some k → B ≤ k ∧ k < w.heap.size := by
  obtain ⟨vs, h, _⟩ := h
  exact World.ownsRow.lt h
theorem OwnRR.form (h : OwnRR w B0 B v ls) : ∃ A c, v = .slice A ls.length c := by
  obtain ⟨vs, h, hr⟩ := h
  rcases h.2 with ⟨rfl, h0⟩ | ⟨g, cap, cur, rfl, _⟩
  · exact ⟨none, 0, by rw [h0]⟩
  · exact ⟨_, _, rfl⟩
/-- a cell of it -/
theorem OwnRR.at_ {A : Option Addr} {n c : Nat} (h : OwnRR w B0 B (.slice A n c) ls) (j : Nat) (hj : j < ls.length) : ∃ b x, A = some ⟨b, 0, none⟩ ∧ n = ls.length ∧ b < w.heap.size ∧ w.cell? ⟨b, j, none⟩ = some x ∧ RowS w B0 x ls[j] := by
  obtain ⟨vs, h, hr⟩ := h
  rcases h.2 with ⟨_, h0⟩ | ⟨g, cap, cur, hv, hb, hg, hn, hm, hs, ht⟩
  · omega
  · injection hv with h1 h2 h3
    subst h1; subst h2; subst h3
    obtain ⟨x, hx, hrd⟩ := hr j hj
    refine ⟨g, x, rfl, rfl, (Array.getElem?_eq_some_iff.1 hg).1, ?_, hrd⟩
    rw [cell_of_row w g _ cur _ (0, 0) hg]
    rw [← ht, List.getElem?_take] at hx
    split at hx
    · simpa using hx
    · cases hx
theorem OwnRR.nil (w : World) (B0 B : Nat) : OwnRR w B0 B (.slice none 0 0) [] := ⟨[], World.ownsRow_nil w B _ 1, fun j h => absurd h (by simp)⟩
theorem OwnRR.more (h : OwnRR w B0 B v ls) (hB : B' ≤ B) : OwnRR w B0 B' v ls := by
  obtain ⟨vs, h, hr⟩ := h
  exact ⟨vs, World.ownsRow.mono h hB, hr⟩
theorem OwnRR.up (h : OwnRR w B0 B v ls) (hb : Below w.heap.size w w') : OwnRR w' B0 B v ls := by
  obtain ⟨vs, h, hr⟩ := h
  refine ⟨vs, ⟨h.1, ?_⟩, fun j hj => ?_⟩
  · rcases h.2 with h0 | ⟨g, cap, cur, hv, hB, hg, rest⟩
    · exact .inl h0
    · exact .inr ⟨g, cap, cur, hv, hB, (hb.block g (Array.getElem?_eq_some_iff.1 hg).1).trans hg, rest⟩
  · obtain ⟨x, hx, hrd⟩ := hr j hj
    exact ⟨x, hx, hrd.up hb⟩
theorem OwnRR.one {w : World} {B0 : Nat} {x : Value} {l : List (List UInt8)} (hx : RowS w B0 x l) : OwnRR (w.alloc (.cells #[x] 44)) B0 w.heap.size (.slice (some ⟨w.heap.size, 0, none⟩) 1 1) [l] := by
  have hb : Below w.heap.size w (w.alloc (.cells #[x] 44)) := (Below.refl _ _).alloc (Nat.le_refl _) _
  refine ⟨[x], ⟨rfl, .inr ⟨w.heap.size, 1, _, rfl, Nat.le_refl _, heap_alloc_new w _, Nat.le_refl _, by unfold maxLen; omega, rfl, rfl⟩⟩, fun j hj => ?_⟩
  obtain rfl : j = 0 := by simp at hj; exact hj
  exact ⟨x, rfl, hx.up hb⟩
theorem OwnRR.grows (h : OwnRR w B0 B v ls) (hB : B0 ≤ B) (hg : w.grownBy w' v.ownBlock) : Grow w B0 44 w' := by
  refine ⟨_, hg, fun g e => ?_⟩
  obtain ⟨vs, h, hr⟩ := h
  rcases h.2 with ⟨rfl, h0⟩ | ⟨g', cap, cur, rfl, hb, hg, _⟩
  · simp [Value.ownBlock] at e
  · simp only [Value.ownBlock, Option.some.injEq] at e
    subst e
    exact ⟨by omega, _, _, hg⟩
theorem OwnRR.below (h : OwnRR w B0 B v ls) {w0 : World} (h0 : Below B w0 w) (hB : B ≤ w.heap.size) (hg : w.grownBy w' v.ownBlock) : Below B w0 w' := h0.grown hg hB fun k hk => (h.lt k hk).1

variable {P : Program}
theorem run_append_rows (t ty : TypeId) (i : TypeInfo) (ht : P.underlying t = some (.slice 44)) (hi : P.info? 44 = some i)
    (hz : i.zero = some (.slice none 0 0)) (hsize : i.size = 1) (hby : i.bytes = 24)
    (hown : OwnRR w B0 B v ls) {o : Nat} {c : Nat} (hcell : w.cell? ⟨b, o, none⟩ = some x) (hx : RowS w B0 x l) (hB : B0 ≤ B) (hlen : ls.length ≤ 1000) (hbase : B ≤ w.heap.size) :
    ∃ v' w', (Builtin.append_ #[t, t] ty #[v, .slice (some ⟨b, o, none⟩) 1 c]).run P w = .ok v' w' ∧ OwnRR w' B0 B v' (ls ++ [l]) ∧ w.grownBy w' v.ownBlock := by
  obtain ⟨vs, hr, hrd⟩ := id hown
  have hone : x.oneCell' = true := by obtain ⟨A, c, rfl⟩ := hx.form; rfl
  obtain ⟨v', w', hrun, h2, h3, _, h5⟩ := run_append_own_at (P := P) w B t ty 44 i (.slice none 0 0) 1 24 ht hi hz hsize hby rfl (by omega) v ls.length vs hr ⟨b, o, none⟩ 1 c [x]
    rfl
    (fun j u hj => by
      rcases j with _ | j
      · simp only [List.getElem?_cons_zero, Option.some.injEq] at hj
        subst hj
        rw [← hcell]
        unfold Addr.add; split <;> simp_all
      · simp at hj)
    (fun u hu => by simp only [List.mem_cons, List.not_mem_nil, or_false] at hu; subst hu; exact hone) (by simp only [maxLen]; omega) (by omega) hbase
  have hgr := hown.grows hB h3
  refine ⟨v', w', hrun, ⟨vs ++ [x], by rw [List.length_append]; exact h2, fun j hj => ?_⟩, h3⟩
  have hv1 : vs.length = ls.length := by have := hr.1; omega
  rw [List.length_append] at hj
  by_cases hj' : j < ls.length
  · obtain ⟨y, hy, hyr⟩ := hrd j hj'
    exact ⟨y, by rw [List.getElem?_append_left (by omega)]; exact hy, by rw [List.getElem_append_left hj']; exact hyr.grow hgr (by decide) (by decide)⟩
  · obtain rfl : j = ls.length := by simp at hj; omega
    refine ⟨x, by rw [List.getElem?_append_right (by omega), hv1]; simp, ?_⟩
    rw [List.getElem_append_right (by omega)]
    simpa using hx.grow hgr (by decide) (by decide)

theorem wp_append_rows {o : Oper} {a : Act} {K : Act → World → Prop} {Q : Exit → Act → World → Prop} (sv sx : Operand) (t : TypeId)
    (ho : o.op = .call { callee := .builtin .append, args := #[sv, sx], argTypes := #[t, t] })
    (i : TypeInfo) (ht : P.underlying t = some (.slice 44)) (hi : P.info? 44 = some i)
    (hz : i.zero = some (.slice none 0 0)) (hsize : i.size = 1) (hby : i.bytes = 24)
    (hs : a.eval sv = v) (hown : OwnRR w B0 B v ls) {off c : Nat} (hxe : a.eval sx = .slice (some ⟨b, off, none⟩) 1 c) (hcell : w.cell? ⟨b, off, none⟩ = some x) (hx : RowS w B0 x l) (hB : B0 ≤ B) (hlen : ls.length ≤ 1000) (hbase : B ≤ w.heap.size)
    (h : ∀ v' w', OwnRR w' B0 B v' (ls ++ [l]) → w.grownBy w' v.ownBlock → K (a.put o.dst v') w') : o.wp P a w K Q := by
  obtain ⟨v', w', hrun, h2, h3⟩ := run_append_rows (P := P) t o.type i ht hi hz hsize hby hown (c := c) hcell hx hB hlen hbase
  unfold Oper.wp execOp
  simp only [ho, resolve, invoke, builtin, Sem.run_bind, Sem.run_pure, Result.andThen_ok, List.map_toArray, List.map_cons, List.map_nil, hs, hxe, hrun]
  exact h v' w' h2 h3

theorem wpList_append_rows {ops : Array Oper} {rest : List Oper} {o : Oper} {a : Act} {Q : Exit → Act → World → Prop} (hgd : o.guard = none) (sv sx : Operand) (t : TypeId)
    (ho : o.op = .call { callee := .builtin .append, args := #[sv, sx], argTypes := #[t, t] })
    (i : TypeInfo) (ht : P.underlying t = some (.slice 44)) (hi : P.info? 44 = some i)
    (hz : i.zero = some (.slice none 0 0)) (hsize : i.size = 1) (hby : i.bytes = 24)
    (hs : a.eval sv = v) (hown : OwnRR w B0 B v ls) {off c : Nat} (hxe : a.eval sx = .slice (some ⟨b, off, none⟩) 1 c) (hcell : w.cell? ⟨b, off, none⟩ = some x) (hx : RowS w B0 x l) (hB : B0 ≤ B) (hlen : ls.length ≤ 1000) (hbase : B ≤ w.heap.size)
    (h : ∀ v' w', OwnRR w' B0 B v' (ls ++ [l]) → w.grownBy w' v.ownBlock → wpList P ops Q rest (a.put o.dst v') w') : wpList P ops Q (o :: rest) a w := by
  refine wpList_plain hgd fun K hK => ?_
  exact wp_append_rows sv sx t ho i ht hi hz hsize hby hs hown hxe hcell hx hB hlen hbase fun v' w' h1 h2 => hK _ _ (h v' w' h1 h2)
end
end Go.Proofs.YtpnfdfnbnoplgaaDoor
