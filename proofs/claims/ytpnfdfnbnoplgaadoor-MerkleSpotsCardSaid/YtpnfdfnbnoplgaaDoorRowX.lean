
/- Rows of things of any kind (E: the cells' type, sz: how many cells a thing has, R: what a thing's cells say): of the call's own, appended to. -/
import Derived.Test.YtpnfdfnbnoplgaaDoorRowR
namespace Go.Proofs.YtpnfdfnbnoplgaaDoor
open Go Go.RowKit

theorem flat_get {sz : Nat} : ∀ (cs : List (List Value)) (h : ∀ c ∈ cs, c.length = sz) (j i : Nat) (hj : j < cs.length), i < sz → cs.flatten[j * sz + i]? = (cs[j])[i]?
  | c :: cs, h, 0, i, _, hi => by
    rw [List.flatten_cons, Nat.zero_mul, Nat.zero_add, List.getElem?_append_left (by rw [h c (by simp)]; exact hi)]
    rfl
  | c :: cs, h, j + 1, i, hj, hi => by
    have hc := h c (by simp)
    rw [List.flatten_cons, List.getElem?_append_right (by rw [hc, Nat.add_mul]; omega), hc, show (j + 1) * sz + i - sz = j * sz + i by rw [Nat.add_mul]; omega]
    exact flat_get cs (fun c hc => h c (by simp [hc])) j i (by simpa using hj) hi
theorem flat_len {sz : Nat} : ∀ (cs : List (List Value)) (h : ∀ c ∈ cs, c.length = sz), cs.flatten.length = cs.length * sz
  | [], _ => by simp
  | c :: cs, h => by rw [List.flatten_cons, List.length_append, h c (by simp), flat_len cs (fun c hc => h c (by simp [hc])), List.length_cons, Nat.add_mul]; omega

section
variable {α : Type} {E : TypeId} {sz : Nat} {R : World → List Value → α → Prop}
/-- a row of things, of the call's own from B on -/
def OwnX (E : TypeId) (sz : Nat) (R : World → List Value → α → Prop) (w : World) (B : Nat) (v : Value) (ls : List α) : Prop :=
  ∃ cs : List (List Value), w.ownsRow B E sz v ls.length cs.flatten ∧ cs.length = ls.length ∧ (∀ c ∈ cs, c.length = sz) ∧ ∀ (j : Nat) (h : j < cs.length) (h' : j < ls.length), R w cs[j] ls[j]
variable {w w' : World} {B0 B B' b : Nat} {v : Value} {l : α} {ls : List α}
theorem OwnX.lt (h : OwnX E sz R w B v ls) : ∀ k, v.ownBlock = some k → B ≤ k ∧ k < w.heap.size := by
  obtain ⟨cs, h, _⟩ := h
  exact World.ownsRow.lt h
theorem OwnX.form (h : OwnX E sz R w B v ls) : ∃ A c, v = .slice A ls.length c := by
  obtain ⟨cs, h, _⟩ := h
  rcases h.2 with ⟨rfl, h0⟩ | ⟨g, cap, cur, rfl, _⟩
  · exact ⟨none, 0, by rw [h0]⟩
  · exact ⟨_, _, rfl⟩
theorem OwnX.nil (w : World) (B : Nat) : OwnX E sz R w B (.slice none 0 0) [] := ⟨[], World.ownsRow_nil w B _ sz, rfl, fun c hc => by simp at hc, fun j h => absurd h (by simp)⟩
theorem OwnX.more (h : OwnX E sz R w B v ls) (hB : B' ≤ B) : OwnX E sz R w B' v ls := by
  obtain ⟨cs, h, hr⟩ := h
  exact ⟨cs, World.ownsRow.mono h hB, hr⟩
theorem OwnX.up (h : OwnX E sz R w B v ls) (hb : Below w.heap.size w w') (hR : ∀ c a, R w c a → R w' c a) : OwnX E sz R w' B v ls := by
  obtain ⟨cs, h, h1, h2, h3⟩ := h
  refine ⟨cs, ⟨h.1, ?_⟩, h1, h2, fun j hj hj' => hR _ _ (h3 j hj hj')⟩
  rcases h.2 with h0 | ⟨g, cap, cur, hv, hB, hg, rest⟩
  · exact .inl h0
  · exact .inr ⟨g, cap, cur, hv, hB, (hb.block g (Array.getElem?_eq_some_iff.1 hg).1).trans hg, rest⟩
theorem OwnX.grow {E' : TypeId} (h : OwnX E sz R w B v ls) (hg : Grow w B0 E' w') (hE : E ≠ E') (hR : ∀ c a, R w c a → R w' c a) : OwnX E sz R w' B v ls := by
  obtain ⟨cs, h, h1, h2, h3⟩ := h
  refine ⟨cs, ?_, h1, h2, fun j hj hj' => hR _ _ (h3 j hj hj')⟩
  obtain ⟨row, hg, hrow⟩ := hg
  refine World.ownsRow.kept h hg ?_
  cases hv : v.ownBlock with
  | none => exact .inl rfl
  | some b =>
    right
    intro e
    obtain ⟨h1, cs', fr, h2⟩ := hrow b e.symm
    rcases h.2 with ⟨rfl, _⟩ | ⟨g', cap, cur, rfl, hb, hg', _⟩
    · simp [Value.ownBlock] at hv
    · simp only [Value.ownBlock, Option.some.injEq] at hv
      subst hv
      rw [hg'] at h2
      injection h2 with h2
      injection h2 with _ h2 _
      exact hE h2
theorem OwnX.grows (h : OwnX E sz R w B v ls) (hB : B0 ≤ B) (hg : w.grownBy w' v.ownBlock) : Grow w B0 E w' := by
  refine ⟨_, hg, fun g e => ?_⟩
  obtain ⟨vs, h, _⟩ := h
  rcases h.2 with ⟨rfl, h0⟩ | ⟨g', cap, cur, rfl, hb, hg, _⟩
  · simp [Value.ownBlock] at e
  · simp only [Value.ownBlock, Option.some.injEq] at e
    subst e
    exact ⟨by omega, _, _, hg⟩
theorem OwnX.below (h : OwnX E sz R w B v ls) {w0 : World} (h0 : Below B w0 w) (hB : B ≤ w.heap.size) (hg : w.grownBy w' v.ownBlock) : Below B w0 w' := h0.grown hg hB fun k hk => (h.lt k hk).1
/-- a thing of it -/
theorem OwnX.at_ {A : Option Addr} {n c : Nat} (h : OwnX E sz R w B (.slice A n c) ls) (j : Nat) (hj : j < ls.length) : ∃ b cs, A = some ⟨b, 0, none⟩ ∧ n = ls.length ∧ n ≤ c ∧ c ≤ maxLen ∧ B ≤ b ∧ b < w.heap.size ∧ cs.length = sz ∧ (∀ i, i < sz → w.cell? ⟨b, j * sz + i, none⟩ = cs[i]?) ∧ R w cs ls[j] := by
  obtain ⟨cs, h, h1, h2, h3⟩ := h
  rcases h.2 with ⟨_, h0⟩ | ⟨g, cap, cur, hv, hb, hg, hn, hm, hs, ht⟩
  · omega
  · injection hv with e1 e2 e3
    subst e1; subst e2; subst e3
    refine ⟨g, cs[j]'(by omega), rfl, rfl, hn, hm, hb, (Array.getElem?_eq_some_iff.1 hg).1, h2 _ (List.getElem_mem _), fun i hi => ?_, h3 j (by omega) hj⟩
    rw [← flat_get cs h2 j i (by omega) hi, cell_of_row w g _ cur _ (0, 0) hg, ← ht, List.getElem?_take]
    have : j * sz + i < ls.length * sz := by
      have : (j + 1) * sz ≤ ls.length * sz := Nat.mul_le_mul_right sz hj
      rw [Nat.add_mul] at this
      omega
    rw [if_pos this]
    simp
variable {P : Program}
theorem run_append_x (t ty : TypeId) (i : TypeInfo) (z : Value) (bytes : Nat) (ht : P.underlying t = some (.slice E)) (hi : P.info? E = some i)
    (hz : i.zero = some z) (hsize : i.size = sz) (hby : i.bytes = bytes) (hzs : z.cells.size = sz) (hsz : 0 < sz)
    (hown : OwnX E sz R w B v ls) {o : Nat} {c : Nat} (cs : List Value) (hcl : cs.length = sz) (hcell : ∀ i, i < sz → w.cell? ⟨b, o + i, none⟩ = cs[i]?) (hone : ∀ u ∈ cs, u.oneCell' = true) (hx : R w cs l)
    (hG : ∀ w' c a, R w c a → Grow w B0 E w' → R w' c a) (hB : B0 ≤ B) (hm : ls.length + 1 ≤ maxLen) (hlen : (ls.length + 1) * bytes ≤ 140737488355328) (hbase : B ≤ w.heap.size) :
    ∃ v' w', (Builtin.append_ #[t, t] ty #[v, .slice (some ⟨b, o, none⟩) 1 c]).run P w = .ok v' w' ∧ OwnX E sz R w' B v' (ls ++ [l]) ∧ w.grownBy w' v.ownBlock := by
  obtain ⟨vs, hr, h1, h2, h3⟩ := id hown
  obtain ⟨v', w', hrun, q2, q3, _, _⟩ := run_append_own_at (P := P) w B t ty E i z sz bytes ht hi hz hsize hby hzs hsz v ls.length vs.flatten hr ⟨b, o, none⟩ 1 c cs (by rw [hcl]; omega)
    (fun j u hj => by
      have hjl : j < sz := by rw [← hcl]; exact (List.getElem?_eq_some_iff.1 hj).1
      rw [← hj, ← hcell j hjl]
      unfold Addr.add; split <;> simp_all) hone hm hlen hbase
  have hgr := hown.grows hB q3
  refine ⟨v', w', hrun, ⟨vs ++ [cs], by rw [List.length_append, List.flatten_append]; simpa using q2, by simp [h1], fun c hc => by
    rcases List.mem_append.1 hc with hc | hc
    · exact h2 c hc
    · simp only [List.mem_cons, List.not_mem_nil, or_false] at hc; rw [hc]; exact hcl, fun j hj hj' => ?_⟩, q3⟩
  by_cases hjl : j < ls.length
  · rw [List.getElem_append_left (by omega), List.getElem_append_left hjl]
    exact hG _ _ _ (h3 j (by omega) hjl) hgr
  · obtain rfl : j = ls.length := by simp at hj'; omega
    rw [List.getElem_append_right (by omega), List.getElem_append_right (by omega)]
    simpa [h1] using hG _ _ _ hx hgr

theorem wp_append_x {o : Oper} {a : Act} {K : Act → World → Prop} {Q : Exit → Act → World → Prop} (sv sx : Operand) (t : TypeId)
    (ho : o.op = .call { callee := .builtin .append, args := #[sv, sx], argTypes := #[t, t] })
    (i : TypeInfo) (z : Value) (bytes : Nat) (ht : P.underlying t = some (.slice E)) (hi : P.info? E = some i)
    (hz : i.zero = some z) (hsize : i.size = sz) (hby : i.bytes = bytes) (hzs : z.cells.size = sz) (hsz : 0 < sz)
    (hs : a.eval sv = v) (hown : OwnX E sz R w B v ls) {off c : Nat} (hxe : a.eval sx = .slice (some ⟨b, off, none⟩) 1 c) (cs : List Value) (hcl : cs.length = sz) (hcell : ∀ i, i < sz → w.cell? ⟨b, off + i, none⟩ = cs[i]?) (hone : ∀ u ∈ cs, u.oneCell' = true) (hx : R w cs l)
    (hG : ∀ w' c a, R w c a → Grow w B0 E w' → R w' c a) (hB : B0 ≤ B) (hm : ls.length + 1 ≤ maxLen) (hlen : (ls.length + 1) * bytes ≤ 140737488355328) (hbase : B ≤ w.heap.size)
    (h : ∀ v' w', OwnX E sz R w' B v' (ls ++ [l]) → w.grownBy w' v.ownBlock → K (a.put o.dst v') w') : o.wp P a w K Q := by
  obtain ⟨v', w', hrun, h2, h3⟩ := run_append_x (P := P) t o.type i z bytes ht hi hz hsize hby hzs hsz hown (c := c) cs hcl hcell hone hx hG hB hm hlen hbase
  unfold Oper.wp execOp
  simp only [ho, resolve, invoke, builtin, Sem.run_bind, Sem.run_pure, Result.andThen_ok, List.map_toArray, List.map_cons, List.map_nil, hs, hxe, hrun]
  exact h v' w' h2 h3
theorem wpList_append_x {ops : Array Oper} {rest : List Oper} {o : Oper} {a : Act} {Q : Exit → Act → World → Prop} (hgd : o.guard = none) (sv sx : Operand) (t : TypeId)
    (ho : o.op = .call { callee := .builtin .append, args := #[sv, sx], argTypes := #[t, t] })
    (i : TypeInfo) (z : Value) (bytes : Nat) (ht : P.underlying t = some (.slice E)) (hi : P.info? E = some i)
    (hz : i.zero = some z) (hsize : i.size = sz) (hby : i.bytes = bytes) (hzs : z.cells.size = sz) (hsz : 0 < sz)
    (hs : a.eval sv = v) (hown : OwnX E sz R w B v ls) {off c : Nat} (hxe : a.eval sx = .slice (some ⟨b, off, none⟩) 1 c) (cs : List Value) (hcl : cs.length = sz) (hcell : ∀ i, i < sz → w.cell? ⟨b, off + i, none⟩ = cs[i]?) (hone : ∀ u ∈ cs, u.oneCell' = true) (hx : R w cs l)
    (hG : ∀ w' c a, R w c a → Grow w B0 E w' → R w' c a) (hB : B0 ≤ B) (hm : ls.length + 1 ≤ maxLen) (hlen : (ls.length + 1) * bytes ≤ 140737488355328) (hbase : B ≤ w.heap.size)
    (h : ∀ v' w', OwnX E sz R w' B v' (ls ++ [l]) → w.grownBy w' v.ownBlock → wpList P ops Q rest (a.put o.dst v') w') : wpList P ops Q (o :: rest) a w := by
  refine wpList_plain hgd fun K hK => ?_
  exact wp_append_x sv sx t ho i z bytes ht hi hz hsize hby hzs hsz hs hown hxe cs hcl hcell hone hx hG hB hm hlen hbase fun v' w' h1 h2 => hK _ _ (h v' w' h1 h2)
end
end Go.Proofs.YtpnfdfnbnoplgaaDoor
