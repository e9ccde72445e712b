
/- Rows of rows of bytes as they are handed out: the row and each of its rows are the call's own. -/
import Derived.Test.YtbbpkenbeenocaaRowR
namespace Go.Proofs.Ytbbpkenbeenocaa
set_option maxRecDepth 100000
open Go Go.RowKit
set_option linter.unusedVariables false

def OutR (w : World) (B : Nat) (v : Value) (ls : List (List UInt8)) : Prop :=
  ∃ vs : List Value, vs.length = ls.length ∧ w.ownsRow B 40 1 v ls.length vs ∧ (∀ (j : Nat) (l : List UInt8) (x : Value), ls[j]? = some l → vs[j]? = some x → Own w B x l) ∧
    ∀ (i j : Nat) (x y : Value) (k : Nat), vs[i]? = some x → vs[j]? = some y → x.ownBlock = some k → y.ownBlock = some k → i = j
section
variable {w w' : World} {B B' : Nat} {v : Value} {ls : List (List UInt8)}
theorem OutR.nil (w : World) (B : Nat) : OutR w B (.slice none 0 0) [] := ⟨[], rfl, World.ownsRow_nil w B _ 1, by simp, by simp⟩
theorem OutR.form (h : OutR w B v ls) : ∃ A c, v = .slice A ls.length c := by
  obtain ⟨vs, _, h, _⟩ := h
  rcases h.2 with ⟨rfl, h0⟩ | ⟨g, cap, cur, rfl, _⟩
  · exact ⟨none, 0, by rw [h0]⟩
  · exact ⟨_, _, rfl⟩
/-- what a world keeps of the blocks from B on, it keeps of the row -/
theorem OutR.keep (h : OutR w B v ls) (hk : ∀ k, B ≤ k → k < w.heap.size → w'.heap[k]? = w.heap[k]?) : OutR w' B v ls := by
  obtain ⟨vs, h0, h, hr, hd⟩ := h
  refine ⟨vs, h0, ⟨h.1, ?_⟩, fun j l x h1 h2 => ?_, hd⟩
  · rcases h.2 with h0 | ⟨g, cap, cur, hv, hB, hg, rest⟩
    · exact .inl h0
    · exact .inr ⟨g, cap, cur, hv, hB, (hk g hB (blk_lt hg)).trans hg, rest⟩
  · obtain ⟨q1, q2⟩ := hr j l x h1 h2
    refine ⟨q1, ?_⟩
    rcases q2 with h0 | ⟨g, cap, cur, hv, hB, hg, rest⟩
    · exact .inl h0
    · exact .inr ⟨g, cap, cur, hv, hB, (hk g hB (blk_lt hg)).trans hg, rest⟩
theorem OutR.below (h : OutR w B v ls) (hb : Below w.heap.size w w') : OutR w' B v ls := h.keep fun k _ hk => hb.block k hk
theorem OutR.more (h : OutR w B v ls) (hB : B' ≤ B) : OutR w B' v ls := by
  obtain ⟨vs, h0, h, hr, hd⟩ := h
  exact ⟨vs, h0, World.ownsRow.mono h hB, fun j l x h1 h2 => (hr j l x h1 h2).more hB, hd⟩
theorem OutR.lt (h : OutR w B v ls) : ∀ k, v.ownBlock = some k → B ≤ k ∧ k < w.heap.size := by
  obtain ⟨vs, _, h, _⟩ := h
  exact World.ownsRow.lt h
/-- one row of it -/
theorem OutR.at_ {A : Option Addr} {n c : Nat} (h : OutR w B (.slice A n c) ls) (k : Nat) (hk : k < ls.length) :
    ∃ g o x, A = some ⟨g, o, none⟩ ∧ B ≤ g ∧ g < w.heap.size ∧ w.cell? ⟨g, o + k, none⟩ = some x ∧ w.frozen? ⟨g, o + k, none⟩ = false ∧ Own w B x ls[k] := by
  obtain ⟨vs, hl, h, hr, _⟩ := h
  rcases h.2 with ⟨_, h0⟩ | ⟨g, cap, cur, hv, hB, hg, hn, hm, hs, ht⟩
  · omega
  · injection hv with h1 h2 h3
    subst h1; subst h3
    have hkd : k < vs.length := by omega
    refine ⟨g, 0, vs[k], rfl, hB, blk_lt hg, ?_, blk_free hg _, hr k _ _ (List.getElem?_eq_getElem hk) (List.getElem?_eq_getElem hkd)⟩
    have hv : vs[k]? = some vs[k] := List.getElem?_eq_getElem hkd
    rw [Nat.zero_add, cell_of_row w g k cur _ (0, 0) hg, ← hv]
    rw [← ht, List.getElem?_take]
    split
    · simp
    · omega
theorem OutR.own_below (h : OutR w B v ls) {w0 : World} (h0 : Below B w0 w) (hB : B ≤ w.heap.size) (hg : w.grownBy w' v.ownBlock) : Below B w0 w' := h0.grown hg hB fun k hk => (h.lt k hk).1

/-- one row more -/
theorem OutR.push {w0 : World} (h00 : OutR w0 B v ls) (hb0 : Below w0.heap.size w0 w) (hB0 : B ≤ w0.heap.size) {P : Program} (t ty : TypeId) (i : TypeInfo) (ht : P.underlying t = some (.slice 40)) (hi : P.info? 40 = some i)
    (hz : i.zero = some (.slice none 0 0)) (hsize : i.size = 1) (hby : i.bytes = 24) {x : Value} {l : List UInt8} (hx : Own w w0.heap.size x l) {b o c : Nat} (hcell : w.cell? ⟨b, o, none⟩ = some x) (hlen : ls.length ≤ 1000000000) :
    ∃ v' w', (Builtin.append_ #[t, t] ty #[v, .slice (some ⟨b, o, none⟩) 1 c]).run P w = .ok v' w' ∧ OutR w' B v' (ls ++ [l]) ∧ w.grownBy w' v.ownBlock := by
  have hB : B ≤ w.heap.size := Nat.le_trans hB0 hb0.size
  have hold : ∀ vs : List Value, vs.length = ls.length → (∀ (j : Nat) (l : List UInt8) (x : Value), ls[j]? = some l → vs[j]? = some x → Own w0 B x l) → ∀ (j : Nat) (y : Value) (k : Nat), vs[j]? = some y → y.ownBlock = some k → k < w0.heap.size := fun vs hl hr j y k hj hk => by
    have hjl := (List.getElem?_eq_some_iff.1 hj).1
    exact ((hr j (ls[j]'(by omega)) y (List.getElem?_eq_getElem (by omega)) hj).lt k hk).2
  obtain ⟨vs, hl, hown0, hr0, hd⟩ := h00
  have hlt := hold vs hl hr0
  have hown : w.ownsRow B 40 1 v ls.length vs := by
    refine ⟨hown0.1, ?_⟩
    rcases hown0.2 with h0 | ⟨g, cap, cur, hv, hB, hg, rest⟩
    · exact .inl h0
    · exact .inr ⟨g, cap, cur, hv, hB, (hb0.block g (blk_lt hg)).trans hg, rest⟩
  have hr : ∀ (j : Nat) (l : List UInt8) (x : Value), ls[j]? = some l → vs[j]? = some x → Own w B x l := fun j l x h1 h2 => (hr0 j l x h1 h2).below hb0
  have hone : x.oneCell' = true := by obtain ⟨A, c, rfl⟩ := hx.form; rfl
  obtain ⟨v', w', hrun, ho2, hgr, _, hat⟩ := run_append_own_at (P := P) w B t ty 40 i (.slice none 0 0) 1 24 ht hi hz hsize hby rfl (by omega) v ls.length vs hown ⟨b, o, none⟩ 1 c [x]
    rfl
    (fun j u hj => by
      rcases j with _ | j
      · simp only [List.getElem?_cons_zero, Option.some.injEq] at hj
        subst hj
        rw [← hcell]
        unfold Addr.add; split <;> simp_all
      · simp at hj)
    (fun u hu => by simp only [List.mem_cons, List.not_mem_nil, or_false] at hu; subst hu; exact hone) (by simp only [maxLen]; omega) (by omega) hB
  have hne : ∀ y l, Own w B y l → Own w' B y l := fun y l hy => hy.grown hgr (by
    by_cases e : y.ownBlock = none
    · exact .inl e
    · refine .inr fun e2 => ?_
      rcases hy.2 with ⟨rfl, _⟩ | ⟨g, cap, cur, rfl, _, hg, _⟩
      · exact e rfl
      · rcases hown.2 with ⟨rfl, _⟩ | ⟨g2, cap2, cur2, rfl, _, hg2, _⟩
        · simp [Value.ownBlock] at e2
        · simp only [Value.ownBlock, Option.some.injEq] at e2
          subst e2
          rw [hg] at hg2
          injection hg2 with hg2
          injection hg2 with _ hg2 _
          exact absurd hg2 (by decide))
  refine ⟨v', w', hrun, ⟨vs ++ [x], by simp [hl], by rw [List.length_append]; exact ho2, fun j f y h1 h2 => ?_, fun i j y z k h1 h2 h3 h4 => ?_⟩, hgr⟩
  rotate_left
  · have hcase : ∀ i y, (vs ++ [x])[i]? = some y → (i < vs.length ∧ vs[i]? = some y) ∨ (i = vs.length ∧ y = x) := fun i y h => by
      by_cases e : i < vs.length
      · rw [List.getElem?_append_left e] at h; exact .inl ⟨e, h⟩
      · have hi := (List.getElem?_eq_some_iff.1 h).1
        simp at hi
        obtain rfl : i = vs.length := by omega
        simp at h
        exact .inr ⟨rfl, h.symm⟩
    rcases hcase i y h1 with ⟨_, f1⟩ | ⟨e1, e2⟩ <;> rcases hcase j z h2 with ⟨_, f2⟩ | ⟨e3, e4⟩
    · exact hd i j y z k f1 f2 h3 h4
    · rw [e4] at h4; have := hlt i y k f1 h3; have := (hx.lt k h4).1; omega
    · rw [e2] at h3; have := hlt j z k f2 h4; have := (hx.lt k h3).1; omega
    · omega
  by_cases e : j < ls.length
  · rw [List.getElem?_append_left e] at h1
    rw [List.getElem?_append_left (by omega)] at h2
    exact hne _ _ (hr j f y h1 h2)
  · have hj : j = ls.length := by
      have := (List.getElem?_eq_some_iff.1 h1).1
      simp at this; omega
    subst hj
    rw [List.getElem?_append_right (by omega)] at h1
    rw [List.getElem?_append_right (by omega), hl] at h2
    simp at h1 h2
    subst h1; subst h2
    exact hne _ _ (hx.more hB0)
variable {P : Program}
theorem wpList_append_out {ops : Array Oper} {rest : List Oper} {o : Oper} {a : Act} {Q : Exit → Act → World → Prop} (hgd : o.guard = none) (sv sx : Operand) (t : TypeId)
    (ho : o.op = .call { callee := .builtin .append, args := #[sv, sx], argTypes := #[t, t] })
    (i : TypeInfo) (ht : P.underlying t = some (.slice 40)) (hi : P.info? 40 = some i)
    (hz : i.zero = some (.slice none 0 0)) (hsize : i.size = 1) (hby : i.bytes = 24)
    {w0 : World} (hs : a.eval sv = v) (hown : OutR w0 B v ls) (hb0 : Below w0.heap.size w0 w) (hB0 : B ≤ w0.heap.size) {b off c : Nat} {x : Value} {l : List UInt8} (hxe : a.eval sx = .slice (some ⟨b, off, none⟩) 1 c) (hcell : w.cell? ⟨b, off, none⟩ = some x) (hx : Own w w0.heap.size x l) (hlen : ls.length ≤ 1000000000)
    (h : ∀ v' w', OutR w' B v' (ls ++ [l]) → w.grownBy w' v.ownBlock → wpList P ops Q rest (a.put o.dst v') w') : wpList P ops Q (o :: rest) a w := by
  refine wpList_plain hgd fun K hK => ?_
  obtain ⟨v', w', hrun, h2, h3⟩ := hown.push hb0 hB0 (P := P) t o.type i ht hi hz hsize hby hx (c := c) hcell hlen
  unfold Oper.wp execOp
  simp only [ho, resolve, invoke, builtin, Sem.run_bind, Sem.run_pure, Result.andThen_ok, List.map_toArray, List.map_cons, List.map_nil, hs, hxe, hrun]
  exact hK _ _ (h v' w' h2 h3)
end
end Go.Proofs.Ytbbpkenbeenocaa
