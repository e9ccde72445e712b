
/- A round of NodeKeeps: the program's node, the records that were put, the one under way, what is below. -/
import Derived.Test.YtbbpkenbeenocaaNodeTA
import Derived.Test.YtbbpkenbeenocaaNodeK
namespace Go.Proofs.Ytbbpkenbeenocaa
set_option maxRecDepth 100000
open Go Go.RowKit
set_option linter.unusedVariables false
section
variable {w w' : World} {B B' : Nat} {R S : Nat → Prop} {v : Value} {ls : List (List UInt8)}
/-- a row of rows whose blocks R names -/
def OutIn (w : World) (B : Nat) (R : Nat → Prop) (v : Value) (ls : List (List UInt8)) : Prop :=
  ∃ vs : List Value, vs.length = ls.length ∧ w.ownsRow B 40 1 v ls.length vs ∧ (∀ (j : Nat) (l : List UInt8) (x : Value), ls[j]? = some l → vs[j]? = some x → Own w B x l) ∧
    (∀ (i j : Nat) (x y : Value) (k : Nat), vs[i]? = some x → vs[j]? = some y → x.ownBlock = some k → y.ownBlock = some k → i = j) ∧
    (∀ k, v.ownBlock = some k → R k) ∧ ∀ (j : Nat) (x : Value) (k : Nat), vs[j]? = some x → x.ownBlock = some k → R k
theorem OutIn.out (h : OutIn w B R v ls) : OutR w B v ls := by
  obtain ⟨vs, h1, h2, h3, h4, _⟩ := h
  exact ⟨vs, h1, h2, h3, h4⟩
theorem OutIn.nil (w : World) (B : Nat) (R : Nat → Prop) : OutIn w B R (.slice none 0 0) [] := ⟨[], rfl, World.ownsRow_nil w B _ 1, by simp, by simp, by simp [Value.ownBlock], by simp⟩
theorem OutIn.keep (h : OutIn w B R v ls) (hk : ∀ k, k < w.heap.size → R k → w'.heap[k]? = w.heap[k]?) : OutIn w' B R v ls := by
  obtain ⟨vs, h0, h, hr, hd, hv, hx⟩ := h
  refine ⟨vs, h0, ⟨h.1, ?_⟩, fun j l x h1 h2 => ?_, hd, hv, hx⟩
  · rcases h.2 with h0 | ⟨g, cap, cur, e, hB, hg, rest⟩
    · exact .inl h0
    · exact .inr ⟨g, cap, cur, e, hB, (hk g (blk_lt hg) (hv g (by rw [e]; rfl))).trans hg, rest⟩
  · obtain ⟨q1, q2⟩ := hr j l x h1 h2
    refine ⟨q1, ?_⟩
    rcases q2 with h0 | ⟨g, cap, cur, e, hB, hg, rest⟩
    · exact .inl h0
    · exact .inr ⟨g, cap, cur, e, hB, (hk g (blk_lt hg) (hx j x g h2 (by rw [e]; rfl))).trans hg, rest⟩
theorem OutIn.chg (h : OutIn w B R v ls) (hc : Chg w w' S) (hn : ∀ k, S k → ¬ R k) : OutIn w' B R v ls := h.keep fun k hk hR => hc.block k hk fun hS => hn k hS hR
theorem OutIn.mono (h : OutIn w B R v ls) (hR : ∀ k, R k → S k) : OutIn w B S v ls := by
  obtain ⟨vs, h0, h, hr, hd, hv, hx⟩ := h
  exact ⟨vs, h0, h, hr, hd, fun k hk => hR k (hv k hk), fun j x k h1 h2 => hR k (hx j x k h1 h2)⟩
theorem OutIn.more (h : OutIn w B R v ls) (hB : B' ≤ B) : OutIn w B' R v ls := by
  obtain ⟨vs, h0, h, hr, hd, hv, hx⟩ := h
  exact ⟨vs, h0, World.ownsRow.mono h hB, fun j l x h1 h2 => (hr j l x h1 h2).more hB, hd, hv, hx⟩
/-- a row that was handed out, beside a block of another type -/
theorem OutR.in_ (h : OutR w B v ls) {nd : Nat} {cs : Array Value} {T : TypeId} {q : Nat × Nat} (hn : w.heap[nd]? = some (.cells cs T q)) (h1 : T ≠ 5) (h2 : T ≠ 40) : OutIn w B (fun k => B ≤ k ∧ k < w.heap.size ∧ k ≠ nd) v ls := by
  have hne : ∀ {T' : TypeId} {x : Value} {n : Nat} {cs' : List Value}, w.ownsRow B T' 1 x n cs' → T ≠ T' → ∀ k, x.ownBlock = some k → k ≠ nd := fun ho hT k hk e => by
    subst e
    rcases ho.2 with ⟨rfl, _⟩ | ⟨g, cap, cur, rfl, _, hg, _⟩
    · simp [Value.ownBlock] at hk
    · simp only [Value.ownBlock, Option.some.injEq] at hk
      subst hk
      rw [hn] at hg
      injection hg with hg
      injection hg with _ hg _
      exact hT hg
  obtain ⟨vs, h0, h, hr, hd⟩ := h
  have hrow : ∀ (j : Nat) (x : Value), vs[j]? = some x → ∃ l, Own w B x l := fun j x hj => by
    have hjl := (List.getElem?_eq_some_iff.1 hj).1
    exact ⟨_, hr j (ls[j]'(by omega)) x (List.getElem?_eq_getElem (by omega)) hj⟩
  refine ⟨vs, h0, h, hr, hd, fun k hk => ⟨(World.ownsRow.lt h k hk).1, (World.ownsRow.lt h k hk).2, hne h h2 k hk⟩, fun j x k hj hk => ?_⟩
  obtain ⟨l, ho⟩ := hrow j x hj
  exact ⟨(ho.lt k hk).1, (ho.lt k hk).2, hne ho h1 k hk⟩
/-- one row more -/
theorem OutIn.push {w0 : World} (h00 : OutIn w0 B R v ls) (hb0 : Below w0.heap.size w0 w) (hB0 : B ≤ w0.heap.size) {P : Program} (t ty : TypeId) (i : TypeInfo) (ht : P.underlying t = some (.slice 40)) (hi : P.info? 40 = some i)
    (hz : i.zero = some (.slice none 0 0)) (hsize : i.size = 1) (hby : i.bytes = 24) {x : Value} {l : List UInt8} (hx : Own w w0.heap.size x l) {b o c : Nat} (hcell : w.cell? ⟨b, o, none⟩ = some x) (hlen : ls.length ≤ 1000000000) :
    ∃ v' w', (Builtin.append_ #[t, t] ty #[v, .slice (some ⟨b, o, none⟩) 1 c]).run P w = .ok v' w' ∧ OutIn w' B (Ext R w0 w') v' (ls ++ [l]) ∧ w.grownBy w' v.ownBlock := by
  have hB : B ≤ w.heap.size := Nat.le_trans hB0 hb0.size
  have hold : ∀ vs : List Value, vs.length = ls.length → (∀ (j : Nat) (l : List UInt8) (x : Value), ls[j]? = some l → vs[j]? = some x → Own w0 B x l) → ∀ (j : Nat) (y : Value) (k : Nat), vs[j]? = some y → y.ownBlock = some k → k < w0.heap.size := fun vs hl hr j y k hj hk => by
    have hjl := (List.getElem?_eq_some_iff.1 hj).1
    exact ((hr j (ls[j]'(by omega)) y (List.getElem?_eq_getElem (by omega)) hj).lt k hk).2
  obtain ⟨vs, hl, hown0, hr0, hd, hvR, hxR⟩ := h00
  have hlt := hold vs hl hr0
  have hown : w.ownsRow B 40 1 v ls.length vs := by
    refine ⟨hown0.1, ?_⟩
    rcases hown0.2 with h0 | ⟨g, cap, cur, hv, hB, hg, rest⟩
    · exact .inl h0
    · exact .inr ⟨g, cap, cur, hv, hB, (hb0.block g (blk_lt hg)).trans hg, rest⟩
  have hr : ∀ (j : Nat) (l : List UInt8) (x : Value), ls[j]? = some l → vs[j]? = some x → Own w B x l := fun j l x h1 h2 => (hr0 j l x h1 h2).below hb0
  have hone : x.oneCell' = true := by obtain ⟨A, c, rfl⟩ := hx.form; rfl
  obtain ⟨v', w', hrun, ho2, hgr, _, hat⟩ := run_append_own_at (P := P) w B t ty 40 i (.slice none 0 0) 1 24 ht hi hz hsize hby rfl (by omega) v ls.length vs hown ⟨b, o, none⟩ 1 c [x]
    rfl
    (fun j u hj => by
      rcases j with _ | j
      · simp only [List.getElem?_cons_zero, Option.some.injEq] at hj
        subst hj
        rw [← hcell]
        unfold Addr.add; split <;> simp_all
      · simp at hj)
    (fun u hu => by simp only [List.mem_cons, List.not_mem_nil, or_false] at hu; subst hu; exact hone) (by simp only [maxLen]; omega) (by omega) hB
  have hne : ∀ y l, Own w B y l → Own w' B y l := fun y l hy => hy.grown hgr (by
    by_cases e : y.ownBlock = none
    · exact .inl e
    · refine .inr fun e2 => ?_
      rcases hy.2 with ⟨rfl, _⟩ | ⟨g, cap, cur, rfl, _, hg, _⟩
      · exact e rfl
      · rcases hown.2 with ⟨rfl, _⟩ | ⟨g2, cap2, cur2, rfl, _, hg2, _⟩
        · simp [Value.ownBlock] at e2
        · simp only [Value.ownBlock, Option.some.injEq] at e2
          subst e2
          rw [hg] at hg2
          injection hg2 with hg2
          injection hg2 with _ hg2 _
          exact absurd hg2 (by decide))
  have hcase : ∀ i y, (vs ++ [x])[i]? = some y → (i < vs.length ∧ vs[i]? = some y) ∨ (i = vs.length ∧ y = x) := fun i y h => by
    by_cases e : i < vs.length
    · rw [List.getElem?_append_left e] at h; exact .inl ⟨e, h⟩
    · have hi := (List.getElem?_eq_some_iff.1 h).1
      simp at hi
      obtain rfl : i = vs.length := by omega
      simp at h
      exact .inr ⟨rfl, h.symm⟩
  refine ⟨v', w', hrun, ⟨vs ++ [x], by simp [hl], by rw [List.length_append]; exact ho2, fun j f y h1 h2 => ?_, fun i j y z k h1 h2 h3 h4 => ?_, fun k hk => ?_, fun j y k hj hk => ?_⟩, hgr⟩
  · by_cases e : j < ls.length
    · rw [List.getElem?_append_left e] at h1
      rw [List.getElem?_append_left (by omega)] at h2
      exact hne _ _ (hr j f y h1 h2)
    · have hj : j = ls.length := by
        have := (List.getElem?_eq_some_iff.1 h1).1
        simp at this; omega
      subst hj
      rw [List.getElem?_append_right (by omega)] at h1
      rw [List.getElem?_append_right (by omega), hl] at h2
      simp at h1 h2
      subst h1; subst h2
      exact hne _ _ (hx.more hB0)
  · rcases hcase i y h1 with ⟨_, f1⟩ | ⟨e1, e2⟩ <;> rcases hcase j z h2 with ⟨_, f2⟩ | ⟨e3, e4⟩
    · exact hd i j y z k f1 f2 h3 h4
    · rw [e4] at h4; have := hlt i y k f1 h3; have := (hx.lt k h4).1; omega
    · rw [e2] at h3; have := hlt j z k f2 h4; have := (hx.lt k h3).1; omega
    · omega
  · rcases hat with e | e
    · exact .inl (hvR k (e ▸ hk))
    · rw [e] at hk; injection hk with hk; subst hk
      exact .inr ⟨hb0.size, (World.ownsRow.lt ho2 _ e).2⟩
  · rcases hcase j y hj with ⟨_, f⟩ | ⟨_, e⟩
    · exact .inl (hxR j y k f hk)
    · rw [e] at hk
      exact .inr ⟨(hx.lt k hk).1, Nat.lt_of_lt_of_le (hx.lt k hk).2 hgr.size⟩
variable {P : Program}
theorem wpList_append_in {ops : Array Oper} {rest : List Oper} {o : Oper} {a : Act} {Q : Exit → Act → World → Prop} (hgd : o.guard = none) (sv sx : Operand) (t : TypeId)
    (ho : o.op = .call { callee := .builtin .append, args := #[sv, sx], argTypes := #[t, t] })
    (i : TypeInfo) (ht : P.underlying t = some (.slice 40)) (hi : P.info? 40 = some i)
    (hz : i.zero = some (.slice none 0 0)) (hsize : i.size = 1) (hby : i.bytes = 24)
    {w0 : World} (hs : a.eval sv = v) (hown : OutIn w0 B R v ls) (hb0 : Below w0.heap.size w0 w) (hB0 : B ≤ w0.heap.size) {b off c : Nat} {x : Value} {l : List UInt8} (hxe : a.eval sx = .slice (some ⟨b, off, none⟩) 1 c) (hcell : w.cell? ⟨b, off, none⟩ = some x) (hx : Own w w0.heap.size x l) (hlen : ls.length ≤ 1000000000)
    (h : ∀ v' w', OutIn w' B (Ext R w0 w') v' (ls ++ [l]) → w.grownBy w' v.ownBlock → wpList P ops Q rest (a.put o.dst v') w') : wpList P ops Q (o :: rest) a w := by
  refine wpList_plain hgd fun K hK => ?_
  obtain ⟨v', w', hrun, h2, h3⟩ := hown.push hb0 hB0 (P := P) t o.type i ht hi hz hsize hby hx (c := c) hcell hlen
  unfold Oper.wp execOp
  simp only [ho, resolve, invoke, builtin, Sem.run_bind, Sem.run_pure, Result.andThen_ok, List.map_toArray, List.map_cons, List.map_nil, hs, hxe, hrun]
  exact hK _ _ (h v' w' h2 h3)
end

/-- the node's state against the records -/
def KeepN (m : DM) (sure : List (List UInt8)) (under : Bool) (may : List UInt8) : Option (Nat × Bool) → Prop
  | some (c, false) => m.off = false ∧ Clean m.files sure ∧ c = sure.length
  | _ => Pend1 m.files sure ∨ (under = true ∧ Pend2 m.files sure may)
theorem KeepN.pend {m : DM} {sure : List (List UInt8)} {under : Bool} {may : List UInt8} {st : Option (Nat × Bool)} (h : KeepN m sure under may st) : Pend1 m.files sure ∨ (under = true ∧ Pend2 m.files sure may) := by
  match st, h with
  | some (c, false), h => exact .inl h.2.1.pend
  | some (c, true), h => exact h
  | none, h => exact h
theorem KeepN.arm {m : DM} {sure : List (List UInt8)} {under : Bool} {may : List UInt8} {st : Option (Nat × Bool)} (h : KeepN m sure under may st) (n : Int) : KeepN (armM m n) sure under may st := by
  have hf : (armM m n).files = m.files := by unfold armM; split <;> rfl
  match st, h with
  | some (c, false), h =>
    have ho : (armM m n).off = m.off := by unfold armM; split <;> rfl
    exact ⟨ho.trans h.1, by rw [hf]; exact h.2.1, h.2.2⟩
  | some (c, true), h => show Pend1 _ _ ∨ _; rw [hf]; exact h
  | none, h => show Pend1 _ _ ∨ _; rw [hf]; exact h
theorem KeepN.crash {m : DM} {sure : List (List UInt8)} {under : Bool} {may : List UInt8} {st : Option (Nat × Bool)} (h : KeepN m sure under may st) (ks : List Bool) : KeepN ⟨asNew (crashM m.files ks), false, 0⟩ sure under may none := by
  rcases h.pend with h | ⟨h1, h⟩
  · exact .inl (crash_pend1 h ks)
  · exact (crash_pend2 h ks).imp id fun h => ⟨h1, h⟩

/-- what holds at the head of the loop, at a world -/
structure HeadK (w W : World) (B : Nat) (S R : Nat → Prop) (d : Nat) (m : DM) (nv : Value) (st : Option (Nat × Bool)) (sv : Value) (sure : List (List UInt8)) (mv : Value) (may : List UInt8) : Prop where
  one : LSide W S d m nv st
  sure : OutIn W B R sv sure
  may : Own W B mv may ∧ ∀ k, mv.ownBlock = some k → R k
  apart : ∀ k, S k → ¬ R k
  ltR : ∀ k, R k → k < W.heap.size
  fromS : ∀ k, S k → B ≤ k
  fromR : ∀ k, R k → B ≤ k
  size : B ≤ W.heap.size
  below : Below B w W
structure RoundK (w W : World) (B gb : Nat) (box : Array Value) (S R : Nat → Prop) (d : Nat) (m : DM) (nv : Value) (st : Option (Nat × Bool)) (sv : Value) (sure : List (List UInt8)) (mv : Value) (may : List UInt8) : Prop where
  head : HeadK w W B S R d m nv st sv sure mv may
  box : W.heap[gb]? = some (.cells box 43 (0, 0))
  notS : ¬ S gb
  notR : ¬ R gb
section
variable {w W W' : World} {B gb : Nat} {box : Array Value} {S R S' : Nat → Prop} {d d' : Nat} {m m' : DM} {nv nv' sv mv : Value} {st st' : Option (Nat × Bool)} {sure : List (List UInt8)} {may : List UInt8}
theorem Own.keepR {v : Value} {l : List UInt8} (h : Own W B v l) (hv : ∀ k, v.ownBlock = some k → R k) (hk : ∀ k, k < W.heap.size → R k → W'.heap[k]? = W.heap[k]?) : Own W' B v l := by
  refine ⟨h.1, ?_⟩
  rcases h.2 with h0 | ⟨g, cap, cur, e, hB, hg, rest⟩
  · exact .inl h0
  · exact .inr ⟨g, cap, cur, e, hB, (hk g (blk_lt hg) (hv g (by rw [e]; rfl))).trans hg, rest⟩
/-- what the program's side turns -/
theorem HeadK.turn (h : HeadK w W B S R d m nv st sv sure mv may) (hc : Chg W W' S) (hS : ∀ k, S' k → S k ∨ W.heap.size ≤ k) (h1 : LSide W' S' d' m' nv' st') : HeadK w W' B S' R d' m' nv' st' sv sure mv may :=
  ⟨h1, h.sure.chg hc h.apart, ⟨h.may.1.keepR h.may.2 fun k hk hR => hc.block k hk fun hS => h.apart k hS hR, h.may.2⟩,
    fun k hk hR => (hS k hk).elim (fun hs => h.apart k hs hR) fun hs => by have := h.ltR k hR; omega, fun k hk => Nat.lt_of_lt_of_le (h.ltR k hk) hc.size,
    fun k hk => (hS k hk).elim (h.fromS k) fun hs => Nat.le_trans h.size hs, h.fromR, Nat.le_trans h.size hc.size, h.below.trans (hc.below h.fromS h.size)⟩
theorem RoundK.turn (h : RoundK w W B gb box S R d m nv st sv sure mv may) (hc : Chg W W' S) (hS : ∀ k, S' k → S k ∨ W.heap.size ≤ k) (h1 : LSide W' S' d' m' nv' st') : RoundK w W' B gb box S' R d' m' nv' st' sv sure mv may :=
  ⟨h.head.turn hc hS h1, (hc.block gb (blk_lt h.box) h.notS).trans h.box, fun hk => (hS gb hk).elim h.notS fun hs => by have := blk_lt h.box; omega, h.notR⟩
theorem RoundK.next (h : RoundK w W B gb box S R d m nv st sv sure mv may) (hb : Below W.heap.size W W') : RoundK w W' B gb box S R d m nv st sv sure mv may :=
  h.turn (Chg.of_below hb S) (fun k => .inl) (h.head.one.keep (G := fun _ => False) (Chg.of_below hb _) fun _ _ => id)
theorem RoundK.cell (h : RoundK w W B gb box S R d m nv st sv sure mv may) (i : Nat) : W.cell? ⟨gb, i, none⟩ = box[i]? := blk_cell h.box i
theorem OutIn.other {v y : Value} {ls : List (List UInt8)} {l : List UInt8} {B' : Nat} (h : OutIn W B R v ls) (hy : Own W B' y l) : y.ownBlock = none ∨ y.ownBlock ≠ v.ownBlock := by
  obtain ⟨vs, _, hown, _⟩ := h
  by_cases e : y.ownBlock = none
  · exact .inl e
  · refine .inr fun e2 => ?_
    rcases hy.2 with ⟨rfl, _⟩ | ⟨g, cap, cur, rfl, _, hg, _⟩
    · exact e rfl
    · rcases hown.2 with ⟨rfl, _⟩ | ⟨g2, cap2, cur2, rfl, _, hg2, _⟩
      · simp [Value.ownBlock] at e2
      · simp only [Value.ownBlock, Option.some.injEq] at e2
        subst e2
        rw [hg] at hg2
        injection hg2 with hg2
        injection hg2 with _ hg2 _
        exact absurd hg2 (by decide)
theorem OutIn.inR {v : Value} {ls : List (List UInt8)} (h : OutIn W B R v ls) : ∀ k, v.ownBlock = some k → R k := by obtain ⟨_, _, _, _, _, h, _⟩ := h; exact h
variable {W1 W2 : World} {sv' mv' : Value} {sure' : List (List UInt8)} {may' : List UInt8} {RI : Nat → Prop}
/-- a record more among those that were put -/
theorem HeadK.push (h : HeadK w W B S R d m nv st sv sure mv may) (hb : Below W.heap.size W W1) (hg : W1.grownBy W2 sv.ownBlock) (hs : OutIn W2 B (Ext R W W2) sv' sure') : HeadK w W2 B S (Ext R W W2) d m nv st sv' sure' mv may := by
  have hcR : Chg W W2 R := (Chg.of_below hb R).trans' (Chg.of_grown hg h.sure.inR)
  have hs1 : OutIn W1 B R sv sure := h.sure.chg (Chg.of_below hb fun _ => False) fun _ h => h.elim
  have hm1 : Own W1 B mv may := h.may.1.below hb
  exact ⟨h.one.keep hcR h.apart, hs, ⟨hm1.grown hg (hs1.other hm1), fun k hk => .inl (h.may.2 k hk)⟩, fun k hk hR => hR.elim (h.apart k hk) fun hR => by have := h.one.lt k hk; omega,
    Ext.lt h.ltR hcR.size, h.fromS, Ext.ge h.fromR h.size, Nat.le_trans h.size hcR.size, h.below.trans (hcR.below h.fromR h.size)⟩
/-- another record under way -/
theorem HeadK.turnMay (h : HeadK w W B S R d m nv st sv sure mv may) (hb : Below W.heap.size W W2) (ho : Own W2 W.heap.size mv' may') : HeadK w W2 B S (Ext R W W2) d m nv st sv sure mv' may' := by
  have hc : Chg W W2 (fun _ => False) := Chg.of_below hb _
  exact ⟨h.one.keep hc fun _ _ => id, (h.sure.chg hc fun _ h => h.elim).mono fun k => .inl, ⟨ho.more h.size, fun k hk => .inr (ho.lt k hk)⟩, fun k hk hR => hR.elim (h.apart k hk) fun hR => by have := h.one.lt k hk; omega,
    Ext.lt h.ltR hb.size, h.fromS, Ext.ge h.fromR h.size, Nat.le_trans h.size hb.size, h.below.trans (hb.mono h.size)⟩
/-- the records that were found in the place of those that were put -/
theorem HeadK.swap (h : HeadK w W B S R d m nv st sv sure mv may) (hs : OutIn W B RI sv' sure') (h1 : ∀ k, S k → ¬ RI k) (h2 : ∀ k, RI k → k < W.heap.size) (h3 : ∀ k, RI k → B ≤ k) : HeadK w W B S (fun k => R k ∨ RI k) d m nv st sv' sure' mv may :=
  ⟨h.one, hs.mono fun k => .inr, ⟨h.may.1, fun k hk => .inl (h.may.2 k hk)⟩, fun k hk hR => hR.elim (h.apart k hk) (h1 k hk), fun k hR => hR.elim (h.ltR k) (h2 k), h.fromS, fun k hR => hR.elim (h.fromR k) (h3 k), h.size, h.below⟩
end
end Go.Proofs.Ytbbpkenbeenocaa
