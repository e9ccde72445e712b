/- Rows of whole numbers, of the call's own: appended to, written. -/
import Derived.Test.YthiacmpkbioahaaDoorInfo
import Derived.Deep.Onto
namespace Go.Proofs.YthiacmpkbioahaaDoor
open Go Go.RowKit

def intV (d : Nat) : Value := .int .i64 (d : Int)
def dcells (p : List Nat) : List Value := p.map intV
theorem Tryd.infoInt : (Tryd.prog.info? 3).map (fun i => (i.zero, i.size, i.bytes)) = some (some (.int .i64 0), 1, 8) := by kernel_rfl

section
variable {w w' : World} {B B' b k : Nat} {t : TypeId} {v : Value} {D : List Nat}
/-- a row of numbers, of the call's own from B on -/
def OwnI (w : World) (B : Nat) (v : Value) (D : List Nat) : Prop := w.ownsRow B 3 1 v D.length (dcells D)
theorem OwnI.form (h : OwnI w B v D) : ∃ A c, v = .slice A D.length c := by
  rcases h.2 with ⟨rfl, h0⟩ | ⟨g, cap, cur, rfl, _⟩
  · exact ⟨none, 0, by rw [h0]⟩
  · exact ⟨_, _, rfl⟩
theorem OwnI.nil (w : World) (B : Nat) : OwnI w B (.slice none 0 0) [] := World.ownsRow_nil w B _ 1
theorem OwnI.more (h : OwnI w B v D) (hB : B' ≤ B) : OwnI w B' v D := World.ownsRow.mono h hB
theorem OwnI.up (h : OwnI w B v D) (hb : Below w.heap.size w w') : OwnI w' B v D := by
  refine ⟨h.1, ?_⟩
  rcases h.2 with h0 | ⟨g, cap, cur, hv, hB, hg, rest⟩
  · exact .inl h0
  · exact .inr ⟨g, cap, cur, hv, hB, (hb.block g (Array.getElem?_eq_some_iff.1 hg).1).trans hg, rest⟩
theorem OwnI.at_ {A : Option Addr} {n c : Nat} (h : OwnI w B (.slice A n c) D) (j : Nat) (hj : j < D.length) : ∃ g, A = some ⟨g, 0, none⟩ ∧ n = D.length ∧ g < w.heap.size ∧ w.cell? ⟨g, j, none⟩ = some (.int .i64 (D.getD j 0 : Int)) := by
  rcases h.2 with ⟨_, h0⟩ | ⟨g, cap, cur, hv, hb, hg, hn, hm, hs, ht⟩
  · omega
  · injection hv with h1 h2 h3
    subst h1; subst h2; subst h3
    refine ⟨g, rfl, rfl, (Array.getElem?_eq_some_iff.1 hg).1, ?_⟩
    have hx : (dcells D)[j]? = some (.int .i64 (D.getD j 0 : Int)) := by simp [dcells, intV, hj, List.getD_eq_getElem?_getD]
    rw [cell_of_row w g _ cur _ (0, 0) hg]
    rw [← ht, List.getElem?_take] at hx
    split at hx
    · simpa using hx
    · cases hx
/-- a number of it is written -/
theorem OwnI.put {A : Option Addr} {n c k : Nat} (h : OwnI w B (.slice A n c) D) (hk : k < D.length) :
    ∃ g, A = some ⟨g, 0, none⟩ ∧ B ≤ g ∧ g < w.heap.size ∧ w.cell? ⟨g, k, none⟩ = some (.int .i64 (D.getD k 0 : Int)) ∧ w.frozen? ⟨g, k, none⟩ = false ∧
      ∀ x : Nat, OwnI (w.setCell ⟨g, k, none⟩ (.int .i64 (x : Int))) B (.slice A n c) (D.set k x) := by
  obtain ⟨g, rfl, hn, hlt, hcell⟩ := h.at_ k hk
  have hlt2 := World.ownsRow.lt h g rfl
  subst hn
  refine ⟨g, rfl, hlt2.1, hlt, hcell, World.ownsRow.frozenAt (h : w.ownsRow B _ 1 _ _ _) k, fun x => ?_⟩
  have h2 := World.ownsRow.stored (h : w.ownsRow B _ 1 _ _ _) k (.int .i64 (x : Int))
  unfold OwnI
  rw [List.length_set]
  have e : dcells (D.set k x) = (dcells D).set k (.int .i64 (x : Int)) := by simp [dcells, List.map_set, intV]
  rw [e]
  exact h2.1
theorem OwnI.grown (h : OwnI w B v D) {row : Option Nat} (hg : w.grownBy w' row) (hne : v.ownBlock = none ∨ v.ownBlock ≠ row) : OwnI w' B v D := World.ownsRow.kept h hg hne
theorem OwnI.drew (h : OwnI w B v D) : OwnI w.drew B v D := h
theorem OwnI.drewN (h : OwnI w B v D) (q : Nat) : OwnI (w.drewN q) B v D := h
theorem OwnI.alloc (h : OwnI w B v D) (o : Obj) : OwnI (w.alloc o) B v D := World.ownsRow.alloc h o
theorem grown_setI (w : World) (g i : Nat) (u : Value) : w.grownBy (w.setCell ⟨g, i, none⟩ u) (some g) :=
  ⟨rfl, rfl, rfl, by simp, fun k _ hk => Below.heap_setCell w _ _ k (by rintro rfl; exact hk rfl)⟩
theorem OwnI.lt (h : OwnI w B v D) : ∀ k, v.ownBlock = some k → B ≤ k ∧ k < w.heap.size := World.ownsRow.lt h
theorem OwnI.below (h : OwnI w B v D) {w0 : World} (h0 : Below B w0 w) (hB : B ≤ w.heap.size) (hg : w.grownBy w' v.ownBlock) : Below B w0 w' := h0.grown hg hB fun k hk => (h.lt k hk).1

variable {P : Program}
theorem wp_append_int {o : Oper} {a : Act} {K : Act → World → Prop} {Q : Exit → Act → World → Prop} (sv sx : Operand) (t : TypeId)
    (ho : o.op = .call { callee := .builtin .append, args := #[sv, sx], argTypes := #[t, t] })
    (i : TypeInfo) (ht : P.underlying t = some (.slice 3)) (hi : P.info? 3 = some i)
    (hz : i.zero = some (.int .i64 0)) (hsize : i.size = 1) (hby : i.bytes = 8)
    (hs : a.eval sv = v) (hown : OwnI w B v D) {off c x : Nat} (hxe : a.eval sx = .slice (some ⟨b, off, none⟩) 1 c) (hcell : w.cell? ⟨b, off, none⟩ = some (.int .i64 (x : Int))) (hlen : D.length ≤ 1000) (hbase : B ≤ w.heap.size)
    (h : ∀ v' w', OwnI w' B v' (D ++ [x]) → w.grownBy w' v.ownBlock → K (a.put o.dst v') w') : o.wp P a w K Q := by
  obtain ⟨v', w', hrun, h2, h3, _, h5⟩ := run_append_own_at (P := P) w B t o.type 3 i (.int .i64 0) 1 8 ht hi hz hsize hby rfl (by omega) v D.length (dcells D) hown ⟨b, off, none⟩ 1 c [.int .i64 (x : Int)]
    rfl
    (fun j u hj => by
      rcases j with _ | j
      · simp only [List.getElem?_cons_zero, Option.some.injEq] at hj
        subst hj
        rw [← hcell]
        unfold Addr.add; split <;> simp_all
      · simp at hj)
    (fun u hu => by simp only [List.mem_cons, List.not_mem_nil, or_false] at hu; subst hu; rfl) (by simp only [maxLen]; omega) (by omega) hbase
  unfold Oper.wp execOp
  simp only [ho, resolve, invoke, builtin, Sem.run_bind, Sem.run_pure, Result.andThen_ok, List.map_toArray, List.map_cons, List.map_nil, hs, hxe, hrun]
  refine h v' w' ?_ h3
  unfold OwnI
  rw [List.length_append]
  have e : dcells (D ++ [x]) = dcells D ++ [.int .i64 (x : Int)] := by simp [dcells, intV]
  rw [e]
  exact h2
theorem wpList_append_int {ops : Array Oper} {rest : List Oper} {o : Oper} {a : Act} {Q : Exit → Act → World → Prop} (hgd : o.guard = none) (sv sx : Operand) (t : TypeId)
    (ho : o.op = .call { callee := .builtin .append, args := #[sv, sx], argTypes := #[t, t] })
    (i : TypeInfo) (ht : P.underlying t = some (.slice 3)) (hi : P.info? 3 = some i)
    (hz : i.zero = some (.int .i64 0)) (hsize : i.size = 1) (hby : i.bytes = 8)
    (hs : a.eval sv = v) (hown : OwnI w B v D) {off c x : Nat} (hxe : a.eval sx = .slice (some ⟨b, off, none⟩) 1 c) (hcell : w.cell? ⟨b, off, none⟩ = some (.int .i64 (x : Int))) (hlen : D.length ≤ 1000) (hbase : B ≤ w.heap.size)
    (h : ∀ v' w', OwnI w' B v' (D ++ [x]) → w.grownBy w' v.ownBlock → wpList P ops Q rest (a.put o.dst v') w') : wpList P ops Q (o :: rest) a w := by
  refine wpList_plain hgd fun K hK => ?_
  exact wp_append_int sv sx t ho i ht hi hz hsize hby hs hown hxe hcell hlen hbase fun v' w' h1 h2 => hK _ _ (h v' w' h1 h2)
end
end Go.Proofs.YthiacmpkbioahaaDoor
