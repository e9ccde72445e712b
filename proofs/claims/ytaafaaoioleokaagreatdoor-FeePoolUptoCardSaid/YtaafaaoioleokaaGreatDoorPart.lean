
/- Rows of bytes as blocks: made of zeros, a part copied over, one byte set. -/
import Derived.Test.YtaafaaoioleokaaGreatDoorInfo0
import Derived.OwnWalk
namespace Go.Proofs.YtaafaaoioleokaaGreatDoor
set_option maxRecDepth 100000
open Go.RowKit
variable {P : Program} {w w' : World} {g B : Nat} {L l : List UInt8}

/-- block g holds the bytes L, and may be written -/
def Blk (w : World) (g : Nat) (L : List UInt8) : Prop := w.heap[g]? = some (.cells (bcells L).toArray 5 (0, 0))
theorem Blk.lt (h : Blk w g L) : g < w.heap.size := blk_lt h
theorem Blk.drew (h : Blk w g L) : Blk w.drew g L := h
theorem Blk.drewN (h : Blk w g L) (k : Nat) : Blk (w.drewN k) g L := h
theorem Blk.below (h : Blk w g L) (hb : Below w.heap.size w w') : Blk w' g L := (hb.block g h.lt).trans h
theorem Blk.own (h : Blk w g L) (hB : B ≤ g) (hm : L.length ≤ maxLen) : Own w B (.slice (some ⟨g, 0, none⟩) L.length L.length) L :=
  ⟨by rw [bcells_length]; omega, .inr ⟨g, L.length, _, rfl, hB, h, Nat.le_refl _, hm, by simp [bcells_length], by simp [bcells_length, List.take_of_length_le]⟩⟩
theorem Blk.set (h : Blk w g L) (i : Nat) (x : UInt8) : Blk (w.setCell ⟨g, i, none⟩ (.int .u8 (x.toNat : Int))) g (L.set i x) := by
  unfold Blk
  rw [blk_set h]
  congr 2
  simp [bcells, bval]
theorem Blk.cell (h : Blk w g L) (i : Nat) (hi : i < L.length) : w.cell? ⟨g, i, none⟩ = some (.int .u8 (L[i].toNat : Int)) := by
  rw [blk_cell h]
  simp [bcells, bval, hi]
theorem Blk.free (h : Blk w g L) (i : Nat) : w.frozen? ⟨g, i, none⟩ = false := blk_free h i

theorem made_zeros (z : Value) (n : Nat) (hz : z = .int .u8 0) : madeCells z.cells (n * 1) = (bcells (List.replicate n 0)).toArray := by
  subst hz
  rw [← replicate_bcells]
  apply Array.ext
  · simp [size_madeCells]
  · intro i h1 h2
    simp [madeCells, Value.cells, Nat.mod_one]

theorem wpList_make_zero {ops : Array Oper} {rest : List Oper} {o : Oper} {a : Act} {Q : Exit → Act → World → Prop} (hg : o.guard = none) (lx cx : Operand) (t : TypeId) (hop : o.op = Op.makeSlice t lx cx)
    (ht : P.underlying t = some (.slice 5)) (i : TypeInfo) (hi : P.info? 5 = some i) (hz : i.zero = some (.int .u8 0)) (hs : i.size = 1) (hb : i.bytes = 1)
    (n : Nat) (hl : a.eval lx = .int .i64 (n : Int)) (hc : a.eval cx = .int .i64 (n : Int)) (hn : n ≤ 140737488355328)
    (h : Blk (w.alloc (.cells (bcells (List.replicate n 0)).toArray 5)) w.heap.size (List.replicate n 0) → wpList P ops Q rest (a.put o.dst (.slice (some ⟨w.heap.size, 0, none⟩) n n)) (w.alloc (.cells (bcells (List.replicate n 0)).toArray 5))) :
    wpList P ops Q (o :: rest) a w := by
  refine wpList_plain hg fun K hK => ?_
  have hr := run_make (P := P) w t 5 i _ ht hi hz .i64 .i64 n n (by omega) (Int.le_refl _) (by rw [hb]; omega) (by omega)
  rw [hs] at hr
  simp only [Int.toNat_natCast] at hr
  rw [made_zeros _ _ rfl] at hr
  unfold Oper.wp execOp
  simp only [hop, hl, hc, hr, Sem.run_bind, Result.andThen_ok]
  exact hK _ _ (h (heap_alloc_new w _))

/-- l copied over L from off on -/
def over (L : List UInt8) (off : Nat) (l : List UInt8) : List UInt8 := L.take off ++ (l ++ L.drop (off + l.length))
theorem over_length {off : Nat} (h : off + l.length ≤ L.length) : (over L off l).length = L.length := by simp [over]; omega

theorem run_copy_part (t ty : TypeId) (ht : P.underlying t = some (.slice 5)) (hsz : (P.info? 5).map (·.size) = some 1)
    {s : Value} {Bs off dl dc : Nat} (hr : Rd w Bs s l) (hg : Blk w g L) (hd : l.length ≤ dl) (hf : off + l.length ≤ L.length) :
    ∃ w', (Builtin.copy_ #[t, t] ty #[.slice (some ⟨g, off, none⟩) dl dc, s]).run P w = .ok (goInt l.length) w' ∧ Blk w' g (over L off l) ∧ (∀ B, B ≤ g → Below B w w') ∧ w'.heap.size = w.heap.size ∧ ∀ k, k ≠ g → w'.heap[k]? = w.heap[k]? := by
  obtain ⟨A, c, rfl, hlc, hm, hp⟩ := hr
  by_cases h0 : l.length = 0
  · obtain rfl : l = [] := List.eq_nil_of_length_eq_zero h0
    refine ⟨w, run_copy_none (P := P) w t t ty 5 _ _ _ _ _ _ ht hsz (by simp), ?_, fun _ _ => Below.refl _ _, rfl, fun _ _ => rfl⟩
    simpa [over] using hg
  · obtain ⟨b, o, rfl, hb, hcell⟩ := hp (by omega)
    have hrun := run_copy_row (P := P) w t t ty 5 g off dl dc ⟨b, o, none⟩ l.length c (bcells L).toArray 5 (bcells l) ht hsz hg (by rw [bcells_length]; exact (Nat.min_eq_left hd).symm)
      (fun j u hj => by
        rw [bcells_get] at hj
        obtain ⟨x, hx, rfl⟩ := Option.map_eq_some_iff.1 hj
        obtain ⟨hj', rfl⟩ := List.getElem?_eq_some_iff.1 hx
        have := hcell j hj'
        rw [← this]
        unfold Addr.add; split <;> simp_all)
      (by rw [bcells_length]; simp [bcells_length]; omega) (bcells_one l)
    rw [bcells_length] at hrun
    have hset := setRow_heap w g (bcells L).toArray (((bcells L).toArray.toList.take off) ++ bcells l ++ (bcells L).toArray.toList.drop (off + l.length)).toArray 5 (0, 0) hg
    refine ⟨_, hrun, ?_, fun B hB => below_setRow (Below.refl _ _) hB _, by simp [World.setRow], fun k hk => setRow_other w g k _ hk⟩
    unfold Blk
    rw [hset]
    simp [over, bcells, List.map_take, List.map_drop]

theorem wp_copy_part {o : Oper} {a : Act} {K : Act → World → Prop} {Q : Exit → Act → World → Prop} (d sx : Operand) (t : TypeId)
    (ho : o.op = .call { callee := .builtin .copy, args := #[d, sx], argTypes := #[t, t] }) (ht : P.underlying t = some (.slice 5)) (hsz : (P.info? 5).map (·.size) = some 1)
    {s : Value} {Bs off dl dc : Nat} (hd : a.eval d = .slice (some ⟨g, off, none⟩) dl dc) (hs : a.eval sx = s) (hr : Rd w Bs s l) (hg : Blk w g L) (hdl : l.length ≤ dl) (hf : off + l.length ≤ L.length)
    (h : ∀ w', Blk w' g (over L off l) → (∀ B, B ≤ g → Below B w w') → w'.heap.size = w.heap.size → (∀ k, k ≠ g → w'.heap[k]? = w.heap[k]?) → K (a.put o.dst (goInt l.length)) w') : o.wp P a w K Q := by
  obtain ⟨w', hrun, h1, h2, h3, h4⟩ := run_copy_part (P := P) t o.type ht hsz hr hg hdl hf
  unfold Oper.wp
  simp [execOp, ho, resolve, invoke, builtin, hd, hs]
  rw [hrun]
  exact h w' h1 h2 h3 h4

theorem wpList_copy_part {ops : Array Oper} {rest : List Oper} {o : Oper} {a : Act} {Q : Exit → Act → World → Prop} (hgd : o.guard = none) (d sx : Operand) (t : TypeId)
    (ho : o.op = .call { callee := .builtin .copy, args := #[d, sx], argTypes := #[t, t] }) (ht : P.underlying t = some (.slice 5)) (hsz : (P.info? 5).map (·.size) = some 1)
    {s : Value} {Bs off dl dc : Nat} (hd : a.eval d = .slice (some ⟨g, off, none⟩) dl dc) (hs : a.eval sx = s) (hr : Rd w Bs s l) (hg : Blk w g L) (hdl : l.length ≤ dl) (hf : off + l.length ≤ L.length)
    (h : ∀ w', Blk w' g (over L off l) → (∀ B, B ≤ g → Below B w w') → w'.heap.size = w.heap.size → (∀ k, k ≠ g → w'.heap[k]? = w.heap[k]?) → wpList P ops Q rest (a.put o.dst (goInt l.length)) w') : wpList P ops Q (o :: rest) a w := by
  refine wpList_plain hgd fun K hK => ?_
  obtain ⟨w', hrun, h1, h2, h3, h4⟩ := run_copy_part (P := P) t o.type ht hsz hr hg hdl hf
  unfold Oper.wp
  simp [execOp, ho, resolve, invoke, builtin, hd, hs]
  rw [hrun]
  exact hK _ _ (h w' h1 h2 h3 h4)
end Go.Proofs.YtaafaaoioleokaaGreatDoor
