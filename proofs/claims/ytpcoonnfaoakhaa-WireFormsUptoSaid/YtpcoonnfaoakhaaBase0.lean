
/- Words for rows of bytes in memory, over any program: what a slice of bytes reads as; rows of the call's own; append, make, copy, index. Helper text, nothing of the program. Words of 32 bits: what the walk's numbers are. Numbers in bytes. Guards: each fits the walk's goal at one kind of operation alone; a law is then tried there and nowhere else. Cuts of slices: up to a place, from a place on. -/
import Derived.WalkKit
import Derived.WalkSpells
import Derived.WalkLawsBesides
import Derived.Laws.CopyOwn
import Derived.Laws.AppendOwnNone
import Derived.Maps.AppendAt
import Derived.Deep.AppendLies
import Derived.Deep.Draws
import Derived.Deep.QuietTactic
import Derived.BigQuiet
import Derived.Lib.Hide
import Derived.Lib.AppendStr
import Derived.Lib.Strings
import Derived.Laws.IdiomStrings
import Derived.Laws.BytesArg
import Derived.Laws.Bits64b
import Derived.Deep.MidRow
import Derived.StillTailTactics
import Derived.OwnWalk
namespace Go.Proofs.Ytpcoonnfaoakhaa
set_option maxRecDepth 100000
open Go.RowKit
set_option linter.unusedVariables false

/-- a byte as a value -/
def bval (c : UInt8) : Value := .int .u8 (c.toNat : Int)
/-- bytes as cells -/
def bcells (l : List UInt8) : List Value := l.map bval
theorem bcells_length (l : List UInt8) : (bcells l).length = l.length := by simp [bcells]
theorem bcells_append (l m : List UInt8) : bcells (l ++ m) = bcells l ++ bcells m := by simp [bcells]
theorem bcells_get (l : List UInt8) (j : Nat) : (bcells l)[j]? = (l[j]?).map bval := by simp [bcells]
theorem bcells_one (l : List UInt8) : ∀ u ∈ bcells l, u.oneCell' = true := by
  intro u hu
  simp [bcells, bval] at hu
  obtain ⟨c, _, rfl⟩ := hu
  rfl

/-- The slice value v reads as the bytes l, in blocks below B. -/
def Rd (w : World) (B : Nat) (v : Value) (l : List UInt8) : Prop :=
  ∃ A c, v = .slice A l.length c ∧ l.length ≤ c ∧ c ≤ maxLen ∧
    (0 < l.length → ∃ b o, A = some ⟨b, o, none⟩ ∧ b < B ∧ ∀ j (h : j < l.length), w.cell? ⟨b, o + j, none⟩ = some (bval l[j]))

/-- the slice value v is nil, or is a row of the call's own (blocks from B on) whose cells are the bytes l -/
def Own (w : World) (B : Nat) (v : Value) (l : List UInt8) : Prop := w.ownsRow B 5 1 v l.length (bcells l)

variable {w w' : World} {B B' : Nat} {v : Value} {l : List UInt8}

theorem Rd.keep (h : Rd w B v l) (hk : ∀ p : Addr, p.block < B → w'.cell? p = w.cell? p) : Rd w' B v l := by
  obtain ⟨A, c, hv, hc, hm, hp⟩ := h
  refine ⟨A, c, hv, hc, hm, fun h0 => ?_⟩
  obtain ⟨b, o, hA, hb, hcell⟩ := hp h0
  exact ⟨b, o, hA, hb, fun j hj => (hk _ hb).trans (hcell j hj)⟩
theorem Rd.below (h : Rd w B v l) (hb : Below B w w') : Rd w' B v l := h.keep fun _ hp => hb.cell hp
theorem Rd.more (h : Rd w B v l) (hB : B ≤ B') : Rd w B' v l := by
  obtain ⟨A, c, hv, hc, hm, hp⟩ := h
  refine ⟨A, c, hv, hc, hm, fun h0 => ?_⟩
  obtain ⟨b, o, hA, hb, hcell⟩ := hp h0
  exact ⟨b, o, hA, by omega, hcell⟩
theorem Rd.drewN (h : Rd w B v l) (k : Nat) : Rd (w.drewN k) B v l := h
theorem Rd.drew (h : Rd w B v l) : Rd w.drew B v l := h
theorem Rd.nil (w : World) (B : Nat) : Rd w B (.slice none 0 0) [] := ⟨none, 0, rfl, by simp, by simp [maxLen], fun h => absurd h (by simp)⟩
theorem Rd.len (h : Rd w B v l) : l.length ≤ maxLen := by obtain ⟨A, c, _, h1, h2, _⟩ := h; omega

theorem Own.rd (h : Own w B v l) : Rd w w.heap.size v l := by
  rcases h.2 with ⟨rfl, h0⟩ | ⟨g, cap, cur, rfl, hb, hg, hn, hm, hs, ht⟩
  · obtain rfl : l = [] := List.eq_nil_of_length_eq_zero h0
    exact Rd.nil _ _
  · refine ⟨_, _, rfl, hn, hm, fun _ => ⟨g, 0, rfl, (Array.getElem?_eq_some_iff.1 hg).1, fun j hj => ?_⟩⟩
    rw [cell_of_row w g _ cur _ (0, 0) hg, Nat.zero_add]
    have : (bcells l)[j]? = some (bval l[j]) := by rw [bcells_get, List.getElem?_eq_getElem hj]; rfl
    rw [← ht, List.getElem?_take] at this
    split at this
    · simpa using this
    · cases this

theorem Rd.form (h : Rd w B v l) : ∃ A c, v = .slice A l.length c := by obtain ⟨A, c, h, _⟩ := h; exact ⟨A, c, h⟩
theorem Own.form (h : Own w B v l) : ∃ A c, v = .slice A l.length c := h.rd.form
theorem Own.nil (w : World) (B : Nat) : Own w B (.slice none 0 0) [] := World.ownsRow_nil w B _ 1
theorem Own.drewN (h : Own w B v l) (k : Nat) : Own (w.drewN k) B v l := h
theorem Own.more (h : Own w B v l) (hB : B' ≤ B) : Own w B' v l := by
  refine ⟨h.1, ?_⟩
  rcases h.2 with h0 | ⟨g, cap, cur, hv, hb, rest⟩
  · exact .inl h0
  · exact .inr ⟨g, cap, cur, hv, by omega, rest⟩
theorem Own.lt (h : Own w B v l) : ∀ k, v.ownBlock = some k → B ≤ k ∧ k < w.heap.size := World.ownsRow.lt h
/-- kept where nothing below the heap's size has turned -/
theorem Own.below (h : Own w B v l) (hb : Below w.heap.size w w') : Own w' B v l := by
  refine ⟨h.1, ?_⟩
  rcases h.2 with h0 | ⟨g, cap, cur, hv, hB, hg, rest⟩
  · exact .inl h0
  · exact .inr ⟨g, cap, cur, hv, hB, (hb.block g (Array.getElem?_eq_some_iff.1 hg).1).trans hg, rest⟩

theorem below_drewN' {B : Nat} {a w : World} (h : Below B a w) (n : Nat) : Below B a (w.drewN n) := ⟨h.os, h.tape, h.output, h.size, h.block⟩

/-- a cell of what reads as l, for an index in range -/
theorem Rd.cell {A : Option Addr} {n c : Nat} (h : Rd w B (.slice A n c) l) (h0 : 0 < n) :
    n = l.length ∧ ∃ b o, A = some ⟨b, o, none⟩ ∧ b < B ∧ ∀ j (h : j < l.length), w.cell? ⟨b, o + j, none⟩ = some (bval l[j]) := by
  obtain ⟨A', c', hv, hc, hm, hp⟩ := h
  injection hv with h1 h2 h3
  subst h1; subst h2; subst h3
  exact ⟨rfl, hp h0⟩

/-! ### append of what reads onto a row of the call's own -/
section
variable {P : Program}

theorem run_append_nil_src (t ty : TypeId) (i : TypeInfo) (ht : P.underlying t = some (.slice 5)) (hi : P.info? 5 = some i)
    (hown : Own w B v l) (A : Option Addr) (c : Nat) : (Builtin.append_ #[t, t] ty #[v, .slice A 0 c]).run P w = .ok v w := by
  rcases hown.2 with ⟨rfl, h0⟩ | ⟨g, cap, cur, rfl, _, _, hnc, _⟩
  · cases A <;> simp [Builtin.append_, run_underlying ht, sizeOf, typeInfo, hi, Builtin.lenOf, Builtin.firstCells, loadCells, loadCellsFrom]
  · cases A <;> simp [Builtin.append_, run_underlying ht, sizeOf, typeInfo, hi, Builtin.lenOf, Builtin.firstCells, hnc, storeCells, loadCells, loadCellsFrom, Addr.add]

theorem run_append_rd (t ty : TypeId) (i : TypeInfo) (ht : P.underlying t = some (.slice 5)) (hi : P.info? 5 = some i)
    (hz : i.zero = some (.int .u8 0)) (hsize : i.size = 1) (hby : i.bytes = 1)
    (hown : Own w B v l) {s : Value} {m : List UInt8} {Bs : Nat} (hr : Rd w Bs s m)
    (hlen : l.length + m.length ≤ 140737488355328) (hbase : B ≤ w.heap.size) :
    ∃ v' w', (Builtin.append_ #[t, t] ty #[v, s]).run P w = .ok v' w' ∧ Own w' B v' (l ++ m) ∧ w.grownBy w' v.ownBlock ∧
      (v'.ownBlock = v.ownBlock ∨ v'.ownBlock = some w.heap.size) := by
  obtain ⟨A, c, rfl, hc, hm, hp⟩ := hr
  by_cases h0 : m.length = 0
  · obtain rfl : m = [] := List.eq_nil_of_length_eq_zero h0
    exact ⟨v, w, run_append_nil_src t ty i ht hi hown A c, by simpa using hown, World.grownBy.refl w _, .inl rfl⟩
  · obtain ⟨b, o, rfl, hb, hcell⟩ := hp (by omega)
    obtain ⟨v', w', hrun, h2, h3, _, h5⟩ := run_append_own_at (P := P) w B t ty 5 i (.int .u8 0) 1 1 ht hi hz hsize hby rfl (by omega) v l.length (bcells l) hown ⟨b, o, none⟩ m.length c (bcells m)
      (by rw [bcells_length]; omega)
      (fun j u hj => by
        rw [bcells_get] at hj
        obtain ⟨x, hx, rfl⟩ := Option.map_eq_some_iff.1 hj
        obtain ⟨hj', rfl⟩ := List.getElem?_eq_some_iff.1 hx
        have := hcell j hj'
        rw [← this]
        unfold Addr.add; split <;> simp_all)
      (bcells_one m) (by simp only [maxLen]; omega) (by omega) hbase
    exact ⟨v', w', hrun, by unfold Own; rw [List.length_append, bcells_append]; exact h2, h3, h5⟩

theorem wp_append_rd {o : Oper} {a : Act} {K : Act → World → Prop} {Q : Exit → Act → World → Prop} (sv sx : Operand) (t : TypeId)
    (ho : o.op = .call { callee := .builtin .append, args := #[sv, sx], argTypes := #[t, t] })
    (i : TypeInfo) (ht : P.underlying t = some (.slice 5)) (hi : P.info? 5 = some i)
    (hz : i.zero = some (.int .u8 0)) (hsize : i.size = 1) (hby : i.bytes = 1)
    (hs : a.eval sv = v) (hown : Own w B v l) {s : Value} {m : List UInt8} {Bs : Nat} (hx : a.eval sx = s) (hr : Rd w Bs s m)
    (hlen : l.length + m.length ≤ 140737488355328) (hbase : B ≤ w.heap.size)
    (h : ∀ v' w', Own w' B v' (l ++ m) → w.grownBy w' v.ownBlock → (v'.ownBlock = v.ownBlock ∨ v'.ownBlock = some w.heap.size) → K (a.put o.dst v') w') : o.wp P a w K Q := by
  obtain ⟨v', w', hrun, h2, h3, h4⟩ := run_append_rd (P := P) t o.type i ht hi hz hsize hby hown hr hlen hbase
  unfold Oper.wp execOp
  simp only [ho, resolve, invoke, builtin, Sem.run_bind, Sem.run_pure, Result.andThen_ok, List.map_toArray, List.map_cons, List.map_nil, hs, hx, hrun]
  exact h v' w' h2 h3 h4

theorem wpList_append_rd {ops : Array Oper} {rest : List Oper} {o : Oper} {a : Act} {Q : Exit → Act → World → Prop} (hgd : o.guard = none) (sv sx : Operand) (t : TypeId)
    (ho : o.op = .call { callee := .builtin .append, args := #[sv, sx], argTypes := #[t, t] })
    (i : TypeInfo) (ht : P.underlying t = some (.slice 5)) (hi : P.info? 5 = some i)
    (hz : i.zero = some (.int .u8 0)) (hsize : i.size = 1) (hby : i.bytes = 1)
    (hs : a.eval sv = v) (hown : Own w B v l) {s : Value} {m : List UInt8} {Bs : Nat} (hx : a.eval sx = s) (hr : Rd w Bs s m)
    (hlen : l.length + m.length ≤ 140737488355328) (hbase : B ≤ w.heap.size)
    (h : ∀ v' w', Own w' B v' (l ++ m) → w.grownBy w' v.ownBlock → (v'.ownBlock = v.ownBlock ∨ v'.ownBlock = some w.heap.size) → wpList P ops Q rest (a.put o.dst v') w') : wpList P ops Q (o :: rest) a w :=
  wpList_plain hgd fun _ hK => wp_append_rd sv sx t ho i ht hi hz hsize hby hs hown hx hr hlen hbase fun v' w' h2 h3 h4 => hK _ _ (h v' w' h2 h3 h4)
end

theorem below_of_grown {w0 w w' : World} {B : Nat} {v : Value} (hb : Below B w0 w) (hB : B ≤ w.heap.size) (hg : w.grownBy w' v.ownBlock) (hl : ∀ k, v.ownBlock = some k → B ≤ k) : Below B w0 w' := hb.grown hg hB hl

/-- a row that was made whole (a literal, or make) -/
theorem Own.made (w : World) (l : List UInt8) (hb : B ≤ w.heap.size) (hm : l.length ≤ maxLen) : Own (w.alloc (.cells (bcells l).toArray 5)) B (.slice (some ⟨w.heap.size, 0, none⟩) l.length l.length) l :=
  ⟨by rw [bcells_length]; omega, .inr ⟨w.heap.size, l.length, _, rfl, hb, heap_alloc_new w _, Nat.le_refl _, hm, by simp [bcells_length], by simp [bcells_length, List.take_of_length_le]⟩⟩

/-! ### copy of what reads into a row that was just made -/
section
variable {P : Program}
theorem run_copy_rd (t ty : TypeId) (ht : P.underlying t = some (.slice 5)) (hsz : (P.info? 5).map (·.size) = some 1)
    {s : Value} {Bs g n cap : Nat} {cur : Array Value} (hr : Rd w Bs s l) (hn : l.length = n) (hg : w.heap[g]? = some (.cells cur 5 (0, 0))) (hc : n ≤ cap) (hcs : cur.size = cap) (hcm : cap ≤ maxLen) (hB : B ≤ g) :
    ∃ w', (Builtin.copy_ #[t, t] ty #[.slice (some ⟨g, 0, none⟩) n cap, s]).run P w = .ok (goInt n) w' ∧ Own w' B (.slice (some ⟨g, 0, none⟩) n cap) l ∧ Below B w w' ∧ w.grownBy w' (some g) ∧ w'.heap.size = w.heap.size := by
  subst hn
  obtain ⟨A, c, rfl, hlc, hm, hp⟩ := hr
  by_cases h0 : l.length = 0
  · obtain rfl : l = [] := List.eq_nil_of_length_eq_zero h0
    refine ⟨w, run_copy_none (P := P) w t t ty 5 _ _ _ _ _ _ ht hsz (by simp), ⟨by simp [bcells], .inr ⟨g, cap, cur, rfl, hB, hg, hc, hcm, by omega, by simp [bcells]⟩⟩, Below.refl _ _, World.grownBy.refl _ _, rfl⟩
  · obtain ⟨b, o, rfl, hb, hcell⟩ := hp (by omega)
    have hrun := run_copy_row (P := P) w t t ty 5 g 0 l.length cap ⟨b, o, none⟩ l.length c cur 5 (bcells l) ht hsz hg (by rw [bcells_length]; exact (Nat.min_self _).symm)
      (fun j u hj => by
        rw [bcells_get] at hj
        obtain ⟨x, hx, rfl⟩ := Option.map_eq_some_iff.1 hj
        obtain ⟨hj', rfl⟩ := List.getElem?_eq_some_iff.1 hx
        have := hcell j hj'
        rw [← this]
        unfold Addr.add; split <;> simp_all)
      (by rw [bcells_length]; omega) (bcells_one l)
    rw [bcells_length] at hrun
    have hset := setRow_heap w g cur (cur.toList.take 0 ++ (bcells l ++ cur.toList.drop (0 + l.length))).toArray 5 (0, 0) hg
    refine ⟨_, hrun, ⟨by rw [bcells_length]; omega, .inr ⟨g, cap, _, rfl, hB, hset, by omega, hcm, ?_, ?_⟩⟩, below_setRow (Below.refl _ _) hB _, ?_, by simp [World.setRow]⟩
    · simp [bcells_length]; omega
    · simp [bcells_length, List.take_append_of_le_length, List.take_of_length_le]
    · exact ⟨rfl, rfl, rfl, by simp [World.setRow], fun k hk hne => setRow_other w g k _ (by rintro rfl; exact hne rfl)⟩

theorem wpList_copy_rd {ops : Array Oper} {rest : List Oper} {o : Oper} {a : Act} {Q : Exit → Act → World → Prop} (hgd : o.guard = none) (d sx : Operand) (t : TypeId)
    (ho : o.op = .call { callee := .builtin .copy, args := #[d, sx], argTypes := #[t, t] }) (ht : P.underlying t = some (.slice 5)) (hsz : (P.info? 5).map (·.size) = some 1)
    {s : Value} {Bs g n cap : Nat} {cur : Array Value} (hd : a.eval d = .slice (some ⟨g, 0, none⟩) n cap) (hs : a.eval sx = s) (hr : Rd w Bs s l) (hn : l.length = n) (hg : w.heap[g]? = some (.cells cur 5 (0, 0)))
    (hc : n ≤ cap) (hcs : cur.size = cap) (hcm : cap ≤ maxLen) (hB : B ≤ g)
    (h : ∀ w', Own w' B (.slice (some ⟨g, 0, none⟩) n cap) l → Below B w w' → w'.heap.size = w.heap.size → wpList P ops Q rest (a.put o.dst (goInt n)) w') : wpList P ops Q (o :: rest) a w := by
  refine wpList_plain hgd fun K hK => ?_
  obtain ⟨w', hrun, h1, h2, _, h3⟩ := run_copy_rd (P := P) (B := B) t o.type ht hsz hr hn hg hc hcs hcm hB
  unfold Oper.wp
  simp [execOp, ho, resolve, invoke, builtin, hd, hs, hrun, Result.andThen]
  exact hK _ _ (h w' h1 h2 h3)
end

theorem replicate_bcells (n : Nat) : (List.replicate n (Value.int .u8 0)) = bcells (List.replicate n 0) := by simp [bcells, bval]

theorem Own.alloc (h : Own w B v l) (o : Obj) : Own (w.alloc o) B v l := World.ownsRow.alloc h o
theorem Rd.alloc (h : Rd w B v l) (hB : B ≤ w.heap.size) (o : Obj) : Rd (w.alloc o) B v l := h.keep fun p hp => World.cell?_alloc_lt w o p (by omega)
theorem Own.grown (h : Own w B v l) {row : Option Nat} (hg : w.grownBy w' row) (hne : v.ownBlock = none ∨ v.ownBlock ≠ row) : Own w' B v l := World.ownsRow.kept h hg hne
/-- a literal row -/
theorem rd_lit (w : World) (cs : Array Value) (l : List UInt8) (n : Nat) (hn : n = l.length) (h : cs = (bcells l).toArray) (hm : n ≤ maxLen) : Rd (w.alloc (.cells cs 5)) (w.heap.size + 1) (.slice (some ⟨w.heap.size, 0, none⟩) n n) l := by
  subst h; subst hn
  have := (Own.made (B := 0) w l (Nat.zero_le _) hm).rd
  simpa using this
theorem cast_byte (x : Nat) : ((UInt8.ofNat x).toNat : Int) = (x : Int) % 256 := by simp
theorem bval_ofNat (x : Nat) : bval (UInt8.ofNat x) = .int .u8 ((x : Int) % 256) := by simp [bval]
/-- one byte more -/
theorem Own.below_grown {w0 : World} {B0 : Nat} (hb : Below B0 w0 w) (h : Own w B v l) (hB : B0 ≤ B) (hs : B0 ≤ w.heap.size) (hg : w.grownBy w' v.ownBlock) : Below B0 w0 w' := hb.grown hg hs fun k hk => by have := h.lt k hk; omega

/-! ### a string's bytes -/
def strBytes (s : ByteArray) : List UInt8 := s.data.toList
theorem strBytes_length (s : ByteArray) : (strBytes s).length = s.size := by simp [strBytes]
theorem strCells_eq (s : ByteArray) : Lib.strCells s = bcells (strBytes s) := by simp [Lib.strCells, bcells, strBytes, bval]

section
variable {P : Program}
theorem wpList_append_str {ops : Array Oper} {rest : List Oper} {o : Oper} {a : Act} {Q : Exit → Act → World → Prop} (hgd : o.guard = none) (sv sx : Operand) (t u : TypeId)
    (ho : o.op = .call { callee := .builtin .append, args := #[sv, sx], argTypes := #[t, u] })
    (i : TypeInfo) (ht : P.underlying t = some (.slice 5)) (hu : P.underlying u = some .string) (hi : P.info? 5 = some i)
    (hz : i.zero = some (.int .u8 0)) (hsize : i.size = 1) (hby : i.bytes = 1)
    (hs : a.eval sv = v) (hown : Own w B v l) {s : ByteArray} (hx : a.eval sx = .string s)
    (hlen : l.length + s.size ≤ 140737488355328) (hbase : B ≤ w.heap.size)
    (h : ∀ v' w', Own w' B v' (l ++ strBytes s) → w.grownBy w' v.ownBlock → wpList P ops Q rest (a.put o.dst v') w') : wpList P ops Q (o :: rest) a w := by
  refine Lib.wpList_append_own_string w hgd sv sx t u ho B 5 i ht hu hi hz hsize hby v l.length (bcells l) hs hown s hx (by simp only [maxLen]; omega) hlen hbase ?_
  intro v' w' h1 h2 _
  refine h v' w' ?_ h2
  unfold Own
  rw [List.length_append, strBytes_length, bcells_append, ← strCells_eq]
  exact h1
end

/-- 'string(b)' -/
theorem run_str {P : Program} {src dst : TypeId} (hs : P.underlying src = some (.slice 5)) (he : P.underlying 5 = some (.int .u8)) (hd : P.underlying dst = some .string) (h : Rd w B v l) :
    (convert src dst v).run P w = .ok (.string ⟨l.toArray⟩) w := by
  obtain ⟨A, c, rfl, hc, hm, hp⟩ := h
  cases A with
  | none =>
    have h0 : l = [] := by
      rcases Nat.eq_zero_or_pos l.length with h | h
      · exact List.eq_nil_of_length_eq_zero h
      · obtain ⟨b, o, h', _⟩ := hp h; cases h'
    subst h0
    exact run_convert_bytes_nil w src 5 hs he 0 c dst hd
  | some ad =>
    refine run_convert_bytes_back w src dst 5 ad c l hs he hd fun j hj => ?_
    obtain ⟨b, o, h', _, hcell⟩ := hp (by omega)
    injection h' with h'
    subst h'
    rw [← show bval l[j] = .int .u8 (l[j].toNat : Int) from rfl, ← hcell j hj]
    unfold Addr.add; split <;> simp_all
theorem strBytes_mk (l : List UInt8) : strBytes ⟨l.toArray⟩ = l := rfl

end Go.Proofs.Ytpcoonnfaoakhaa
namespace Go.Proofs.Ytpcoonnfaoakhaa
set_option maxRecDepth 100000
open Go.RowKit

theorem wrap_u32 (n : Int) : IntKind.u32.wrap n = n % 4294967296 := by simp [IntKind.wrap, IntKind.bits, IntKind.signed]
theorem bits32 (op : BinOp) (f : Nat → Nat → Nat) (g : BitVec 32 → BitVec 32 → BitVec 32) (hg : ∀ a b : BitVec 32, (g a b).toNat = f a.toNat b.toNat) (h : ∀ a b : Int, bits op .u32 a b = IntKind.u32.wrap ((g (BitVec.ofInt 32 a) (BitVec.ofInt 32 b)).toNat : Int))
    (a b : Nat) (ha : a < 4294967296) (hb : b < 4294967296) : bits op .u32 (a : Int) (b : Int) = ((f a b : Nat) : Int) := by
  have h1 : (BitVec.ofInt 32 (a : Int)).toNat = a := by
    rw [BitVec.ofInt_natCast, BitVec.toNat_ofNat]; exact Nat.mod_eq_of_lt (by omega)
  have h2 : (BitVec.ofInt 32 (b : Int)).toNat = b := by
    rw [BitVec.ofInt_natCast, BitVec.toNat_ofNat]; exact Nat.mod_eq_of_lt (by omega)
  have h3 := (g (BitVec.ofInt 32 (a : Int)) (BitVec.ofInt 32 (b : Int))).isLt
  rw [h, wrap_u32]
  rw [hg, h1, h2] at h3 ⊢
  omega
theorem or32 (a b : Nat) (ha : a < 4294967296) (hb : b < 4294967296) : bits .or .u32 (a : Int) (b : Int) = ((a ||| b : Nat) : Int) := bits32 .or (· ||| ·) (· ||| ·) BitVec.toNat_or (fun _ _ => rfl) a b ha hb
theorem and32 (a b : Nat) (ha : a < 4294967296) (hb : b < 4294967296) : bits .and .u32 (a : Int) (b : Int) = ((a &&& b : Nat) : Int) := bits32 .and (· &&& ·) (· &&& ·) BitVec.toNat_and (fun _ _ => rfl) a b ha hb
theorem xor32 (a b : Nat) (ha : a < 4294967296) (hb : b < 4294967296) : bits .xor .u32 (a : Int) (b : Int) = ((a ^^^ b : Nat) : Int) := bits32 .xor (· ^^^ ·) (· ^^^ ·) BitVec.toNat_xor (fun _ _ => rfl) a b ha hb

/-! the walk's spelling of a word's operations -/
theorem w_xor (x y : UInt32) : bits .xor .u32 (x.toNat : Int) (y.toNat : Int) = ((x ^^^ y).toNat : Int) := by rw [xor32 _ _ x.toNat_lt y.toNat_lt, UInt32.toNat_xor]
theorem w_and (x y : UInt32) : bits .and .u32 (x.toNat : Int) (y.toNat : Int) = ((x &&& y).toNat : Int) := by rw [and32 _ _ x.toNat_lt y.toNat_lt, UInt32.toNat_and]
theorem w_or (x y : UInt32) : bits .or .u32 (x.toNat : Int) (y.toNat : Int) = ((x ||| y).toNat : Int) := by rw [or32 _ _ x.toNat_lt y.toNat_lt, UInt32.toNat_or]
theorem w_add (x y : UInt32) : IntKind.u32.wrap ((x.toNat : Int) + (y.toNat : Int)) = ((x + y).toNat : Int) := by rw [wrap_u32, UInt32.toNat_add]; omega
theorem w_shr (x : UInt32) (n : Nat) (h : n < 32) : (x.toNat : Int) / 2 ^ n = ((x >>> UInt32.ofNat n).toNat : Int) := by
  rw [UInt32.toNat_shiftRight, UInt32.toNat_ofNat', Nat.mod_eq_of_lt (a := n) (by omega), Nat.mod_eq_of_lt h, Nat.shiftRight_eq_div_pow]
  simp
theorem w_shl (x : UInt32) (n : Nat) (h : n < 32) : (x.toNat : Int) * 2 ^ n % 4294967296 = ((x <<< UInt32.ofNat n).toNat : Int) := by
  rw [UInt32.toNat_shiftLeft, UInt32.toNat_ofNat', Nat.mod_eq_of_lt (a := n) (by omega), Nat.mod_eq_of_lt h, Nat.shiftLeft_eq]
  simp
/-- turned right -/
def rotr (x : UInt32) (n : Nat) : UInt32 := (x <<< UInt32.ofNat (32 - n)) ||| (x >>> UInt32.ofNat n)
end Go.Proofs.Ytpcoonnfaoakhaa
namespace Go.Proofs.Ytpcoonnfaoakhaa
set_option maxRecDepth 100000
open Go.RowKit

/-- the lowest k bytes of n, the highest of them first -/
def be (n : Nat) : Nat → List UInt8
  | 0 => []
  | k + 1 => UInt8.ofNat (n / 2 ^ (8 * k)) :: be n k
theorem be_length (n k : Nat) : (be n k).length = k := by induction k <;> simp [be, *]


end Go.Proofs.Ytpcoonnfaoakhaa
namespace Go
variable {P : Program} {ops : Array Oper} {Q : Exit → Act → World → Prop} {rest : List Oper} {a : Act} {w : World} {d : Option Tmp} {tr : TypeId} {pos : String}

theorem at_store (ty : TypeId) {x y : Operand} {af} (h : wpList P ops Q (⟨d, .store ty x y, tr, pos, af, none⟩ :: rest) a w) : wpList P ops Q (⟨d, .store ty x y, tr, pos, af, none⟩ :: rest) a w := h
theorem at_load (ty : TypeId) {x : Operand} {af} (h : wpList P ops Q (⟨d, .load ty x, tr, pos, af, none⟩ :: rest) a w) : wpList P ops Q (⟨d, .load ty x, tr, pos, af, none⟩ :: rest) a w := h
theorem at_build (ty : TypeId) {x} {af} (h : wpList P ops Q (⟨d, .build ty x, tr, pos, af, none⟩ :: rest) a w) : wpList P ops Q (⟨d, .build ty x, tr, pos, af, none⟩ :: rest) a w := h
theorem at_copy {x y} {af} (h : wpList P ops Q (⟨d, .call { callee := .builtin .copy, args := x, argTypes := y }, tr, pos, af, none⟩ :: rest) a w) : wpList P ops Q (⟨d, .call { callee := .builtin .copy, args := x, argTypes := y }, tr, pos, af, none⟩ :: rest) a w := h
end Go
namespace Go.Proofs.Ytpcoonnfaoakhaa
set_option maxRecDepth 100000
open Go Go.RowKit
section
variable {P : Program}
theorem addr_add_zero' (a : Addr) : a.add 0 = a := by
  obtain ⟨b, o, s⟩ := a
  cases s <;> simp [Addr.add]
theorem slc_to (t e : TypeId) (i : TypeInfo) (ht : P.underlying t = some (.slice e)) (hi : P.info? e = some i) (A : Option Addr) (L c n : Nat) (hn : n ≤ c) (W : World) :
    (Instr.slice t (.slice A L c) none (some (.int .i64 (n : Int))) none).run P W = .ok (.slice A n c) W := by
  have h1 : (n : Int) ≤ (c : Int) := by omega
  simp [Instr.slice, run_underlying ht, Instr.sliceBounds, Instr.sliceBound, asIntOf, sizeOf, typeInfo, hi, h1]
  rw [if_pos hn]
  cases A <;> simp [addr_add_zero']
theorem slc_from (t e : TypeId) (i : TypeInfo) (ht : P.underlying t = some (.slice e)) (hi : P.info? e = some i) (A : Option Addr) (L c lo : Nat) (hn : lo ≤ L) (hL : L ≤ c) (W : World) :
    (Instr.slice t (.slice A L c) (some (.int .i64 (lo : Int))) none none).run P W = .ok (.slice (if c = lo then A else A.map (·.add (lo * i.size))) (L - lo) (c - lo)) W := by
  have h1 : (lo : Int) ≤ (L : Int) := by omega
  simp [Instr.slice, run_underlying ht, Instr.sliceBounds, Instr.sliceBound, asIntOf, sizeOf, typeInfo, hi, h1]
  intro h
  omega
/-- from a place below the capacity on, of a block's row -/
theorem slc_from_at (t e : TypeId) (i : TypeInfo) (ht : P.underlying t = some (.slice e)) (hi : P.info? e = some i) (z : Nat) (hz : i.size = z) (b o L c lo : Nat) (hn : lo ≤ L) (hL : L ≤ c) (hlt : lo < c) (W : World) :
    (Instr.slice t (.slice (some ⟨b, o, none⟩) L c) (some (.int .i64 (lo : Int))) none none).run P W = .ok (.slice (some ⟨b, o + lo * z, none⟩) (L - lo) (c - lo)) W := by
  rw [slc_from t e i ht hi _ L c lo hn hL W, if_neg (by omega), hz]
  simp [Addr.add]
end
end Go.Proofs.Ytpcoonnfaoakhaa
