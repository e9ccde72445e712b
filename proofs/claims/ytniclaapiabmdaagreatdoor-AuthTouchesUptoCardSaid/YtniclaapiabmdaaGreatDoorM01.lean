/- Texts joined: Base0, Info1. -/
import Derived.WalkKit
import Derived.WalkSpells
import Derived.WalkLawsBesides
import Derived.Laws.CopyOwn
import Derived.Laws.AppendOwnNone
import Derived.Maps.AppendAt
import Derived.Deep.AppendLies
import Derived.Deep.Draws
import Derived.Deep.QuietTactic
import Derived.BigQuiet
import Derived.Lib.Hide
import Derived.Lib.AppendStr
import Derived.Lib.Strings
import Derived.Laws.IdiomStrings
import Derived.Laws.BytesArg
import Derived.Laws.Bits64b
import Derived.Deep.MidRow
import Derived.StillTailTactics
import Derived.OwnWalk
import Derived.Test.YtniclaapiabmdaaGreatDoorProg
import Derived.LoopTactic
import Derived.Maps.RangeWalk
namespace Go.Proofs.YtniclaapiabmdaaGreatDoor
set_option maxRecDepth 100000
open Go.RowKit
set_option linter.unusedVariables false

/-- a byte as a value -/
def bval (c : UInt8) : Value := .int .u8 (c.toNat : Int)
/-- bytes as cells -/
def bcells (l : List UInt8) : List Value := l.map bval
theorem bcells_length (l : List UInt8) : (bcells l).length = l.length := by simp [bcells]
theorem bcells_append (l m : List UInt8) : bcells (l ++ m) = bcells l ++ bcells m := by simp [bcells]
theorem bcells_get (l : List UInt8) (j : Nat) : (bcells l)[j]? = (l[j]?).map bval := by simp [bcells]
theorem bcells_one (l : List UInt8) : ∀ u ∈ bcells l, u.oneCell' = true := by
  intro u hu
  simp [bcells, bval] at hu
  obtain ⟨c, _, rfl⟩ := hu
  rfl

/-- The slice value v reads as the bytes l, in blocks below B. -/
def Rd (w : World) (B : Nat) (v : Value) (l : List UInt8) : Prop :=
  ∃ A c, v = .slice A l.length c ∧ l.length ≤ c ∧ c ≤ maxLen ∧
    (0 < l.length → ∃ b o, A = some ⟨b, o, none⟩ ∧ b < B ∧ ∀ j (h : j < l.length), w.cell? ⟨b, o + j, none⟩ = some (bval l[j]))

/-- the slice value v is nil, or is a row of the call's own (blocks from B on) whose cells are the bytes l -/
def Own (w : World) (B : Nat) (v : Value) (l : List UInt8) : Prop := w.ownsRow B 5 1 v l.length (bcells l)

variable {w w' : World} {B B' : Nat} {v : Value} {l : List UInt8}

theorem Rd.keep (h : Rd w B v l) (hk : ∀ p : Addr, p.block < B → w'.cell? p = w.cell? p) : Rd w' B v l := by
  obtain ⟨A, c, hv, hc, hm, hp⟩ := h
  refine ⟨A, c, hv, hc, hm, fun h0 => ?_⟩
  obtain ⟨b, o, hA, hb, hcell⟩ := hp h0
  exact ⟨b, o, hA, hb, fun j hj => (hk _ hb).trans (hcell j hj)⟩
theorem Rd.below (h : Rd w B v l) (hb : Below B w w') : Rd w' B v l := h.keep fun _ hp => hb.cell hp
theorem Rd.more (h : Rd w B v l) (hB : B ≤ B') : Rd w B' v l := by
  obtain ⟨A, c, hv, hc, hm, hp⟩ := h
  refine ⟨A, c, hv, hc, hm, fun h0 => ?_⟩
  obtain ⟨b, o, hA, hb, hcell⟩ := hp h0
  exact ⟨b, o, hA, by omega, hcell⟩
theorem Rd.drewN (h : Rd w B v l) (k : Nat) : Rd (w.drewN k) B v l := h
theorem Rd.drew (h : Rd w B v l) : Rd w.drew B v l := h
theorem Rd.nil (w : World) (B : Nat) : Rd w B (.slice none 0 0) [] := ⟨none, 0, rfl, by simp, by simp [maxLen], fun h => absurd h (by simp)⟩
theorem Rd.len (h : Rd w B v l) : l.length ≤ maxLen := by obtain ⟨A, c, _, h1, h2, _⟩ := h; omega

theorem Own.rd (h : Own w B v l) : Rd w w.heap.size v l := by
  rcases h.2 with ⟨rfl, h0⟩ | ⟨g, cap, cur, rfl, hb, hg, hn, hm, hs, ht⟩
  · obtain rfl : l = [] := List.eq_nil_of_length_eq_zero h0
    exact Rd.nil _ _
  · refine ⟨_, _, rfl, hn, hm, fun _ => ⟨g, 0, rfl, (Array.getElem?_eq_some_iff.1 hg).1, fun j hj => ?_⟩⟩
    rw [cell_of_row w g _ cur _ (0, 0) hg, Nat.zero_add]
    have : (bcells l)[j]? = some (bval l[j]) := by rw [bcells_get, List.getElem?_eq_getElem hj]; rfl
    rw [← ht, List.getElem?_take] at this
    split at this
    · simpa using this
    · cases this

theorem Rd.form (h : Rd w B v l) : ∃ A c, v = .slice A l.length c := by obtain ⟨A, c, h, _⟩ := h; exact ⟨A, c, h⟩
theorem Own.form (h : Own w B v l) : ∃ A c, v = .slice A l.length c := h.rd.form
theorem Own.nil (w : World) (B : Nat) : Own w B (.slice none 0 0) [] := World.ownsRow_nil w B _ 1
theorem Own.drewN (h : Own w B v l) (k : Nat) : Own (w.drewN k) B v l := h
theorem Own.more (h : Own w B v l) (hB : B' ≤ B) : Own w B' v l := by
  refine ⟨h.1, ?_⟩
  rcases h.2 with h0 | ⟨g, cap, cur, hv, hb, rest⟩
  · exact .inl h0
  · exact .inr ⟨g, cap, cur, hv, by omega, rest⟩
theorem Own.lt (h : Own w B v l) : ∀ k, v.ownBlock = some k → B ≤ k ∧ k < w.heap.size := World.ownsRow.lt h
/-- kept where nothing below the heap's size has turned -/
theorem Own.below (h : Own w B v l) (hb : Below w.heap.size w w') : Own w' B v l := by
  refine ⟨h.1, ?_⟩
  rcases h.2 with h0 | ⟨g, cap, cur, hv, hB, hg, rest⟩
  · exact .inl h0
  · exact .inr ⟨g, cap, cur, hv, hB, (hb.block g (Array.getElem?_eq_some_iff.1 hg).1).trans hg, rest⟩

theorem below_drewN' {B : Nat} {a w : World} (h : Below B a w) (n : Nat) : Below B a (w.drewN n) := ⟨h.os, h.tape, h.output, h.size, h.block⟩

/-- a cell of what reads as l, for an index in range -/
theorem Rd.cell {A : Option Addr} {n c : Nat} (h : Rd w B (.slice A n c) l) (h0 : 0 < n) :
    n = l.length ∧ ∃ b o, A = some ⟨b, o, none⟩ ∧ b < B ∧ ∀ j (h : j < l.length), w.cell? ⟨b, o + j, none⟩ = some (bval l[j]) := by
  obtain ⟨A', c', hv, hc, hm, hp⟩ := h
  injection hv with h1 h2 h3
  subst h1; subst h2; subst h3
  exact ⟨rfl, hp h0⟩

/-! ### append of what reads onto a row of the call's own -/
section
variable {P : Program}

theorem run_append_nil_src (t ty : TypeId) (i : TypeInfo) (ht : P.underlying t = some (.slice 5)) (hi : P.info? 5 = some i)
    (hown : Own w B v l) (A : Option Addr) (c : Nat) : (Builtin.append_ #[t, t] ty #[v, .slice A 0 c]).run P w = .ok v w := by
  rcases hown.2 with ⟨rfl, h0⟩ | ⟨g, cap, cur, rfl, _, _, hnc, _⟩
  · cases A <;> simp [Builtin.append_, run_underlying ht, sizeOf, typeInfo, hi, Builtin.lenOf, Builtin.firstCells, loadCells, loadCellsFrom]
  · cases A <;> simp [Builtin.append_, run_underlying ht, sizeOf, typeInfo, hi, Builtin.lenOf, Builtin.firstCells, hnc, storeCells, loadCells, loadCellsFrom, Addr.add]

theorem run_append_rd (t ty : TypeId) (i : TypeInfo) (ht : P.underlying t = some (.slice 5)) (hi : P.info? 5 = some i)
    (hz : i.zero = some (.int .u8 0)) (hsize : i.size = 1) (hby : i.bytes = 1)
    (hown : Own w B v l) {s : Value} {m : List UInt8} {Bs : Nat} (hr : Rd w Bs s m)
    (hlen : l.length + m.length ≤ 140737488355328) (hbase : B ≤ w.heap.size) :
    ∃ v' w', (Builtin.append_ #[t, t] ty #[v, s]).run P w = .ok v' w' ∧ Own w' B v' (l ++ m) ∧ w.grownBy w' v.ownBlock ∧
      (v'.ownBlock = v.ownBlock ∨ v'.ownBlock = some w.heap.size) := by
  obtain ⟨A, c, rfl, hc, hm, hp⟩ := hr
  by_cases h0 : m.length = 0
  · obtain rfl : m = [] := List.eq_nil_of_length_eq_zero h0
    exact ⟨v, w, run_append_nil_src t ty i ht hi hown A c, by simpa using hown, World.grownBy.refl w _, .inl rfl⟩
  · obtain ⟨b, o, rfl, hb, hcell⟩ := hp (by omega)
    obtain ⟨v', w', hrun, h2, h3, _, h5⟩ := run_append_own_at (P := P) w B t ty 5 i (.int .u8 0) 1 1 ht hi hz hsize hby rfl (by omega) v l.length (bcells l) hown ⟨b, o, none⟩ m.length c (bcells m)
      (by rw [bcells_length]; omega)
      (fun j u hj => by
        rw [bcells_get] at hj
        obtain ⟨x, hx, rfl⟩ := Option.map_eq_some_iff.1 hj
        obtain ⟨hj', rfl⟩ := List.getElem?_eq_some_iff.1 hx
        have := hcell j hj'
        rw [← this]
        unfold Addr.add; split <;> simp_all)
      (bcells_one m) (by simp only [maxLen]; omega) (by omega) hbase
    exact ⟨v', w', hrun, by unfold Own; rw [List.length_append, bcells_append]; exact h2, h3, h5⟩

theorem wp_append_rd {o : Oper} {a : Act} {K : Act → World → Prop} {Q : Exit → Act → World → Prop} (sv sx : Operand) (t : TypeId)
    (ho : o.op = .call { callee := .builtin .append, args := #[sv, sx], argTypes := #[t, t] })
    (i : TypeInfo) (ht : P.underlying t = some (.slice 5)) (hi : P.info? 5 = some i)
    (hz : i.zero = some (.int .u8 0)) (hsize : i.size = 1) (hby : i.bytes = 1)
    (hs : a.eval sv = v) (hown : Own w B v l) {s : Value} {m : List UInt8} {Bs : Nat} (hx : a.eval sx = s) (hr : Rd w Bs s m)
    (hlen : l.length + m.length ≤ 140737488355328) (hbase : B ≤ w.heap.size)
    (h : ∀ v' w', Own w' B v' (l ++ m) → w.grownBy w' v.ownBlock → (v'.ownBlock = v.ownBlock ∨ v'.ownBlock = some w.heap.size) → K (a.put o.dst v') w') : o.wp P a w K Q := by
  obtain ⟨v', w', hrun, h2, h3, h4⟩ := run_append_rd (P := P) t o.type i ht hi hz hsize hby hown hr hlen hbase
  unfold Oper.wp execOp
  simp only [ho, resolve, invoke, builtin, Sem.run_bind, Sem.run_pure, Result.andThen_ok, List.map_toArray, List.map_cons, List.map_nil, hs, hx, hrun]
  exact h v' w' h2 h3 h4

theorem wpList_append_rd {ops : Array Oper} {rest : List Oper} {o : Oper} {a : Act} {Q : Exit → Act → World → Prop} (hgd : o.guard = none) (sv sx : Operand) (t : TypeId)
    (ho : o.op = .call { callee := .builtin .append, args := #[sv, sx], argTypes := #[t, t] })
    (i : TypeInfo) (ht : P.underlying t = some (.slice 5)) (hi : P.info? 5 = some i)
    (hz : i.zero = some (.int .u8 0)) (hsize : i.size = 1) (hby : i.bytes = 1)
    (hs : a.eval sv = v) (hown : Own w B v l) {s : Value} {m : List UInt8} {Bs : Nat} (hx : a.eval sx = s) (hr : Rd w Bs s m)
    (hlen : l.length + m.length ≤ 140737488355328) (hbase : B ≤ w.heap.size)
    (h : ∀ v' w', Own w' B v' (l ++ m) → w.grownBy w' v.ownBlock → (v'.ownBlock = v.ownBlock ∨ v'.ownBlock = some w.heap.size) → wpList P ops Q rest (a.put o.dst v') w') : wpList P ops Q (o :: rest) a w :=
  wpList_plain hgd fun _ hK => wp_append_rd sv sx t ho i ht hi hz hsize hby hs hown hx hr hlen hbase fun v' w' h2 h3 h4 => hK _ _ (h v' w' h2 h3 h4)
end

/-- a row that was made whole (a literal, or make) -/
theorem Own.made (w : World) (l : List UInt8) (hb : B ≤ w.heap.size) (hm : l.length ≤ maxLen) : Own (w.alloc (.cells (bcells l).toArray 5)) B (.slice (some ⟨w.heap.size, 0, none⟩) l.length l.length) l :=
  ⟨by rw [bcells_length]; omega, .inr ⟨w.heap.size, l.length, _, rfl, hb, heap_alloc_new w _, Nat.le_refl _, hm, by simp [bcells_length], by simp [bcells_length, List.take_of_length_le]⟩⟩

/-! ### copy of what reads into a row that was just made -/
section
variable {P : Program}
theorem run_copy_rd (t ty : TypeId) (ht : P.underlying t = some (.slice 5)) (hsz : (P.info? 5).map (·.size) = some 1)
    {s : Value} {Bs g n cap : Nat} {cur : Array Value} (hr : Rd w Bs s l) (hn : l.length = n) (hg : w.heap[g]? = some (.cells cur 5 (0, 0))) (hc : n ≤ cap) (hcs : cur.size = cap) (hcm : cap ≤ maxLen) (hB : B ≤ g) :
    ∃ w', (Builtin.copy_ #[t, t] ty #[.slice (some ⟨g, 0, none⟩) n cap, s]).run P w = .ok (goInt n) w' ∧ Own w' B (.slice (some ⟨g, 0, none⟩) n cap) l ∧ Below B w w' ∧ w.grownBy w' (some g) ∧ w'.heap.size = w.heap.size := by
  subst hn
  obtain ⟨A, c, rfl, hlc, hm, hp⟩ := hr
  by_cases h0 : l.length = 0
  · obtain rfl : l = [] := List.eq_nil_of_length_eq_zero h0
    refine ⟨w, run_copy_none (P := P) w t t ty 5 _ _ _ _ _ _ ht hsz (by simp), ⟨by simp [bcells], .inr ⟨g, cap, cur, rfl, hB, hg, hc, hcm, by omega, by simp [bcells]⟩⟩, Below.refl _ _, World.grownBy.refl _ _, rfl⟩
  · obtain ⟨b, o, rfl, hb, hcell⟩ := hp (by omega)
    have hrun := run_copy_row (P := P) w t t ty 5 g 0 l.length cap ⟨b, o, none⟩ l.length c cur 5 (bcells l) ht hsz hg (by rw [bcells_length]; exact (Nat.min_self _).symm)
      (fun j u hj => by
        rw [bcells_get] at hj
        obtain ⟨x, hx, rfl⟩ := Option.map_eq_some_iff.1 hj
        obtain ⟨hj', rfl⟩ := List.getElem?_eq_some_iff.1 hx
        have := hcell j hj'
        rw [← this]
        unfold Addr.add; split <;> simp_all)
      (by rw [bcells_length]; omega) (bcells_one l)
    rw [bcells_length] at hrun
    have hset := setRow_heap w g cur (cur.toList.take 0 ++ (bcells l ++ cur.toList.drop (0 + l.length))).toArray 5 (0, 0) hg
    refine ⟨_, hrun, ⟨by rw [bcells_length]; omega, .inr ⟨g, cap, _, rfl, hB, hset, by omega, hcm, ?_, ?_⟩⟩, below_setRow (Below.refl _ _) hB _, ?_, by simp [World.setRow]⟩
    · simp [bcells_length]; omega
    · simp [bcells_length, List.take_append_of_le_length, List.take_of_length_le]
    · exact ⟨rfl, rfl, rfl, by simp [World.setRow], fun k hk hne => setRow_other w g k _ (by rintro rfl; exact hne rfl)⟩

theorem wpList_copy_rd {ops : Array Oper} {rest : List Oper} {o : Oper} {a : Act} {Q : Exit → Act → World → Prop} (hgd : o.guard = none) (d sx : Operand) (t : TypeId)
    (ho : o.op = .call { callee := .builtin .copy, args := #[d, sx], argTypes := #[t, t] }) (ht : P.underlying t = some (.slice 5)) (hsz : (P.info? 5).map (·.size) = some 1)
    {s : Value} {Bs g n cap : Nat} {cur : Array Value} (hd : a.eval d = .slice (some ⟨g, 0, none⟩) n cap) (hs : a.eval sx = s) (hr : Rd w Bs s l) (hn : l.length = n) (hg : w.heap[g]? = some (.cells cur 5 (0, 0)))
    (hc : n ≤ cap) (hcs : cur.size = cap) (hcm : cap ≤ maxLen) (hB : B ≤ g)
    (h : ∀ w', Own w' B (.slice (some ⟨g, 0, none⟩) n cap) l → Below B w w' → w'.heap.size = w.heap.size → wpList P ops Q rest (a.put o.dst (goInt n)) w') : wpList P ops Q (o :: rest) a w := by
  refine wpList_plain hgd fun K hK => ?_
  obtain ⟨w', hrun, h1, h2, _, h3⟩ := run_copy_rd (P := P) (B := B) t o.type ht hsz hr hn hg hc hcs hcm hB
  unfold Oper.wp
  simp [execOp, ho, resolve, invoke, builtin, hd, hs, hrun, Result.andThen]
  exact hK _ _ (h w' h1 h2 h3)
end

theorem replicate_bcells (n : Nat) : (List.replicate n (Value.int .u8 0)) = bcells (List.replicate n 0) := by simp [bcells, bval]

theorem Own.alloc (h : Own w B v l) (o : Obj) : Own (w.alloc o) B v l := World.ownsRow.alloc h o
theorem Rd.alloc (h : Rd w B v l) (hB : B ≤ w.heap.size) (o : Obj) : Rd (w.alloc o) B v l := h.keep fun p hp => World.cell?_alloc_lt w o p (by omega)
theorem Own.grown (h : Own w B v l) {row : Option Nat} (hg : w.grownBy w' row) (hne : v.ownBlock = none ∨ v.ownBlock ≠ row) : Own w' B v l := World.ownsRow.kept h hg hne
/-- a literal row -/
theorem rd_lit (w : World) (cs : Array Value) (l : List UInt8) (n : Nat) (hn : n = l.length) (h : cs = (bcells l).toArray) (hm : n ≤ maxLen) : Rd (w.alloc (.cells cs 5)) (w.heap.size + 1) (.slice (some ⟨w.heap.size, 0, none⟩) n n) l := by
  subst h; subst hn
  have := (Own.made (B := 0) w l (Nat.zero_le _) hm).rd
  simpa using this
theorem bval_ofNat (x : Nat) : bval (UInt8.ofNat x) = .int .u8 ((x : Int) % 256) := by simp [bval]
/-- one byte more -/
theorem Own.below_grown {w0 : World} {B0 : Nat} (hb : Below B0 w0 w) (h : Own w B v l) (hB : B0 ≤ B) (hs : B0 ≤ w.heap.size) (hg : w.grownBy w' v.ownBlock) : Below B0 w0 w' := hb.grown hg hs fun k hk => by have := h.lt k hk; omega

/-! ### a string's bytes -/
def strBytes (s : ByteArray) : List UInt8 := s.data.toList
theorem strBytes_length (s : ByteArray) : (strBytes s).length = s.size := by simp [strBytes]
theorem strCells_eq (s : ByteArray) : Lib.strCells s = bcells (strBytes s) := by simp [Lib.strCells, bcells, strBytes, bval]

section
variable {P : Program}
theorem wpList_append_str {ops : Array Oper} {rest : List Oper} {o : Oper} {a : Act} {Q : Exit → Act → World → Prop} (hgd : o.guard = none) (sv sx : Operand) (t u : TypeId)
    (ho : o.op = .call { callee := .builtin .append, args := #[sv, sx], argTypes := #[t, u] })
    (i : TypeInfo) (ht : P.underlying t = some (.slice 5)) (hu : P.underlying u = some .string) (hi : P.info? 5 = some i)
    (hz : i.zero = some (.int .u8 0)) (hsize : i.size = 1) (hby : i.bytes = 1)
    (hs : a.eval sv = v) (hown : Own w B v l) {s : ByteArray} (hx : a.eval sx = .string s)
    (hlen : l.length + s.size ≤ 140737488355328) (hbase : B ≤ w.heap.size)
    (h : ∀ v' w', Own w' B v' (l ++ strBytes s) → w.grownBy w' v.ownBlock → wpList P ops Q rest (a.put o.dst v') w') : wpList P ops Q (o :: rest) a w := by
  refine Lib.wpList_append_own_string w hgd sv sx t u ho B 5 i ht hu hi hz hsize hby v l.length (bcells l) hs hown s hx (by simp only [maxLen]; omega) hlen hbase ?_
  intro v' w' h1 h2 _
  refine h v' w' ?_ h2
  unfold Own
  rw [List.length_append, strBytes_length, bcells_append, ← strCells_eq]
  exact h1
end

/-- 'string(b)' -/
theorem run_str {P : Program} {src dst : TypeId} (hs : P.underlying src = some (.slice 5)) (he : P.underlying 5 = some (.int .u8)) (hd : P.underlying dst = some .string) (h : Rd w B v l) :
    (convert src dst v).run P w = .ok (.string ⟨l.toArray⟩) w := by
  obtain ⟨A, c, rfl, hc, hm, hp⟩ := h
  cases A with
  | none =>
    have h0 : l = [] := by
      rcases Nat.eq_zero_or_pos l.length with h | h
      · exact List.eq_nil_of_length_eq_zero h
      · obtain ⟨b, o, h', _⟩ := hp h; cases h'
    subst h0
    exact run_convert_bytes_nil w src 5 hs he 0 c dst hd
  | some ad =>
    refine run_convert_bytes_back w src dst 5 ad c l hs he hd fun j hj => ?_
    obtain ⟨b, o, h', _, hcell⟩ := hp (by omega)
    injection h' with h'
    subst h'
    rw [← show bval l[j] = .int .u8 (l[j].toNat : Int) from rfl, ← hcell j hj]
    unfold Addr.add; split <;> simp_all
end Go.Proofs.YtniclaapiabmdaaGreatDoor
namespace Go.Proofs.YtniclaapiabmdaaGreatDoor
set_option maxRecDepth 100000
open Go.RowKit

theorem wrap_u32 (n : Int) : IntKind.u32.wrap n = n % 4294967296 := by simp [IntKind.wrap, IntKind.bits, IntKind.signed]
theorem bits32 (op : BinOp) (f : Nat → Nat → Nat) (g : BitVec 32 → BitVec 32 → BitVec 32) (hg : ∀ a b : BitVec 32, (g a b).toNat = f a.toNat b.toNat) (h : ∀ a b : Int, bits op .u32 a b = IntKind.u32.wrap ((g (BitVec.ofInt 32 a) (BitVec.ofInt 32 b)).toNat : Int))
    (a b : Nat) (ha : a < 4294967296) (hb : b < 4294967296) : bits op .u32 (a : Int) (b : Int) = ((f a b : Nat) : Int) := by
  have h1 : (BitVec.ofInt 32 (a : Int)).toNat = a := by
    rw [BitVec.ofInt_natCast, BitVec.toNat_ofNat]; exact Nat.mod_eq_of_lt (by omega)
  have h2 : (BitVec.ofInt 32 (b : Int)).toNat = b := by
    rw [BitVec.ofInt_natCast, BitVec.toNat_ofNat]; exact Nat.mod_eq_of_lt (by omega)
  have h3 := (g (BitVec.ofInt 32 (a : Int)) (BitVec.ofInt 32 (b : Int))).isLt
  rw [h, wrap_u32]
  rw [hg, h1, h2] at h3 ⊢
  omega
theorem or32 (a b : Nat) (ha : a < 4294967296) (hb : b < 4294967296) : bits .or .u32 (a : Int) (b : Int) = ((a ||| b : Nat) : Int) := bits32 .or (· ||| ·) (· ||| ·) BitVec.toNat_or (fun _ _ => rfl) a b ha hb
theorem and32 (a b : Nat) (ha : a < 4294967296) (hb : b < 4294967296) : bits .and .u32 (a : Int) (b : Int) = ((a &&& b : Nat) : Int) := bits32 .and (· &&& ·) (· &&& ·) BitVec.toNat_and (fun _ _ => rfl) a b ha hb
theorem xor32 (a b : Nat) (ha : a < 4294967296) (hb : b < 4294967296) : bits .xor .u32 (a : Int) (b : Int) = ((a ^^^ b : Nat) : Int) := bits32 .xor (· ^^^ ·) (· ^^^ ·) BitVec.toNat_xor (fun _ _ => rfl) a b ha hb

/-! the walk's spelling of a word's operations -/
theorem w_xor (x y : UInt32) : bits .xor .u32 (x.toNat : Int) (y.toNat : Int) = ((x ^^^ y).toNat : Int) := by rw [xor32 _ _ x.toNat_lt y.toNat_lt, UInt32.toNat_xor]
theorem w_and (x y : UInt32) : bits .and .u32 (x.toNat : Int) (y.toNat : Int) = ((x &&& y).toNat : Int) := by rw [and32 _ _ x.toNat_lt y.toNat_lt, UInt32.toNat_and]
theorem w_or (x y : UInt32) : bits .or .u32 (x.toNat : Int) (y.toNat : Int) = ((x ||| y).toNat : Int) := by rw [or32 _ _ x.toNat_lt y.toNat_lt, UInt32.toNat_or]
theorem w_shr (x : UInt32) (n : Nat) (h : n < 32) : (x.toNat : Int) / 2 ^ n = ((x >>> UInt32.ofNat n).toNat : Int) := by
  rw [UInt32.toNat_shiftRight, UInt32.toNat_ofNat', Nat.mod_eq_of_lt (a := n) (by omega), Nat.mod_eq_of_lt h, Nat.shiftRight_eq_div_pow]
  simp
theorem w_shl (x : UInt32) (n : Nat) (h : n < 32) : (x.toNat : Int) * 2 ^ n % 4294967296 = ((x <<< UInt32.ofNat n).toNat : Int) := by
  rw [UInt32.toNat_shiftLeft, UInt32.toNat_ofNat', Nat.mod_eq_of_lt (a := n) (by omega), Nat.mod_eq_of_lt h, Nat.shiftLeft_eq]
  simp
/-- turned right -/
def rotr (x : UInt32) (n : Nat) : UInt32 := (x <<< UInt32.ofNat (32 - n)) ||| (x >>> UInt32.ofNat n)
end Go.Proofs.YtniclaapiabmdaaGreatDoor
namespace Go.Proofs.YtniclaapiabmdaaGreatDoor
set_option maxRecDepth 100000
open Go.RowKit

/-- the lowest k bytes of n, the highest of them first -/
def be (n : Nat) : Nat → List UInt8
  | 0 => []
  | k + 1 => UInt8.ofNat (n / 2 ^ (8 * k)) :: be n k
theorem be_length (n k : Nat) : (be n k).length = k := by induction k <;> simp [be, *]


end Go.Proofs.YtniclaapiabmdaaGreatDoor
namespace Go
variable {P : Program} {ops : Array Oper} {Q : Exit → Act → World → Prop} {rest : List Oper} {a : Act} {w : World} {d : Option Tmp} {tr : TypeId} {pos : String}

theorem at_store (ty : TypeId) {x y : Operand} {af} (h : wpList P ops Q (⟨d, .store ty x y, tr, pos, af, none⟩ :: rest) a w) : wpList P ops Q (⟨d, .store ty x y, tr, pos, af, none⟩ :: rest) a w := h
theorem at_load (ty : TypeId) {x : Operand} {af} (h : wpList P ops Q (⟨d, .load ty x, tr, pos, af, none⟩ :: rest) a w) : wpList P ops Q (⟨d, .load ty x, tr, pos, af, none⟩ :: rest) a w := h
theorem at_build (ty : TypeId) {x} {af} (h : wpList P ops Q (⟨d, .build ty x, tr, pos, af, none⟩ :: rest) a w) : wpList P ops Q (⟨d, .build ty x, tr, pos, af, none⟩ :: rest) a w := h
theorem at_copy {x y} {af} (h : wpList P ops Q (⟨d, .call { callee := .builtin .copy, args := x, argTypes := y }, tr, pos, af, none⟩ :: rest) a w) : wpList P ops Q (⟨d, .call { callee := .builtin .copy, args := x, argTypes := y }, tr, pos, af, none⟩ :: rest) a w := h
end Go
namespace Go.Proofs.YtniclaapiabmdaaGreatDoor
set_option maxRecDepth 100000
open Go Go.RowKit
section
variable {P : Program}
end
end Go.Proofs.YtniclaapiabmdaaGreatDoor
namespace Go.Proofs.YtniclaapiabmdaaGreatDoor
set_option maxRecDepth 100000
open Go.RowKit

theorem Tryz.infoByte : (Tryz.prog.info? 5).map (fun i => (i.zero, i.size, i.bytes)) = some (some (.int .u8 0), 1, 1) := by kernel_rfl
theorem Tryz.sizeByte : (Tryz.prog.info? 5).map (·.size) = some 1 := by kernel_rfl
theorem Tryz.isString : Tryz.prog.underlying 9 = some .string := Tryz.underlying9

theorem Rd.up {w w' : World} {B : Nat} {v : Value} {l : List UInt8} (h : Rd w B v l) (hB : B ≤ w.heap.size) (hb : Below w.heap.size w w') : Rd w' w'.heap.size v l := ((h.more hB).below hb).more hb.size
theorem below_chain {B : Nat} {a b c : World} (h : Below B a b) (hB : B ≤ b.heap.size) (k : Below b.heap.size b c) : Below B a c := h.trans (k.mono hB)
theorem own_empty (w : World) (hB : w.heap.size ≤ w.heap.size) : Own (w.alloc (.cells #[] 5)) w.heap.size (.slice (some ⟨w.heap.size, 0, none⟩) 0 0) [] := by
  simpa [bcells] using Own.made (B := w.heap.size) w [] hB (by simp [maxLen])
theorem Own.rd' {w : World} {B : Nat} {v : Value} {l l' : List UInt8} (h : Own w B v l) (e : l = l') : Rd w w.heap.size v l' := e ▸ h.rd
theorem Own.form' {w : World} {B : Nat} {v : Value} {l : List UInt8} {n : Nat} (h : Own w B v l) (e : l.length = n) : ∃ A c, v = .slice A n c := by subst e; exact h.form
theorem strBytes_extract (s : ByteArray) (n : Nat) : strBytes (s.extract 0 n) = (strBytes s).take n := by
  simp [strBytes, ByteArray.data_extract]
theorem rd_empty {w : World} {B : Nat} {A : Option Addr} {c : Nat} (h : c ≤ maxLen) : Rd w B (.slice A 0 c) [] := ⟨A, c, rfl, by simp, h, fun h => absurd h (by simp)⟩

section
variable {w w' : World} {g : Nat}
theorem blk_cell {t : TypeId} {cs : Array Value} (h : w.heap[g]? = some (.cells cs t (0, 0))) (i : Nat) : w.cell? ⟨g, i, none⟩ = cs[i]? := cell_of_row w g i cs t (0, 0) h
theorem blk_free {t : TypeId} {cs : Array Value} (h : w.heap[g]? = some (.cells cs t (0, 0))) (i : Nat) : w.frozen? ⟨g, i, none⟩ = false := by simp [World.frozen?, h]
theorem blk_lt {o : Obj} (h : w.heap[g]? = some o) : g < w.heap.size := (Array.getElem?_eq_some_iff.1 h).1
theorem blk_set {t : TypeId} {cs : Array Value} (h : w.heap[g]? = some (.cells cs t (0, 0))) (i : Nat) (u : Value) : (w.setCell ⟨g, i, none⟩ u).heap[g]? = some (.cells (cs.setIfInBounds i u) t (0, 0)) := by
  simp [World.setCell, Array.getElem?_modify, h]
end

/-- a cell of a row of the call's own, read and written -/
theorem Own.at_ {w : World} {B : Nat} {A : Option Addr} {n c k : Nat} {l : List UInt8} (h : Own w B (.slice A n c) l) (hk : k < n) (hl : k < l.length) :
    ∃ g, A = some ⟨g, 0, none⟩ ∧ B ≤ g ∧ g < w.heap.size ∧ w.cell? ⟨g, k, none⟩ = some (.int .u8 (l[k].toNat : Int)) ∧ w.frozen? ⟨g, k, none⟩ = false ∧
      ∀ x, Own (w.setCell ⟨g, k, none⟩ (bval x)) B (.slice A n c) (l.set k x) := by
  have hn : l.length = n := by
    rcases h.2 with ⟨h0, h1⟩ | ⟨g, cap, cur, hv, _⟩
    · injection h0 with _ h0 _; omega
    · injection hv with _ hv _; omega
  have hlt := h.lt
  rcases h.2 with ⟨h0, _⟩ | ⟨g, cap, cur, hv, hB, hg, hr⟩
  · injection h0 with _ h0 _; omega
  · injection hv with h1 h2 h3
    subst h1; subst h2; subst h3
    have hlt := (Array.getElem?_eq_some_iff.1 hg).1
    refine ⟨g, rfl, hB, hlt, ?_, World.ownsRow.frozenAt (h : w.ownsRow B _ 1 _ _ _) k, fun x => ?_⟩
    · rw [World.ownsRow.cellAt (h : w.ownsRow B _ 1 _ _ _) k (by omega), bcells_get, List.getElem?_eq_getElem hl]; rfl
    · have := World.ownsRow.stored (h : w.ownsRow B _ 1 _ _ _) k (bval x)
      unfold Own
      rw [List.length_set]
      have e : bcells (l.set k x) = (bcells l).set k (bval x) := by simp [bcells, List.map_set]
      rw [e]
      exact this.1
end Go.Proofs.YtniclaapiabmdaaGreatDoor
namespace Go.Proofs.YtniclaapiabmdaaGreatDoor
set_option maxRecDepth 100000
open Go.RowKit

/-- are the two the same bytes? -/
def sameB (l m : List UInt8) : Bool := decide (l = m)
end Go.Proofs.YtniclaapiabmdaaGreatDoor
namespace Go.Proofs.YtniclaapiabmdaaGreatDoor
set_option maxRecDepth 100000
open Go Go.RowKit

theorem equal_any (v1 v2 : Value) (l m : List UInt8) (w : World) (h1 : Rd w w.heap.size v1 l) (h2 : Rd w w.heap.size v2 m) :
    Calls Tryz.prog 83 #[v1, v2] w fun e w' => e = .returned (.bool (sameB l m)) ∧ w = w' := by
  have e1 := run_str (P := Tryz.prog) (src := 27) (dst := 9) Tryz.underlying27 Tryz.underlying5 Tryz.isString h1
  have e2 := run_str (P := Tryz.prog) (src := 27) (dst := 9) Tryz.underlying27 Tryz.underlying5 Tryz.isString h2
  obtain ⟨A1, c1, rfl⟩ := h1.form
  obtain ⟨A2, c2, rfl⟩ := h2.form
  have hs : Hid (sameB l m = decide (l = m)) := Lib.hid rfl
  go_enter Tryz.func83, Tryz.ntmps83
  go_wp2_with fail
  go_ret
  refine ⟨?_, rfl⟩
  rw [hs.out]
  have hb : (l == m) = decide (l = m) := by rw [Bool.eq_iff_iff]; simp
  rw [← hb]
  rfl
end Go.Proofs.YtniclaapiabmdaaGreatDoor
namespace Go.Proofs.YtniclaapiabmdaaGreatDoor
set_option maxRecDepth 100000
open Go.RowKit

set_option maxHeartbeats 400000 in
/-- a copy in new memory; of nil: nil -/
theorem clone_any (v : Value) (l : List UInt8) (w : World) (hr : Rd w w.heap.size v l) (hl : l.length ≤ 140737488355320) :
    Calls Tryz.prog 47 #[v] w fun e w' => ∃ v', e = .returned v' ∧ Own w' w.heap.size v' l ∧ Below w.heap.size w w' := by
  obtain ⟨i0, hi, hz, hsz, hby⟩ := info_parts Tryz.infoByte
  have hbe : Below w.heap.size w (w.alloc (.cells #[] 5)) := (Below.refl _ _).alloc (Nat.le_refl _) _
  have hr0 := hr
  obtain ⟨A, c, rfl, hc, hcm, hp⟩ := hr
  cases A with
  | none =>
    have h0 : l = [] := by
      rcases Nat.eq_zero_or_pos l.length with h | h
      · exact List.eq_nil_of_length_eq_zero h
      · obtain ⟨b, o, h', _⟩ := hp h; cases h'
    subst h0
    have hq := fun (W : World) => Lib.run_eql_slice_nil (P := Tryz.prog) W 27 5 none 0 c 0 0 Tryz.underlying27
    go_enter Tryz.func47, Tryz.ntmps47
    go_wp2
    go_ret
    exact ⟨_, rfl, Own.nil _ _, Below.refl _ _⟩
  | some ad =>
    have hq := fun (W : World) => Lib.run_eql_slice_nil (P := Tryz.prog) W 27 5 (some ad) l.length c 0 0 Tryz.underlying27
    go_enter Tryz.func47, Tryz.ntmps47
    go_wp2_with (at_builtin; refine wpList_append_rd rfl (.tmp 5) (.tmp 6) _ rfl i0 Tryz.underlying27 hi hz hsz hby rfl (own_empty w (Nat.le_refl _)) rfl (hr0.below hbe) (by simp; omega) hbe.size ?_; intro v1 w1 ho1 hg1 _)
    go_ret
    exact ⟨_, rfl, ho1, Own.below_grown hbe (own_empty w (Nat.le_refl _)) (Nat.le_refl _) hbe.size hg1⟩
end Go.Proofs.YtniclaapiabmdaaGreatDoor
namespace Go.Proofs.YtniclaapiabmdaaGreatDoor
set_option maxRecDepth 100000
open Go Go.RowKit
set_option linter.unusedVariables false

/-- nothing has turned but blocks that F names -/
structure Chg (w w' : World) (F : Nat → Prop) : Prop where
  os : w'.os = w.os
  tape : w'.tape = w.tape
  output : w'.output = w.output
  size : w.heap.size ≤ w'.heap.size
  block : ∀ k, k < w.heap.size → ¬ F k → w'.heap[k]? = w.heap[k]?
/-- F, and the blocks that came since -/
def Ext (F : Nat → Prop) (w w' : World) : Nat → Prop := fun k => F k ∨ (w.heap.size ≤ k ∧ k < w'.heap.size)

section
variable {w w' w1 w2 : World} {F G : Nat → Prop} {B : Nat}
theorem Chg.refl (w : World) (F : Nat → Prop) : Chg w w F := ⟨rfl, rfl, rfl, Nat.le_refl _, fun _ _ _ => rfl⟩
theorem Chg.mono (h : Chg w w' F) (hF : ∀ k, k < w.heap.size → F k → G k) : Chg w w' G := ⟨h.os, h.tape, h.output, h.size, fun k h1 h2 => h.block k h1 fun h3 => h2 (hF k h1 h3)⟩
theorem Chg.trans (h : Chg w w1 F) (k : Chg w1 w2 (Ext F w w1)) : Chg w w2 F :=
  ⟨k.os.trans h.os, k.tape.trans h.tape, k.output.trans h.output, Nat.le_trans h.size k.size, fun i hi hn => (k.block i (Nat.lt_of_lt_of_le hi h.size) (fun e => e.elim hn fun e => by omega)).trans (h.block i hi hn)⟩
theorem Chg.trans' (h : Chg w w1 F) (k : Chg w1 w2 F) : Chg w w2 F := h.trans (k.mono fun _ _ => Or.inl)
theorem Chg.of_below (h : Below w.heap.size w w') (F : Nat → Prop) : Chg w w' F := ⟨h.os, h.tape, h.output, h.size, fun k hk _ => h.block k hk⟩
theorem Chg.of_grown {row : Option Nat} (h : w.grownBy w' row) (hF : ∀ k, row = some k → F k) : Chg w w' F := ⟨h.os, h.tape, h.output, h.size, fun k hk hn => h.block k hk fun e => hn (hF k e.symm)⟩
theorem Chg.set (w : World) {p : Addr} (hF : F p.block) (u : Value) : Chg w (w.setCell p u) F :=
  ⟨rfl, rfl, rfl, by simp [World.setCell], fun k _ hn => Below.heap_setCell w p u k (by rintro rfl; exact hn hF)⟩
theorem Chg.drew (w : World) (F : Nat → Prop) : Chg w w.drew F := ⟨rfl, rfl, rfl, Nat.le_refl _, fun _ _ _ => rfl⟩
theorem Chg.alloc (w : World) (F : Nat → Prop) (o : Obj) : Chg w (w.alloc o) F := .of_below ((Below.refl _ _).alloc (Nat.le_refl _) _) F
theorem Chg.below (h : Chg w w' F) (hF : ∀ k, F k → B ≤ k) (hB : B ≤ w.heap.size) : Below B w w' := ⟨h.os, h.tape, h.output, h.size, fun k hk => h.block k (by omega) fun e => by have := hF k e; omega⟩
theorem Ext.here {k : Nat} (h : F k) : Ext F w w' k := .inl h
theorem Ext.lt (hF : ∀ k, F k → k < w.heap.size) (hs : w.heap.size ≤ w'.heap.size) : ∀ k, Ext F w w' k → k < w'.heap.size := fun k h => h.elim (fun h => by have := hF k h; omega) And.right
theorem cell_same {p : Addr} (h : w'.heap[p.block]? = w.heap[p.block]?) : w'.cell? p = w.cell? p := World.cell?_of_block h
end

end Go.Proofs.YtniclaapiabmdaaGreatDoor
namespace Go.Proofs.YtniclaapiabmdaaGreatDoor
set_option maxRecDepth 100000
open Go Go.RowKit Go.Maps
open Go.WideMaps (keyOf_string_mk)
set_option linter.unusedVariables false

/-- an element reads as itself -/
def rawR (v : Value) : Option (DataW Value × List MemPlace) := some (.held v, [])
theorem rawR_inv {v : Value} {y : DataW Value × List MemPlace} (h : rawR v = some y) : y = (.held v, []) := by
  unfold rawR at h; exact (Option.some.inj h).symm

def litS (s : ByteArray) : Lit := .string s.data.toList
theorem litS_inj {a b : ByteArray} (h : litS a = litS b) : a = b := by
  unfold litS at h
  injection h with h
  cases a with | mk a => cases b with | mk b =>
  simpa using h
theorem litS_key (s : ByteArray) : WideAt.IsKeyLit (litS s) := trivial

def AsF (D : DataW Value) (f : ByteArray → Option Value) : Prop :=
  ∀ s : ByteArray, s.size ≤ maxLen → (f s = none ∧ has D (litS s) = false) ∨ ∃ v, f s = some v ∧ has D (litS s) = true ∧ ∀ z, D.atKey (litS s) z = .held v

theorem AsF.nil : AsF (.map []) (fun _ => none) := fun s _ => .inl ⟨rfl, rfl⟩

theorem AsF.put {D : DataW Value} {f : ByteArray → Option Value} (h : AsF D f) (hD : IsMap D) (key : ByteArray) (v : Value) : AsF (D.put (litS key) (.held v)) (fun s => if s = key then some v else f s) := by
  intro s hs
  by_cases e : s = key
  · subst e
    exact .inr ⟨v, by simp, has_put_same hD (litS_key _) _, fun z => atKey_put_same hD (litS_key _) _ _⟩
  · have hne : litS s ≠ litS key := fun e' => e (litS_inj e')
    rcases h s hs with ⟨h1, h2⟩ | ⟨x, h1, h2, h3⟩
    · exact .inl ⟨by simp [e, h1], by rw [has_put_other hne]; exact h2⟩
    · exact .inr ⟨x, by simp [e, h1], by rw [has_put_other hne]; exact h2, fun z => by rw [atKey_put_other hne]; exact h3 z⟩

theorem AsF.del {D : DataW Value} {f : ByteArray → Option Value} (h : AsF D f) (key : ByteArray) : AsF (D.del (litS key)) (fun s => if s = key then none else f s) := by
  intro s hs
  by_cases e : s = key
  · subst e
    exact .inl ⟨by simp, has_del_same⟩
  · have hne : litS s ≠ litS key := fun e' => e (litS_inj e')
    rcases h s hs with ⟨h1, h2⟩ | ⟨x, h1, h2, h3⟩
    · exact .inl ⟨by simp [e, h1], by rw [has_del_other hne]; exact h2⟩
    · exact .inr ⟨x, by simp [e, h1], by rw [has_del_other hne]; exact h2, fun z => by rw [atKey_del_other hne]; exact h3 z⟩

section
variable {P : Program} {k : TypeId} {w : World} {b n : Nat} {f : ByteArray → Option Value}

/-- block b is a map of at most n entries: under the text s lies f s -/
def MapS (P : Program) (k : TypeId) (w : World) (b n : Nat) (f : ByteArray → Option Value) : Prop :=
  ∃ D : DataW Value, w.ownsMap P k rawR b n D ∧ AsF D f

theorem MapS.made (w : World) : MapS P k (w.alloc (.map #[] 0)) w.heap.size 0 (fun _ => none) := ⟨_, World.ownsMap_made _ _ _ _, AsF.nil⟩
theorem MapS.mono (h : MapS P k w b n f) {m : Nat} (hn : n ≤ m) : MapS P k w b m f := by
  obtain ⟨D, h1, h2⟩ := h; exact ⟨D, h1.mono hn, h2⟩
theorem MapS.lt (h : MapS P k w b n f) : b < w.heap.size := by
  obtain ⟨D, h1, _⟩ := h; exact h1.lt
theorem MapS.kept {w' : World} {row : Option Nat} (h : MapS P k w b n f) (hg : w.grownBy w' row) (hne : some b ≠ row) : MapS P k w' b n f := by
  obtain ⟨D, h1, h2⟩ := h; exact ⟨D, h1.kept hg hne, h2⟩
theorem MapS.congr (h : MapS P k w b n f) {g : ByteArray → Option Value} (e : ∀ s, s.size ≤ maxLen → f s = g s) : MapS P k w b n g := by
  obtain ⟨D, h1, h2⟩ := h; exact ⟨D, h1, fun s hs => by rw [← e s hs]; exact h2 s hs⟩

/-- 'v, ok := m[key]' -/
theorem MapS.look {t e : TypeId} (h : MapS P k w b n f) (hk : P.underlying k = some .string) (ht : P.underlying t = some (.map k e)) {z : Value} (hz : (zeroValue e).run P w = .ok z w) {key : ByteArray} (hl : key.size ≤ maxLen) :
    (Instr.lookup t (.map (some b)) (.string key) true).run P w = .ok (.tuple #[(f key).getD z, .bool (f key).isSome]) w := by
  obtain ⟨D, ⟨es, clock, hb, F, _, rfl⟩, hF⟩ := h
  have hkey : keyOf P k (.string key) = some (litS key) := keyOf_string_mk hk hl
  rcases Maps.fit_look true (string_keyed hk) ht hz hb F hkey with ⟨hrun, _, hat⟩ | ⟨e0, y, _, _, hrun, hRv, hat, _⟩
  · have hh := Maps.has_false_of_atKey hat
    rcases hF key hl with ⟨h1, h2⟩ | ⟨v, h1, h2, h3⟩
    · rw [h1]; exact hrun
    · rw [hh] at h2; cases h2
  · have hh := Maps.has_true_of_atKey hat
    rcases hF key hl with ⟨h1, h2⟩ | ⟨v, h1, h2, h3⟩
    · rw [hh] at h2; cases h2
    · have e1 := rawR_inv hRv
      have e2 := (h3 .nil).symm.trans (hat .nil)
      rw [e1] at e2
      have e3 : v = e0.val := by injection e2
      rw [h1, e3]; exact hrun

/-- 'm[key] = v' -/
theorem MapS.store {t e : TypeId} (h : MapS P k w b n f) (hk : P.underlying k = some .string) (ht : P.underlying t = some (.map k e)) (hn : n < maxLen) {key : ByteArray} (hl : key.size ≤ maxLen) (v : Value) :
    ∃ w', (Instr.mapUpdate t (.map (some b)) (.string key) v).run P w = .ok () w' ∧ MapS P k w' b (n + 1) (fun s => if s = key then some v else f s) ∧ w.mapTurned w' b := by
  obtain ⟨D, h1, hF⟩ := h
  have hkey : keyOf P k (.string key) = some (litS key) := keyOf_string_mk hk hl
  obtain ⟨w', hrun, h2, h3⟩ := h1.store (string_keyed hk) ht hn hkey (rfl : rawR v = some (.held v, []))
  exact ⟨w', hrun, ⟨_, h2, hF.put h1.isMap key v⟩, h3⟩

/-- 'delete(m, key)' -/
theorem MapS.drop {t e : TypeId} (h : MapS P k w b n f) (hk : P.underlying k = some .string) (ht : P.underlying t = some (.map k e)) {key : ByteArray} (hl : key.size ≤ maxLen) (ty : TypeId) :
    ∃ w', (Builtin.delete_ #[t, k] ty #[.map (some b), .string key]).run P w = .ok (.tuple #[]) w' ∧ MapS P k w' b n (fun s => if s = key then none else f s) ∧ w.mapTurned w' b := by
  obtain ⟨D, h1, hF⟩ := h
  have hkey : keyOf P k (.string key) = some (litS key) := keyOf_string_mk hk hl
  obtain ⟨w', hrun, h2, h3⟩ := h1.drop (string_keyed hk) ht hkey ty
  exact ⟨w', hrun, ⟨_, h2, hF.del key⟩, h3⟩

/-- 'clear(m)' -/
theorem MapS.clear {t e : TypeId} (h : MapS P k w b n f) (ht : P.underlying t = some (.map k e)) (ty : TypeId) :
    ∃ w', (Builtin.clear_ #[t] ty #[.map (some b)]).run P w = .ok (.tuple #[]) w' ∧ MapS P k w' b 0 (fun _ => none) ∧ w.mapTurned w' b := by
  obtain ⟨D, ⟨es, clock, hb, F, hs, rfl⟩, hF⟩ := h
  refine ⟨Go.ChangeMaps.setBlock w b (.map #[] clock), ?_, ⟨.map [], ⟨#[], clock, Go.ChangeMaps.heap_setBlock_same hb _, ⟨by simp, ?_, fun x hx => by simp at hx⟩, by simp, rfl⟩, AsF.nil⟩, ⟨es, clock, #[], clock, hb, rfl⟩⟩
  · simp [Builtin.clear_, run_underlying ht, MapKept.run_getObj_map hb, MapKept.run_setObj_map _ hb, Result.andThen, Go.ChangeMaps.setBlock]
  · exact ⟨by simp, by simp⟩
end

/-! ### at the operation, for the walk -/
section
variable {P : Program} (w : World) {ops : Array Oper} {rest : List Oper} {o : Oper} {a : Act} {Q : Exit → Act → World → Prop}

theorem wpList_drop_s (hg : o.guard = none) (m x : Operand) (t k : TypeId) (hop : o.op = Op.call { callee := Callee.builtin Builtin.delete, args := #[m, x], argTypes := #[t, k] }) (e : TypeId) (hk : P.underlying k = some .string) (ht : P.underlying t = some (.map k e)) (b n : Nat) (f : ByteArray → Option Value)
    (hm : a.eval m = .map (some b)) (h : MapS P k w b n f) (key : ByteArray) (hx : a.eval x = .string key) (hl : key.size ≤ maxLen)
    (hK : ∀ w', MapS P k w' b n (fun s => if s = key then none else f s) → w.mapTurned w' b → wpList P ops Q rest (a.put o.dst (.tuple #[])) w') :
    wpList P ops Q (o :: rest) a w := by
  refine wpList_plain hg fun K' hK' => ?_
  obtain ⟨w', hrun, r1, r2⟩ := h.drop hk ht hl o.type
  unfold Oper.wp
  simp [execOp, hop, resolve, invoke, builtin, hm, hx, hrun, Result.andThen]
  exact hK' _ _ (hK w' r1 r2)

theorem wpList_store_s (hg : o.guard = none) (m x v : Operand) (t : TypeId) (hop : o.op = Op.mapUpdate t m x v) (k e : TypeId) (hk : P.underlying k = some .string) (ht : P.underlying t = some (.map k e)) (b n : Nat) (f : ByteArray → Option Value)
    (hm : a.eval m = .map (some b)) (h : MapS P k w b n f) (hn : n < maxLen) (key : ByteArray) (val : Value) (hx : a.eval x = .string key) (hv : a.eval v = val) (hl : key.size ≤ maxLen)
    (hK : ∀ w', MapS P k w' b (n + 1) (fun s => if s = key then some val else f s) → w.mapTurned w' b → wpList P ops Q rest (a.put o.dst undef) w') :
    wpList P ops Q (o :: rest) a w := by
  refine wpList_plain hg fun K' hK' => ?_
  obtain ⟨w', hrun, r1, r2⟩ := h.store hk ht hn hl val
  unfold Oper.wp
  simp [execOp, hop, hm, hx, hv, hrun, Result.andThen]
  exact hK' _ _ (hK w' r1 r2)

/-- 'for key, x := range m' under way: which keys are still to come -/
def RangeS (P : Program) (k : TypeId) (w : World) (b r n : Nat) (f : ByteArray → Option Value) (left : ByteArray → Bool) (cnt : Nat) : Prop :=
  ∃ (D : DataW Value) (lf : Lit → Bool), w.ranges P k rawR b r n D lf cnt ∧ AsF D f ∧ ∀ s : ByteArray, s.size ≤ maxLen → lf (litS s) = left s

theorem RangeS.owns {k : TypeId} {w : World} {b r n : Nat} {f : ByteArray → Option Value} {left : ByteArray → Bool} {cnt : Nat} (h : RangeS P k w b r n f left cnt) : MapS P k w b n f := by
  obtain ⟨D, lf, h1, h2, h3⟩ := h; exact ⟨D, h1.owns, h2⟩
theorem RangeS.left_eq {k : TypeId} {w : World} {b r n : Nat} {f : ByteArray → Option Value} {left : ByteArray → Bool} {cnt : Nat} (h : RangeS P k w b r n f left cnt) : w.rangeLeft b r = cnt := by
  obtain ⟨D, lf, h1, h2, h3⟩ := h; exact h1.left_eq
theorem RangeS.kept {k : TypeId} {w w' : World} {b r n : Nat} {f : ByteArray → Option Value} {left : ByteArray → Bool} {cnt : Nat} {row : Option Nat} (h : RangeS P k w b r n f left cnt) (hg : w.grownBy w' row) (h1 : some b ≠ row) (h2 : some r ≠ row) : RangeS P k w' b r n f left cnt := by
  obtain ⟨D, lf, g1, g2, g3⟩ := h; exact ⟨D, lf, g1.kept hg h1 h2, g2, g3⟩

theorem wpList_range_s (hg : o.guard = none) (m : Operand) (t : TypeId) (hop : o.op = Op.range t m) (k e : TypeId) (hk : P.underlying k = some .string) (ht : P.underlying t = some (.map k e)) (b n : Nat) (f : ByteArray → Option Value)
    (hm : a.eval m = .map (some b)) (h : MapS P k w b n f)
    (hK : ∀ w' cnt, cnt ≤ n → RangeS P k w' b w.heap.size n f (fun s => (f s).isSome) cnt → w.grownBy w' none → w'.heap.size = w.heap.size + 1 → wpList P ops Q rest (a.put o.dst (.pointer (some ⟨w.heap.size, 0, none⟩))) w') :
    wpList P ops Q (o :: rest) a w := by
  obtain ⟨D, h1, hF⟩ := h
  refine wpList_range_own w hg m t hop k e (string_keyed hk) ht rawR b n D hm h1 ?_
  intro w' g1 g2 g3
  refine hK w' _ h1.size_le ⟨D, _, g1, hF, fun s hs => ?_⟩ g2 g3
  rcases hF s hs with ⟨e1, e2⟩ | ⟨v, e1, e2, _⟩ <;> simp [e1, e2]

theorem wpList_next_s (hg : o.guard = none) (it : Operand) (hop : o.op = Op.next it false) (k : TypeId) (hk : P.underlying k = some .string) (b r n : Nat) (f : ByteArray → Option Value) (left : ByteArray → Bool) (cnt : Nat)
    (hit : a.eval it = .pointer (some ⟨r, 0, none⟩)) (h : RangeS P k w b r n f left cnt)
    (hDone : (∀ s : ByteArray, s.size ≤ maxLen → left s = false) → wpList P ops Q rest (a.put o.dst (.tuple #[.bool false])) w)
    (hMore : ∀ (x : ByteArray) (c : Value) (w' : World) (cnt' : Nat), x.size ≤ maxLen → left x = true → f x = some c → RangeS P k w' b r n f (fun s => left s && !decide (s = x)) cnt' → cnt' < cnt →
      w.grownBy w' (some r) → w'.heap.size = w.heap.size → (Instr.entry (.pointer (some ⟨r, 0, none⟩))).run P w' = .ok (.tuple #[.string x, c]) w' → wpList P ops Q rest (a.put o.dst (.tuple #[.bool true, .string x, c])) w') :
    wpList P ops Q (o :: rest) a w := by
  obtain ⟨D, lf, h1, hF, hl⟩ := h
  refine wpList_next_ranges w hg it hop k (string_keyed hk) rawR Value.string id (fun key kl hkey => ?_) (fun v y hv => ⟨v, rfl⟩) b r n D lf cnt hit h1 ?_ ?_
  · rw [keyOf_string hk] at hkey
    cases key <;> simp [mapKey, hk] at hkey
    exact ⟨_, rfl⟩
  · intro hc hall
    exact hDone fun s hs => by rw [← hl s hs]; exact hall _
  · intro x c kl y w' cnt' hkey hlk hR hat hrg hlt hg1 hs1 hen
    have hkl : x.size ≤ maxLen ∧ kl = litS x := by
      rw [keyOf_string hk] at hkey
      simp [mapKey, hk] at hkey
      exact ⟨hkey.1, hkey.2.symm⟩
    obtain ⟨hx, rfl⟩ := hkl
    have e1 := rawR_inv hR
    rw [e1] at hat
    refine hMore x c w' cnt' hx (by rw [← hl x hx]; exact hlk) ?_ ⟨D, _, hrg, hF, fun s hs => ?_⟩ hlt hg1 hs1 hen
    · rcases hF x hx with ⟨h1, h2⟩ | ⟨v, h1, h2, h3⟩
      · rw [Maps.has_true_of_atKey hat] at h2; cases h2
      · have e2 := (h3 .nil).symm.trans (hat .nil)
        have e3 : v = c := by injection e2
        rw [h1, e3]
    · rw [hl s hs]
      congr 1
      by_cases e : s = x
      · subst e; simp [WideAt.sameKey_self (litS_key _)]
      · simp [e, Maps.sameKey_ne (fun e' => e (litS_inj e'))]
end
end Go.Proofs.YtniclaapiabmdaaGreatDoor
namespace Go.Proofs.YtniclaapiabmdaaGreatDoor
set_option maxRecDepth 100000
open Go.RowKit
variable {P : Program} {w w' : World} {g B : Nat} {L l : List UInt8}

/-- block g holds the bytes L, and may be written -/
def Blk (w : World) (g : Nat) (L : List UInt8) : Prop := w.heap[g]? = some (.cells (bcells L).toArray 5 (0, 0))
theorem Blk.lt (h : Blk w g L) : g < w.heap.size := blk_lt h
theorem Blk.drew (h : Blk w g L) : Blk w.drew g L := h
theorem Blk.drewN (h : Blk w g L) (k : Nat) : Blk (w.drewN k) g L := h
theorem Blk.below (h : Blk w g L) (hb : Below w.heap.size w w') : Blk w' g L := (hb.block g h.lt).trans h
theorem Blk.own (h : Blk w g L) (hB : B ≤ g) (hm : L.length ≤ maxLen) : Own w B (.slice (some ⟨g, 0, none⟩) L.length L.length) L :=
  ⟨by rw [bcells_length]; omega, .inr ⟨g, L.length, _, rfl, hB, h, Nat.le_refl _, hm, by simp [bcells_length], by simp [bcells_length, List.take_of_length_le]⟩⟩
theorem Blk.set (h : Blk w g L) (i : Nat) (x : UInt8) : Blk (w.setCell ⟨g, i, none⟩ (.int .u8 (x.toNat : Int))) g (L.set i x) := by
  unfold Blk
  rw [blk_set h]
  congr 2
  simp [bcells, bval]
theorem Blk.cell (h : Blk w g L) (i : Nat) (hi : i < L.length) : w.cell? ⟨g, i, none⟩ = some (.int .u8 (L[i].toNat : Int)) := by
  rw [blk_cell h]
  simp [bcells, bval, hi]
theorem Blk.free (h : Blk w g L) (i : Nat) : w.frozen? ⟨g, i, none⟩ = false := blk_free h i

theorem made_zeros (z : Value) (n : Nat) (hz : z = .int .u8 0) : madeCells z.cells (n * 1) = (bcells (List.replicate n 0)).toArray := by
  subst hz
  rw [← replicate_bcells]
  apply Array.ext
  · simp [size_madeCells]
  · intro i h1 h2
    simp [madeCells, Value.cells, Nat.mod_one]

theorem wpList_make_zero {ops : Array Oper} {rest : List Oper} {o : Oper} {a : Act} {Q : Exit → Act → World → Prop} (hg : o.guard = none) (lx cx : Operand) (t : TypeId) (hop : o.op = Op.makeSlice t lx cx)
    (ht : P.underlying t = some (.slice 5)) (i : TypeInfo) (hi : P.info? 5 = some i) (hz : i.zero = some (.int .u8 0)) (hs : i.size = 1) (hb : i.bytes = 1)
    (n : Nat) (hl : a.eval lx = .int .i64 (n : Int)) (hc : a.eval cx = .int .i64 (n : Int)) (hn : n ≤ 140737488355328)
    (h : Blk (w.alloc (.cells (bcells (List.replicate n 0)).toArray 5)) w.heap.size (List.replicate n 0) → wpList P ops Q rest (a.put o.dst (.slice (some ⟨w.heap.size, 0, none⟩) n n)) (w.alloc (.cells (bcells (List.replicate n 0)).toArray 5))) :
    wpList P ops Q (o :: rest) a w := by
  refine wpList_plain hg fun K hK => ?_
  have hr := run_make (P := P) w t 5 i _ ht hi hz .i64 .i64 n n (by omega) (Int.le_refl _) (by rw [hb]; omega) (by omega)
  rw [hs] at hr
  simp only [Int.toNat_natCast] at hr
  rw [made_zeros _ _ rfl] at hr
  unfold Oper.wp execOp
  simp only [hop, hl, hc, hr, Sem.run_bind, Result.andThen_ok]
  exact hK _ _ (h (heap_alloc_new w _))

/-- l copied over L from off on -/
def over (L : List UInt8) (off : Nat) (l : List UInt8) : List UInt8 := L.take off ++ (l ++ L.drop (off + l.length))
theorem over_length {off : Nat} (h : off + l.length ≤ L.length) : (over L off l).length = L.length := by simp [over]; omega

theorem run_copy_part (t ty : TypeId) (ht : P.underlying t = some (.slice 5)) (hsz : (P.info? 5).map (·.size) = some 1)
    {s : Value} {Bs off dl dc : Nat} (hr : Rd w Bs s l) (hg : Blk w g L) (hd : l.length ≤ dl) (hf : off + l.length ≤ L.length) :
    ∃ w', (Builtin.copy_ #[t, t] ty #[.slice (some ⟨g, off, none⟩) dl dc, s]).run P w = .ok (goInt l.length) w' ∧ Blk w' g (over L off l) ∧ (∀ B, B ≤ g → Below B w w') ∧ w'.heap.size = w.heap.size ∧ ∀ k, k ≠ g → w'.heap[k]? = w.heap[k]? := by
  obtain ⟨A, c, rfl, hlc, hm, hp⟩ := hr
  by_cases h0 : l.length = 0
  · obtain rfl : l = [] := List.eq_nil_of_length_eq_zero h0
    refine ⟨w, run_copy_none (P := P) w t t ty 5 _ _ _ _ _ _ ht hsz (by simp), ?_, fun _ _ => Below.refl _ _, rfl, fun _ _ => rfl⟩
    simpa [over] using hg
  · obtain ⟨b, o, rfl, hb, hcell⟩ := hp (by omega)
    have hrun := run_copy_row (P := P) w t t ty 5 g off dl dc ⟨b, o, none⟩ l.length c (bcells L).toArray 5 (bcells l) ht hsz hg (by rw [bcells_length]; exact (Nat.min_eq_left hd).symm)
      (fun j u hj => by
        rw [bcells_get] at hj
        obtain ⟨x, hx, rfl⟩ := Option.map_eq_some_iff.1 hj
        obtain ⟨hj', rfl⟩ := List.getElem?_eq_some_iff.1 hx
        have := hcell j hj'
        rw [← this]
        unfold Addr.add; split <;> simp_all)
      (by rw [bcells_length]; simp [bcells_length]; omega) (bcells_one l)
    rw [bcells_length] at hrun
    have hset := setRow_heap w g (bcells L).toArray (((bcells L).toArray.toList.take off) ++ bcells l ++ (bcells L).toArray.toList.drop (off + l.length)).toArray 5 (0, 0) hg
    refine ⟨_, hrun, ?_, fun B hB => below_setRow (Below.refl _ _) hB _, by simp [World.setRow], fun k hk => setRow_other w g k _ hk⟩
    unfold Blk
    rw [hset]
    simp [over, bcells, List.map_take, List.map_drop]

theorem wp_copy_part {o : Oper} {a : Act} {K : Act → World → Prop} {Q : Exit → Act → World → Prop} (d sx : Operand) (t : TypeId)
    (ho : o.op = .call { callee := .builtin .copy, args := #[d, sx], argTypes := #[t, t] }) (ht : P.underlying t = some (.slice 5)) (hsz : (P.info? 5).map (·.size) = some 1)
    {s : Value} {Bs off dl dc : Nat} (hd : a.eval d = .slice (some ⟨g, off, none⟩) dl dc) (hs : a.eval sx = s) (hr : Rd w Bs s l) (hg : Blk w g L) (hdl : l.length ≤ dl) (hf : off + l.length ≤ L.length)
    (h : ∀ w', Blk w' g (over L off l) → (∀ B, B ≤ g → Below B w w') → w'.heap.size = w.heap.size → (∀ k, k ≠ g → w'.heap[k]? = w.heap[k]?) → K (a.put o.dst (goInt l.length)) w') : o.wp P a w K Q := by
  obtain ⟨w', hrun, h1, h2, h3, h4⟩ := run_copy_part (P := P) t o.type ht hsz hr hg hdl hf
  unfold Oper.wp
  simp [execOp, ho, resolve, invoke, builtin, hd, hs]
  rw [hrun]
  exact h w' h1 h2 h3 h4

theorem wpList_copy_part {ops : Array Oper} {rest : List Oper} {o : Oper} {a : Act} {Q : Exit → Act → World → Prop} (hgd : o.guard = none) (d sx : Operand) (t : TypeId)
    (ho : o.op = .call { callee := .builtin .copy, args := #[d, sx], argTypes := #[t, t] }) (ht : P.underlying t = some (.slice 5)) (hsz : (P.info? 5).map (·.size) = some 1)
    {s : Value} {Bs off dl dc : Nat} (hd : a.eval d = .slice (some ⟨g, off, none⟩) dl dc) (hs : a.eval sx = s) (hr : Rd w Bs s l) (hg : Blk w g L) (hdl : l.length ≤ dl) (hf : off + l.length ≤ L.length)
    (h : ∀ w', Blk w' g (over L off l) → (∀ B, B ≤ g → Below B w w') → w'.heap.size = w.heap.size → (∀ k, k ≠ g → w'.heap[k]? = w.heap[k]?) → wpList P ops Q rest (a.put o.dst (goInt l.length)) w') : wpList P ops Q (o :: rest) a w := by
  refine wpList_plain hgd fun K hK => ?_
  obtain ⟨w', hrun, h1, h2, h3, h4⟩ := run_copy_part (P := P) t o.type ht hsz hr hg hdl hf
  unfold Oper.wp
  simp [execOp, ho, resolve, invoke, builtin, hd, hs]
  rw [hrun]
  exact hK _ _ (h w' h1 h2 h3 h4)
end Go.Proofs.YtniclaapiabmdaaGreatDoor
