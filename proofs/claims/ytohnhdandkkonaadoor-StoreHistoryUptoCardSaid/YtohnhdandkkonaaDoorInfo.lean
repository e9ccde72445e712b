
/- What the program's table says of bytes and texts. -/
import Derived.Test.YtohnhdandkkonaaDoorProg
import Derived.Test.YtohnhdandkkonaaDoorBase
namespace Go.Proofs.YtohnhdandkkonaaDoor
set_option maxRecDepth 100000
open Go.RowKit

theorem Tryd.infoByte : (Tryd.prog.info? 5).map (fun i => (i.zero, i.size, i.bytes)) = some (some (.int .u8 0), 1, 1) := by kernel_rfl
theorem Tryd.sizeByte : (Tryd.prog.info? 5).map (·.size) = some 1 := by kernel_rfl
theorem Tryd.isString : Tryd.prog.underlying 9 = some .string := Tryd.underlying9

theorem Rd.up {w w' : World} {B : Nat} {v : Value} {l : List UInt8} (h : Rd w B v l) (hB : B ≤ w.heap.size) (hb : Below w.heap.size w w') : Rd w' w'.heap.size v l := ((h.more hB).below hb).more hb.size
theorem below_chain {B : Nat} {a b c : World} (h : Below B a b) (hB : B ≤ b.heap.size) (k : Below b.heap.size b c) : Below B a c := h.trans (k.mono hB)
theorem own_empty (w : World) (hB : w.heap.size ≤ w.heap.size) : Own (w.alloc (.cells #[] 5)) w.heap.size (.slice (some ⟨w.heap.size, 0, none⟩) 0 0) [] := by
  simpa [bcells] using Own.made (B := w.heap.size) w [] hB (by simp [maxLen])
theorem Own.rd' {w : World} {B : Nat} {v : Value} {l l' : List UInt8} (h : Own w B v l) (e : l = l') : Rd w w.heap.size v l' := e ▸ h.rd
theorem Own.form' {w : World} {B : Nat} {v : Value} {l : List UInt8} {n : Nat} (h : Own w B v l) (e : l.length = n) : ∃ A c, v = .slice A n c := by subst e; exact h.form
theorem strBytes_extract (s : ByteArray) (n : Nat) : strBytes (s.extract 0 n) = (strBytes s).take n := by
  simp [strBytes, ByteArray.data_extract]
theorem rd_empty {w : World} {B : Nat} {A : Option Addr} {c : Nat} (h : c ≤ maxLen) : Rd w B (.slice A 0 c) [] := ⟨A, c, rfl, by simp, h, fun h => absurd h (by simp)⟩

section
variable {w w' : World} {g : Nat}
theorem blk_cell {t : TypeId} {cs : Array Value} (h : w.heap[g]? = some (.cells cs t (0, 0))) (i : Nat) : w.cell? ⟨g, i, none⟩ = cs[i]? := cell_of_row w g i cs t (0, 0) h
theorem blk_free {t : TypeId} {cs : Array Value} (h : w.heap[g]? = some (.cells cs t (0, 0))) (i : Nat) : w.frozen? ⟨g, i, none⟩ = false := by simp [World.frozen?, h]
theorem blk_lt {o : Obj} (h : w.heap[g]? = some o) : g < w.heap.size := (Array.getElem?_eq_some_iff.1 h).1
theorem blk_set {t : TypeId} {cs : Array Value} (h : w.heap[g]? = some (.cells cs t (0, 0))) (i : Nat) (u : Value) : (w.setCell ⟨g, i, none⟩ u).heap[g]? = some (.cells (cs.setIfInBounds i u) t (0, 0)) := by
  simp [World.setCell, Array.getElem?_modify, h]
end

/-- a cell of a row of the call's own, read and written -/
theorem Own.at_ {w : World} {B : Nat} {A : Option Addr} {n c k : Nat} {l : List UInt8} (h : Own w B (.slice A n c) l) (hk : k < n) (hl : k < l.length) :
    ∃ g, A = some ⟨g, 0, none⟩ ∧ B ≤ g ∧ g < w.heap.size ∧ w.cell? ⟨g, k, none⟩ = some (.int .u8 (l[k].toNat : Int)) ∧ w.frozen? ⟨g, k, none⟩ = false ∧
      ∀ x, Own (w.setCell ⟨g, k, none⟩ (bval x)) B (.slice A n c) (l.set k x) := by
  have hn : l.length = n := by
    rcases h.2 with ⟨h0, h1⟩ | ⟨g, cap, cur, hv, _⟩
    · injection h0 with _ h0 _; omega
    · injection hv with _ hv _; omega
  have hlt := h.lt
  rcases h.2 with ⟨h0, _⟩ | ⟨g, cap, cur, hv, hB, hg, hr⟩
  · injection h0 with _ h0 _; omega
  · injection hv with h1 h2 h3
    subst h1; subst h2; subst h3
    have hlt := (Array.getElem?_eq_some_iff.1 hg).1
    refine ⟨g, rfl, hB, hlt, ?_, World.ownsRow.frozenAt (h : w.ownsRow B _ 1 _ _ _) k, fun x => ?_⟩
    · rw [World.ownsRow.cellAt (h : w.ownsRow B _ 1 _ _ _) k (by omega), bcells_get, List.getElem?_eq_getElem hl]; rfl
    · have := World.ownsRow.stored (h : w.ownsRow B _ 1 _ _ _) k (bval x)
      unfold Own
      rw [List.length_set]
      have e : bcells (l.set k x) = (bcells l).set k (bval x) := by simp [bcells, List.map_set]
      rw [e]
      exact this.1
theorem bits_xor_u8_nat (a b : Nat) (ha : a < 256) (hb : b < 256) : bits .xor .u8 (a : Int) (b : Int) = ((a ^^^ b : Nat) : Int) := by
  have hx : a ^^^ b < 2 ^ 8 := Nat.xor_lt_two_pow (by omega) (by omega)
  have h1 : (BitVec.ofInt 8 (a : Int)).toNat = a := by
    rw [BitVec.ofInt_natCast, BitVec.toNat_ofNat]; exact Nat.mod_eq_of_lt (by omega)
  have h2 : (BitVec.ofInt 8 (b : Int)).toNat = b := by
    rw [BitVec.ofInt_natCast, BitVec.toNat_ofNat]; exact Nat.mod_eq_of_lt (by omega)
  show IntKind.u8.wrap ((BitVec.ofInt 8 (a : Int) ^^^ BitVec.ofInt 8 (b : Int)).toNat : Int) = _
  rw [BitVec.toNat_xor, h1, h2]
  simp only [IntKind.wrap, IntKind.bits, IntKind.signed]
  simp
  omega
theorem bits_xor_byte (x y : UInt8) : bits .xor .u8 (x.toNat : Int) (y.toNat : Int) = ((x ^^^ y).toNat : Int) := by
  rw [bits_xor_u8_nat _ _ x.toNat_lt y.toNat_lt, UInt8.toNat_xor]
end Go.Proofs.YtohnhdandkkonaaDoor
