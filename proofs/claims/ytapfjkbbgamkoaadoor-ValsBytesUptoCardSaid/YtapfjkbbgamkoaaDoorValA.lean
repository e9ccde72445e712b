/- Lists of validators and of texts, as they lie in memory. -/
import Derived.Test.YtapfjkbbgamkoaaDoorInfo
import Derived.Test.YtapfjkbbgamkoaaDoorValM
namespace Go.Proofs.YtapfjkbbgamkoaaDoor
open Go Go.RowKit

def VD.fits (x : VD) : Prop := x.name.size ≤ maxLen ∧ x.power < 18446744073709551616
def ValAt (w : World) (b o : Nat) (x : VD) : Prop := w.cell? ⟨b, o, none⟩ = some (.string x.name) ∧ w.cell? ⟨b, o + 1, none⟩ = some (.int .u64 (x.power : Int))
/-- the slice value v reads as the validators l, in blocks below B -/
def ValsAt (w : World) (B : Nat) (v : Value) (l : List VD) : Prop :=
  ∃ A c, v = .slice A l.length c ∧ l.length ≤ c ∧ c ≤ maxLen ∧ (∀ x ∈ l, x.fits) ∧
    (0 < l.length → ∃ b o, A = some ⟨b, o, none⟩ ∧ b < B ∧ ∀ j (h : j < l.length), ValAt w b (o + j * 2) l[j])
/-- the slice value v reads as the texts l, in blocks below B -/
def StrsAt (w : World) (B : Nat) (v : Value) (l : List ByteArray) : Prop :=
  ∃ A c, v = .slice A l.length c ∧ l.length ≤ c ∧ c ≤ maxLen ∧ (∀ x ∈ l, x.size ≤ maxLen) ∧
    (0 < l.length → ∃ b o, A = some ⟨b, o, none⟩ ∧ b < B ∧ ∀ j (h : j < l.length), w.cell? ⟨b, o + j, none⟩ = some (.string l[j]))

section
variable {w w' : World} {B B' : Nat} {v : Value}
theorem ValsAt.below {l : List VD} (h : ValsAt w B v l) (hk : Below B w w') : ValsAt w' B v l := by
  obtain ⟨A, c, hv, hc, hm, hf, hp⟩ := h
  refine ⟨A, c, hv, hc, hm, hf, fun h0 => ?_⟩
  obtain ⟨b, o, hA, hb, ha⟩ := hp h0
  exact ⟨b, o, hA, hb, fun j hj => ⟨(hk.cell (p := ⟨b, o + j * 2, none⟩) hb).trans (ha j hj).1, (hk.cell (p := ⟨b, o + j * 2 + 1, none⟩) hb).trans (ha j hj).2⟩⟩
theorem ValsAt.more {l : List VD} (h : ValsAt w B v l) (hB : B ≤ B') : ValsAt w B' v l := by
  obtain ⟨A, c, hv, hc, hm, hf, hp⟩ := h
  refine ⟨A, c, hv, hc, hm, hf, fun h0 => ?_⟩
  obtain ⟨b, o, hA, hb, ha⟩ := hp h0
  exact ⟨b, o, hA, by omega, ha⟩
theorem ValsAt.up {l : List VD} (h : ValsAt w B v l) (hB : B ≤ w.heap.size) (hb : Below w.heap.size w w') : ValsAt w' w'.heap.size v l := ((h.more hB).below hb).more hb.size
theorem StrsAt.below {l : List ByteArray} (h : StrsAt w B v l) (hk : Below B w w') : StrsAt w' B v l := by
  obtain ⟨A, c, hv, hc, hm, hf, hp⟩ := h
  refine ⟨A, c, hv, hc, hm, hf, fun h0 => ?_⟩
  obtain ⟨b, o, hA, hb, ha⟩ := hp h0
  exact ⟨b, o, hA, hb, fun j hj => (hk.cell (p := ⟨b, o + j, none⟩) hb).trans (ha j hj)⟩
theorem StrsAt.more {l : List ByteArray} (h : StrsAt w B v l) (hB : B ≤ B') : StrsAt w B' v l := by
  obtain ⟨A, c, hv, hc, hm, hf, hp⟩ := h
  refine ⟨A, c, hv, hc, hm, hf, fun h0 => ?_⟩
  obtain ⟨b, o, hA, hb, ha⟩ := hp h0
  exact ⟨b, o, hA, by omega, ha⟩
theorem StrsAt.up {l : List ByteArray} (h : StrsAt w B v l) (hB : B ≤ w.heap.size) (hb : Below w.heap.size w w') : StrsAt w' w'.heap.size v l := ((h.more hB).below hb).more hb.size
theorem StrsAt.nil (w : World) (B : Nat) : StrsAt w B (.slice none 0 0) [] := ⟨none, 0, rfl, Nat.le_refl _, Nat.zero_le _, fun _ h => absurd h (by simp), fun h => absurd h (by simp)⟩
theorem StrsAt.form {l : List ByteArray} (h : StrsAt w B v l) : ∃ A c, v = .slice A l.length c := by obtain ⟨A, c, h, _⟩ := h; exact ⟨A, c, h⟩
theorem ValsAt.form {l : List VD} (h : ValsAt w B v l) : ∃ A c, v = .slice A l.length c := by obtain ⟨A, c, h, _⟩ := h; exact ⟨A, c, h⟩
end

/-- a round's box of a validator -/
theorem val_box {w wr : World} (hb : Below w.heap.size w wr) (x : VD) : Below w.heap.size w (wr.alloc (.cells #[.string x.name, .int .u64 (x.power : Int)] 40)) := hb.alloc hb.size _

def keysOf (l : List ByteArray) : List (List UInt8) := l.map fun s => s.data.toList
theorem u64_add (a b : Nat) : IntKind.u64.wrap ((a % 18446744073709551616 : Nat) + (b : Int)) = ((a + b) % 18446744073709551616 : Nat) := by
  simp only [IntKind.wrap, IntKind.bits, IntKind.signed]
  simp
theorem u64_add' (a b : Nat) : IntKind.u64.wrap ((a : Int) % 18446744073709551616 + (b : Int)) = ((a + b) % 18446744073709551616 : Nat) := by
  rw [← u64_add]
  simp
end Go.Proofs.YtapfjkbbgamkoaaDoor
