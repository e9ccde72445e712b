
/- The walk of the document's Bytes. The walks of the document's comparison, sum and difference. The walk of the document's sum. The walk of the document's difference. -/
import Derived.Test.YtlkbjhhbpmmamaaLimbX0
import Derived.Test.YtlkbjhhbpmmamaaLimbA0
import Derived.Deep.RegionHeldLaw
namespace Go.Proofs.Ytlkbjhhbpmmamaa
set_option maxRecDepth 100000
open Go Go.RowKit

theorem byL_getD (n : Nat) : ∀ k i, i < k → (byL n k).getD i 0 = n / 256 ^ i % 256
  | 0, i, h => by omega
  | k + 1, i, h => by
    rw [byL, List.getD_eq_getElem?_getD]
    by_cases hi : i < k
    · rw [List.getElem?_append_left (by rw [byL_length]; exact hi), ← List.getD_eq_getElem?_getD]
      exact byL_getD n k i hi
    · obtain rfl : i = k := by omega
      rw [List.getElem?_append_right (by rw [byL_length]; exact Nat.le_refl _), byL_length, Nat.sub_self]
      rfl
theorem be_head (n k : Nat) : UInt8.ofNat (n / 256 ^ k % 256) = UInt8.ofNat (n / 2 ^ (8 * k)) := by
  rw [show 2 ^ (8 * k) = 256 ^ k by rw [Nat.pow_mul]]
  apply UInt8.toNat_inj.1
  simp only [UInt8.toNat_ofNat']
  omega
theorem byte_val (d : Nat) (h : d < 256) : (UInt8.ofNat d).toNat = d := by simp only [UInt8.toNat_ofNat']; omega

end Go.Proofs.Ytlkbjhhbpmmamaa
namespace Go.Proofs.Ytlkbjhhbpmmamaa
set_option maxRecDepth 100000
open Go Go.RowKit

/-- four cells of each of two blocks -/
def Cells8 (g : Nat) (x y : U4) (W : World) : Prop :=
  (W.cell? ⟨g, 0, none⟩ = some (.int .u64 (x.a : Int)) ∧ W.cell? ⟨g, 1, none⟩ = some (.int .u64 (x.b : Int)) ∧ W.cell? ⟨g, 2, none⟩ = some (.int .u64 (x.c : Int)) ∧ W.cell? ⟨g, 3, none⟩ = some (.int .u64 (x.d : Int))) ∧
  W.cell? ⟨g + 1, 0, none⟩ = some (.int .u64 (y.a : Int)) ∧ W.cell? ⟨g + 1, 1, none⟩ = some (.int .u64 (y.b : Int)) ∧ W.cell? ⟨g + 1, 2, none⟩ = some (.int .u64 (y.c : Int)) ∧ W.cell? ⟨g + 1, 3, none⟩ = some (.int .u64 (y.d : Int))

end Go.Proofs.Ytlkbjhhbpmmamaa
namespace Go.Proofs.Ytlkbjhhbpmmamaa
set_option maxRecDepth 100000
open Go Go.RowKit

theorem three' (w : World) (X Y Z : Array Value) : LBlk (((w.alloc (.cells X 33)).alloc (.cells Y 33)).alloc (.cells Z 33)) w.heap.size X ∧
    LBlk (((w.alloc (.cells X 33)).alloc (.cells Y 33)).alloc (.cells Z 33)) (w.heap.size + 1) Y ∧
    LBlk (((w.alloc (.cells X 33)).alloc (.cells Y 33)).alloc (.cells Z 33)) (w.heap.size + 1 + 1) Z ∧
    Below w.heap.size w (((w.alloc (.cells X 33)).alloc (.cells Y 33)).alloc (.cells Z 33)) := by
  refine ⟨((LBlk.new w X).alloc _).alloc _, ?_, ?_, (((Below.refl _ _).alloc (Nat.le_refl _) _).alloc (by simp) _).alloc (by simp; omega) _⟩
  · have := (LBlk.new (w.alloc (.cells X 33)) Y).alloc (.cells Z 33)
    simpa using this
  · have := LBlk.new ((w.alloc (.cells X 33)).alloc (.cells Y 33)) Z
    simpa using this

end Go.Proofs.Ytlkbjhhbpmmamaa
namespace Go.Proofs.Ytlkbjhhbpmmamaa
set_option maxRecDepth 100000
open Go Go.RowKit

end Go.Proofs.Ytlkbjhhbpmmamaa
