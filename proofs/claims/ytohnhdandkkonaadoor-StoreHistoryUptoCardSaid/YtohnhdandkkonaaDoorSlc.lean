
/- Cuts of slices: up to a place, from a place on. -/
import Derived.Test.YtohnhdandkkonaaDoorBase
namespace Go.Proofs.YtohnhdandkkonaaDoor
set_option maxRecDepth 100000
open Go Go.RowKit
section
variable {P : Program}
theorem addr_add_zero' (a : Addr) : a.add 0 = a := by
  obtain ⟨b, o, s⟩ := a
  cases s <;> simp [Addr.add]
theorem slc_to (t e : TypeId) (i : TypeInfo) (ht : P.underlying t = some (.slice e)) (hi : P.info? e = some i) (A : Option Addr) (L c n : Nat) (hn : n ≤ c) (W : World) :
    (Instr.slice t (.slice A L c) none (some (.int .i64 (n : Int))) none).run P W = .ok (.slice A n c) W := by
  have h1 : (n : Int) ≤ (c : Int) := by omega
  simp [Instr.slice, run_underlying ht, Instr.sliceBounds, Instr.sliceBound, asIntOf, sizeOf, typeInfo, hi, h1]
  rw [if_pos hn]
  cases A <;> simp [addr_add_zero']
theorem slc_from (t e : TypeId) (i : TypeInfo) (ht : P.underlying t = some (.slice e)) (hi : P.info? e = some i) (A : Option Addr) (L c lo : Nat) (hn : lo ≤ L) (hL : L ≤ c) (W : World) :
    (Instr.slice t (.slice A L c) (some (.int .i64 (lo : Int))) none none).run P W = .ok (.slice (if c = lo then A else A.map (·.add (lo * i.size))) (L - lo) (c - lo)) W := by
  have h1 : (lo : Int) ≤ (L : Int) := by omega
  simp [Instr.slice, run_underlying ht, Instr.sliceBounds, Instr.sliceBound, asIntOf, sizeOf, typeInfo, hi, h1]
  intro h
  omega
/-- from a place below the capacity on, of a block's row -/
theorem slc_from_at (t e : TypeId) (i : TypeInfo) (ht : P.underlying t = some (.slice e)) (hi : P.info? e = some i) (z : Nat) (hz : i.size = z) (b o L c lo : Nat) (hn : lo ≤ L) (hL : L ≤ c) (hlt : lo < c) (W : World) :
    (Instr.slice t (.slice (some ⟨b, o, none⟩) L c) (some (.int .i64 (lo : Int))) none none).run P W = .ok (.slice (some ⟨b, o + lo * z, none⟩) (L - lo) (c - lo)) W := by
  rw [slc_from t e i ht hi _ L c lo hn hL W, if_neg (by omega), hz]
  simp [Addr.add]
end
end Go.Proofs.YtohnhdandkkonaaDoor
