
/- The walks of the library's CutPrefix and Cut, as package name calls them. The walks of package name: Denom, Hop, Over, Base, Hops. -/
import Derived.Test.YtlkkjnacolmmpaaDoorNameI0
import Derived.Laws.Externs
import Derived.Lib.CutLaws
import Derived.Lib.Walk
import Derived.Laws.Strings3
namespace Go.Proofs.YtlkkjnacolmmpaaDoor
set_option maxRecDepth 100000
open Go Go.RowKit

/-- what Cut hands back at a slash -/
def cutL (l : List UInt8) : List UInt8 × List UInt8 × Bool :=
  if Lib.indexByte l 47 = -1 then (l, [], false) else (l.take (Lib.indexByte l 47).toNat, l.drop ((Lib.indexByte l 47).toNat + 1), true)

/-- what split hands back -/
def splitV (l : List UInt8) : Value := match splitL l with
  | some (h, r) => .tuple #[.string ⟨h.toArray⟩, .string ⟨r.toArray⟩, .bool true]
  | none => .tuple #[.string ByteArray.empty, .string ByteArray.empty, .bool false]
theorem splitV_miss {l : List UInt8} (h : Lib.hasPrefix l trL = false) : splitV l = .tuple #[.string ByteArray.empty, .string ByteArray.empty, .bool false] := by
  unfold splitV splitL; rw [if_neg (by rw [h]; simp)]

end Go.Proofs.YtlkkjnacolmmpaaDoor
namespace Go.Proofs.YtlkkjnacolmmpaaDoor
set_option maxRecDepth 100000
open Go Go.RowKit

theorem size_mk (l : List UInt8) : (⟨l.toArray⟩ : ByteArray).size = l.length := by rw [Lib.size_eq]
theorem splitV_some {l h r : List UInt8} (e : splitL l = some (h, r)) : splitV l = .tuple #[.string ⟨h.toArray⟩, .string ⟨r.toArray⟩, .bool true] := by unfold splitV; rw [e]
theorem splitV_none {l : List UInt8} (e : splitL l = none) : splitV l = .tuple #[.string ByteArray.empty, .string ByteArray.empty, .bool false] := by unfold splitV; rw [e]
/-- the base is an identifier -/
def endsB (l : List UInt8) : Bool := identL (baseL l)

end Go.Proofs.YtlkkjnacolmmpaaDoor
