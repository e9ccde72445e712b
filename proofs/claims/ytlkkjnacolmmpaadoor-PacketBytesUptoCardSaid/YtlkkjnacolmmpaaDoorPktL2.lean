
/- The walk of the law, whole. -/
import Derived.Test.YtlkkjnacolmmpaaDoorPktLA
import Derived.Test.YtlkkjnacolmmpaaDoorPktLB
import Derived.Test.YtlkkjnacolmmpaaDoorPktLC
import Derived.Test.YtlkkjnacolmmpaaDoorPktLD
namespace Go.Proofs.YtlkkjnacolmmpaaDoor
set_option maxRecDepth 100000
open Go Go.RowKit

theorem pbytes_law (w : World) (P : PktV) (hP : P.ok) (hs1 : P.src.size ≤ 10000000) (hs2 : P.dst.size ≤ 10000000) (hs3 : P.data.length ≤ 10000000) (vd : Value) (hrd : Rd w w.heap.size vd P.data) (vb : Value) (l : List UInt8) (hr : Rd w w.heap.size vb l) (hl : l.length ≤ 10000000)
    (fr : TypeId × Nat × Nat) (hk : w.heap[0]? = some (.cells kVals fr.1 fr.2)) (fr2 : TypeId × Nat × Nat) (hk2 : w.heap[1]? = some (.cells kVals fr2.1 fr2.2)) :
    Calls Tryd.prog 7 #[P.val vd, vb] w fun e w' => e = .returned (.bool true) ∧ Below w.heap.size w w' := by
  cases e : (readP l).isSome with
  | false =>
    by_cases h : P.src.size + P.dst.size + P.data.length < 65000
    · exact pbytes_lawC w P hP hs1 hs2 hs3 vd hrd vb l hr hl e h fr hk fr2 hk2
    · exact pbytes_lawD w P hP hs1 hs2 hs3 vd hrd vb l hr hl e h fr hk fr2 hk2
  | true =>
    by_cases h : P.src.size + P.dst.size + P.data.length < 65000
    · exact pbytes_lawA w P hP hs1 hs2 hs3 vd hrd vb l hr hl e h fr hk fr2 hk2
    · exact pbytes_lawB w P hP hs1 hs2 hs3 vd hrd vb l hr hl e h fr hk fr2 hk2
end Go.Proofs.YtlkkjnacolmmpaaDoor
