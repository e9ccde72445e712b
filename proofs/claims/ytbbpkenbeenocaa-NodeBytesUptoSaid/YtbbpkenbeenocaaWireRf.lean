
/- The walks: the reader's bytes, texts, flags, counts. -/
import Derived.Test.YtbbpkenbeenocaaWireRe
namespace Go.Proofs.Ytbbpkenbeenocaa
set_option maxRecDepth 100000
open Go.RowKit

variable {w : World} {lo g : Nat} {rest : List UInt8} {fault : Int}

/-- what a reader answers for bytes, what is left, the fault -/
def rB (l : List UInt8) (f : Int) : List UInt8 × List UInt8 × Int :=
  if f ≠ 0 then ([], l, f) else if l.length < 4 then ([], l, 20) else if 65535 < beVal (l.take 4) then ([], l, 22)
  else if l.length < 4 + beVal (l.take 4) then ([], l, 20) else ((l.drop 4).take (beVal (l.take 4)), l.drop (4 + beVal (l.take 4)), 0)

end Go.Proofs.Ytbbpkenbeenocaa
