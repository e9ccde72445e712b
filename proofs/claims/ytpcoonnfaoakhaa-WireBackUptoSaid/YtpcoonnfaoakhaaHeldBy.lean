
/- A region that draws, walked by hand: the condition may be made stronger behind a call. -/
import Derived.Deep.RegionHeldLaw
import Derived.Test.YtpcoonnfaoakhaaInfo1
namespace Go.Proofs.Ytpcoonnfaoakhaa
set_option maxRecDepth 100000
open Go Go.RowKit
section
variable {P : Program} {ops : Array Oper} {Q : Exit → Act → World → Prop} {md : Region.Mode} {S S' : World → Prop}
theorem wpAnyH_stronger (h : ∀ w, S' w → S w) : ∀ (fuel : Nat) (listed : Array Bool) (a : Act) (w : World), wpAnyH P md ops Q S' fuel listed a w → wpAnyH P md ops Q S fuel listed a w
  | 0, _, _, _, H => H
  | fuel + 1, _, _, _, H => ⟨H.1, fun i hi => wpOp_mono (fun a' w' h' => ⟨h _ h'.1, wpAnyH_stronger h fuel _ a' w' h'.2⟩) (H.2 i hi)⟩
end
/-- what stands in the world w reads so from here on -/
def BelS (w : World) : World → Prop := fun W => Below w.heap.size w W
theorem BelS.refl (w : World) : BelS w w := Below.refl _ _
end Go.Proofs.Ytpcoonnfaoakhaa
