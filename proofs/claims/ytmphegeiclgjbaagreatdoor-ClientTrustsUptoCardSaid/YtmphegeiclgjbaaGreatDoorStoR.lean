
/- The walk of a store's Root. -/
import Derived.Test.YtmphegeiclgjbaaGreatDoorStoS3
import Derived.Test.YtmphegeiclgjbaaGreatDoorMerkE1
namespace Go.Proofs.YtmphegeiclgjbaaGreatDoor
set_option maxRecDepth 100000
open Go Go.RowKit
set_option linter.unusedVariables false

set_option maxHeartbeats 4000000 in
theorem sroot_any {w : World} {y : Lyr} {l : List Lyr} (h : PileS w (y :: l)) (hN : sumN (y :: l) ≤ 1000000000) {R : List Pr} (hR : SeenL ⟨#[]⟩ (y :: l) R) (fr : TypeId × Nat × Nat) (hk : w.heap[0]? = some (.cells kVals fr.1 fr.2)) :
    Calls Tryz.prog 21 #[.pointer (some ⟨y.b, 0, none⟩)] w fun e w' => ∃ v, e = .returned v ∧ Own w' w.heap.size v (rootM R).1 ∧ Below w.heap.size w w' := by
  have hS := sound_yes h.1
  have hSh := shared_is h hN ⟨#[]⟩ (by decide +kernel) hR
  have hSh' : Calls Tryz.prog 66 #[.pointer (some ⟨y.b, 0, none⟩), .string ⟨#[]⟩] w fun e w' => ∃ v, e = .returned v ∧ OwnP w.heap.size w' (w.heap.size + 1) v R ∧ Below w.heap.size w w' ∧ w.heap.size + 1 ≤ w'.heap.size ∧ R.length ≤ 1000000000 := hSh
  have HR := Lib.hid hR.small
  have HK := Lib.hid hk
  have hn0 := blk_lt hk
  clear h hN hR hSh hk
  go_enter Tryz.func21, Tryz.ntmps21
  go_wp2_with fail
  refine hS.mono ?_
  rintro e w1 ⟨rfl, rfl⟩
  go_wp2_with fail
  refine hSh'.mono ?_
  rintro e w2 ⟨v2, rfl, ho2, hb2, -, -⟩
  have HM := Lib.hid (rootM_any w2 v2 R (OwnP.rdP ho2) HR.out fr ((hb2.block _ hn0).trans HK.out))
  obtain ⟨A2, c2, rfl⟩ := ho2.form
  clear ho2
  go_wp2_with fail
  refine HM.out.mono ?_
  rintro e w3 ⟨v3, rfl, ho3, hb3⟩
  have ho4 := ho3.more hb2.size
  have hb4 := below_chain hb2 hb2.size hb3
  clear ho3
  go_wp2_with fail
  go_ret
  exact ⟨_, rfl, ho4, hb4⟩
end Go.Proofs.YtmphegeiclgjbaaGreatDoor
