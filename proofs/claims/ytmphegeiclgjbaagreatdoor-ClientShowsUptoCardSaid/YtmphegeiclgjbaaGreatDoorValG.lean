
/- The walks of package vals: HashOf; and the document's. -/
import Derived.Test.YtmphegeiclgjbaaGreatDoorValH
import Derived.Test.YtmphegeiclgjbaaGreatDoorRShaG0
namespace Go.Proofs.YtmphegeiclgjbaaGreatDoor
set_option maxRecDepth 100000
open Go Go.RowKit

def headWord : ByteArray := ⟨#[104, 101, 97, 100, 101, 114]⟩
set_option maxHeartbeats 1000000 in
theorem hashOf_any (h : HV) (w : World) (hh : h.at w) (fr : TypeId × Nat × Nat) (hk : w.heap[0]? = some (.cells kVals fr.1 fr.2)) :
    Calls Tryz.prog 103 #[.agg #[.string h.chain, .int .u64 (h.height : Int), .int .u64 (h.time : Int), .slice h.vrA h.root.length h.vrC, .slice h.vvA h.vals.length h.vvC, .slice h.vnA h.next.length h.vnC]] w fun e w' => ∃ v', e = .returned v' ∧ Own w' w.heap.size v' (shaSum (formB (strBytes headWord) ++ formBs [headL h])) ∧ Below w.heap.size w w' := by
  have hn0 := blk_lt hk
  have hb0 := HB.new w h
  have HD := Lib.hid (fun W : World => header_any h W)
  go_enter Tryz.func103, Tryz.ntmps103
  go_wp2_with fail
  have hB0 : HB w.heap.size w h (w.alloc (.cells #[.string h.chain, .int .u64 (h.height : Int), .int .u64 (h.time : Int), .slice h.vrA h.root.length h.vrC, .slice h.vvA h.vals.length h.vvC, .slice h.vnA h.next.length h.vnC] 34)) := hb0
  generalize w.alloc (.cells #[.string h.chain, .int .u64 (h.height : Int), .int .u64 (h.time : Int), .slice h.vrA h.root.length h.vrC, .slice h.vvA h.vals.length h.vvC, .slice h.vnA h.next.length h.vnC] 34) = w0 at *
  refine (HD.out _ (hh.up hB0.2.1)).mono ?_
  rintro e w1 ⟨v1, rfl, ho1, hb1⟩
  have hb1' : Below w.heap.size w w1 := below_chain hB0.2.1 hB0.2.2 hb1
  obtain ⟨L, hL⟩ : ∃ L, L = headL h := ⟨_, rfl⟩
  rw [← hL] at ho1
  have HL := Lib.hid hL
  clear hL hB0 hb0 hb1
  obtain ⟨A1, c1, rfl⟩ := ho1.form
  go_wp2_with fail
  have hp := parts1 w1 _ L 32 ho1.rd
  have hbx : Below w.heap.size w (w1.alloc (.cells #[.slice A1 L.length c1] 32)) := hb1'.alloc hb1'.size _
  generalize w1.alloc (.cells #[.slice A1 L.length c1] 32) = w2 at *
  refine (tagged_any headWord _ [L] w2 hp (by unfold maxLen headWord; decide) (by simp) fr ((hbx.block _ hn0).trans hk)).mono ?_
  rintro e w3 ⟨v3, rfl, ho3, hb3⟩
  go_wp2_with fail
  go_ret
  rw [← HL.out]
  exact ⟨_, rfl, ho3.more hbx.size, below_chain hbx hbx.size hb3⟩

end Go.Proofs.YtmphegeiclgjbaaGreatDoor
