
/- The law MerkleProves, walked. -/
import Derived.Test.YtpnfdfnbnoplgaaDoorMerkL0
import Derived.Test.YtpnfdfnbnoplgaaDoorRMerkP
import Derived.Test.YtpnfdfnbnoplgaaDoorRMerkO
namespace Go.Proofs.YtpnfdfnbnoplgaaDoor
open Go Go.RowKit
set_option linter.unusedVariables false

theorem proveM_n (ps : List Pr) (key : ByteArray) : -9223372036854775808 ≤ (proveM ps key).1.n ∧ (proveM ps key).1.n ≤ 9223372036854775807 := by
  unfold proveM
  split
  · rename_i h
    have := ordB_len h.1
    exact ⟨by show _ ≤ (ps.length : Int); omega, by show (ps.length : Int) ≤ _; omega⟩
  · exact ⟨by simp, by simp⟩

set_option maxHeartbeats 4000000 in
theorem proves_law (w : World) (v : Value) (ps : List Pr) (key : ByteArray) (hr : RdP w w.heap.size v ps) (hnl : ∀ p ∈ ps, p.1.size ≤ maxLen) (hks : key.size ≤ maxLen) (fr : TypeId × Nat × Nat) (hk : w.heap[0]? = some (.cells kVals fr.1 fr.2)) (fr2 : TypeId × Nat × Nat) (hk2 : w.heap[1]? = some (.cells kVals fr2.1 fr2.2)) :
    Calls Tryd.prog 4 #[v, .string key] w fun e w' => e = .returned (.bool true) ∧ Below w.heap.size w w' := by
  have hn0 := blk_lt hk
  have hn2 := blk_lt hk2
  have HK := Lib.hid hk
  have HK2 := Lib.hid hk2
  clear hk hk2
  have CP := Lib.hid (prove_any ps key v w hr hnl hks fr HK.out)
  have CR := Lib.hid (fun (W : World) (hb : Below w.heap.size w W) => rprove_any ps key v W ((hr.below hb).more hb.size) hnl hks fr2 ((hb.block _ hn2).trans HK2.out))
  obtain ⟨hpn1, hpn2⟩ := proveM_n ps key
  generalize proveM ps key = R at *
  obtain ⟨A, c, rfl, hc, hm, hp⟩ := hr
  clear hp hnl
  generalize ps.length = n at *
  go_enter Tryd.func4, Tryd.ntmps4
  go_wp2_with fail
  refine (CP.out).mono ?_
  rintro e w1 ⟨v1, rfl, hp1, hb1⟩
  obtain ⟨⟨pn, pls⟩, er⟩ := R
  dsimp only at hpn1 hpn2 hp1 CR ⊢
  have hv1 := hp1.proofV hpn1 hpn2
  obtain ⟨lv1, rfl, hl1⟩ := hp1
  obtain ⟨A1, c1, rfl⟩ := hl1.form
  dsimp only at hv1 hl1 ⊢
  generalize pls.length = pl at *
  have hbx1 : Below w1.heap.size w1 (w1.alloc (.cells #[.int .i64 pn, .slice A1 pl c1] 33)) := (Below.refl _ _).alloc (Nat.le_refl _) _
  have hgx1 := heap_alloc_new w1 (.cells #[.int .i64 pn, .slice A1 pl c1] 33)
  clear hl1
  go_wp2_with fail
  generalize w1.alloc (.cells #[.int .i64 pn, .slice A1 pl c1] 33) = W1 at *
  have hq1 := below_chain hb1 hb1.size hbx1
  have hg1l := blk_lt hgx1
  refine (CR.out W1 hq1).mono ?_
  rintro e w2 ⟨v2, rfl, hp2, hb2⟩
  have hv2 := hp2.proofV hpn1 hpn2
  obtain ⟨lv2, rfl, hl2⟩ := hp2
  obtain ⟨A2, c2, hlv2⟩ := hl2.form
  dsimp only at hv2 hl2 hlv2 ⊢
  subst hlv2
  generalize pls.length = pl2 at *
  have hbx2 : Below w2.heap.size w2 (w2.alloc (.cells #[.int .i64 pn, .slice A2 pl2 c2] 33)) := (Below.refl _ _).alloc (Nat.le_refl _) _
  have hgx2 := heap_alloc_new w2 (.cells #[.int .i64 pn, .slice A2 pl2 c2] 33)
  clear hl2
  go_wp2_with fail
  generalize w2.alloc (.cells #[.int .i64 pn, .slice A2 pl2 c2] 33) = W2 at *
  have hq12 := below_chain hb2 hb2.size hbx2
  have hq2 := below_chain hq1 hq1.size hq12
  have hg2l := blk_lt hgx2
  refine (fixed_any W2 fr ((hq2.block _ hn0).trans HK.out)).mono ?_
  rintro e w3 ⟨rfl, hb3⟩
  have hq3 := below_chain hq2 hq2.size hb3
  have hb13 := below_chain hq12 hq12.size hb3
  have x0 : w3.cell? ⟨w1.heap.size, 0, none⟩ = some (.int .i64 pn) := (hb13.cell (p := ⟨w1.heap.size, 0, none⟩) hg1l).trans (blk_cell hgx1 0)
  have x1 : w3.cell? ⟨w1.heap.size, 1, none⟩ = some (.slice A1 pl c1) := (hb13.cell (p := ⟨w1.heap.size, 1, none⟩) hg1l).trans (blk_cell hgx1 1)
  have y0 : w3.cell? ⟨w2.heap.size, 0, none⟩ = some (.int .i64 pn) := (hb3.cell (p := ⟨w2.heap.size, 0, none⟩) hg2l).trans (blk_cell hgx2 0)
  have y1 : w3.cell? ⟨w2.heap.size, 1, none⟩ = some (.slice A2 pl2 c2) := (hb3.cell (p := ⟨w2.heap.size, 1, none⟩) hg2l).trans (blk_cell hgx2 1)
  have hb1w := hbx1.trans (hb13.mono hbx1.size)
  have hb2w := hbx2.trans (hb3.mono hbx2.size)
  have CS := Lib.hid (rsameP_any _ _ ⟨pn, pls⟩ w3 ((hv1.below hb1w).more hb1w.size) ((hv2.below hb2w).more hb2w.size))
  clear hv1 hv2 hgx1 hgx2
  go_wp2_with fail
  refine (CS.out).mono ?_
  rintro e w4 ⟨rfl, hb4⟩
  have hq4 := below_chain hq3 hq3.size hb4
  go_wp2_with fail
  go_ret
  exact ⟨rfl, hq4⟩
end Go.Proofs.YtpnfdfnbnoplgaaDoor
