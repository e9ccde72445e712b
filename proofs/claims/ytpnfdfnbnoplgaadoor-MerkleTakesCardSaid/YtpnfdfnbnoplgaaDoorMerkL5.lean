
/- The laws MerkleAbsent and MerkleTakes, walked. -/
import Derived.Test.YtpnfdfnbnoplgaaDoorMerkL0
import Derived.Test.YtpnfdfnbnoplgaaDoorRMerkU0
import Derived.Test.YtpnfdfnbnoplgaaDoorRMerkZ
namespace Go.Proofs.YtpnfdfnbnoplgaaDoor
open Go Go.RowKit
set_option linter.unusedVariables false

set_option maxHeartbeats 4000000 in
theorem absent_law (w : World) (rv vv lv : Value) (root val : List UInt8) (key : ByteArray) (n : Int) (ls : List Lf) (hrv : Rd w w.heap.size rv root) (hvv : Rd w w.heap.size vv val) (hks : key.size ≤ maxLen) (hlv : LeavesV w w.heap.size lv ls) (hn1 : -9223372036854775808 ≤ n) (hn2 : n ≤ 9223372036854775807) (fr : TypeId × Nat × Nat) (hk : w.heap[0]? = some (.cells kVals fr.1 fr.2)) (fr2 : TypeId × Nat × Nat) (hk2 : w.heap[1]? = some (.cells kVals fr2.1 fr2.2)) :
    Calls Tryd.prog 7 #[.agg #[rv, .string key, vv, .int .i64 n, lv]] w fun e w' => e = .returned (.bool true) ∧ Below w.heap.size w w' := by
  have hn0 := blk_lt hk
  have hn3 := blk_lt hk2
  have HK := Lib.hid hk
  have HK2 := Lib.hid hk2
  clear hk hk2
  have hpv : ProofV w w.heap.size (.agg #[.int .i64 n, lv]) ⟨n, ls⟩ := ⟨lv, rfl, hlv, hn1, hn2⟩
  have CF := Lib.hid (fun (W : World) (hb : Below w.heap.size w W) => fixed_any W fr ((hb.block _ hn0).trans HK.out))
  have CA := Lib.hid (fun (W : World) (hb : Below w.heap.size w W) => absent_any rv root key _ ⟨n, ls⟩ W hks ((hrv.below hb).more hb.size) ((hpv.below hb).more hb.size) fr ((hb.block _ hn0).trans HK.out))
  have CB := Lib.hid (fun (W : World) (hb : Below w.heap.size w W) => rabsent_any rv root key _ ⟨n, ls⟩ W hks ((hrv.below hb).more hb.size) ((hpv.below hb).more hb.size) fr2 ((hb.block _ hn3).trans HK2.out))
  generalize absentB root key ⟨n, ls⟩ = R at *
  obtain ⟨Ar, cr, rfl⟩ := hrv.form
  obtain ⟨Av, cv, rfl⟩ := hvv.form
  obtain ⟨Al, cl, rfl, -⟩ := hlv
  clear hrv hvv hpv
  generalize root.length = rl at *
  generalize val.length = vl at *
  generalize ls.length = ll at *
  have hbx : Below w.heap.size w (w.alloc (.cells #[.slice Ar rl cr, .string key, .slice Av vl cv, .int .i64 n, .slice Al ll cl] 39)) := (Below.refl _ _).alloc (Nat.le_refl _) _
  have hgx := heap_alloc_new w (.cells #[.slice Ar rl cr, .string key, .slice Av vl cv, .int .i64 n, .slice Al ll cl] 39)
  go_enter Tryd.func7, Tryd.ntmps7
  go_wp2_with fail
  generalize w.alloc (.cells #[.slice Ar rl cr, .string key, .slice Av vl cv, .int .i64 n, .slice Al ll cl] 39) = W0 at *
  have hgl := blk_lt hgx
  have HS : Hid (∀ W : World, Below W0.heap.size W0 W → W.cell? ⟨w.heap.size, 0, none⟩ = some (.slice Ar rl cr) ∧ W.cell? ⟨w.heap.size, 1, none⟩ = some (.string key) ∧ W.cell? ⟨w.heap.size, 2, none⟩ = some (.slice Av vl cv) ∧ W.cell? ⟨w.heap.size, 3, none⟩ = some (.int .i64 n) ∧ W.cell? ⟨w.heap.size, 4, none⟩ = some (.slice Al ll cl)) := Lib.hid fun W hb =>
    ⟨(hb.cell (p := ⟨w.heap.size, 0, none⟩) hgl).trans (blk_cell hgx 0), (hb.cell (p := ⟨w.heap.size, 1, none⟩) hgl).trans (blk_cell hgx 1), (hb.cell (p := ⟨w.heap.size, 2, none⟩) hgl).trans (blk_cell hgx 2), (hb.cell (p := ⟨w.heap.size, 3, none⟩) hgl).trans (blk_cell hgx 3), (hb.cell (p := ⟨w.heap.size, 4, none⟩) hgl).trans (blk_cell hgx 4)⟩
  have hbd : Below W0.heap.size W0 W0.drew := (Below.refl _ _).drew
  have DF := Lib.hid (CF.out W0.drew hbx.drew)
  clear hgx
  go_region_held_law (fun W => W.cell? ⟨w.heap.size, 0, none⟩ = some (.slice Ar rl cr) ∧ W.cell? ⟨w.heap.size, 1, none⟩ = some (.string key) ∧ W.cell? ⟨w.heap.size, 2, none⟩ = some (.slice Av vl cv) ∧ W.cell? ⟨w.heap.size, 3, none⟩ = some (.int .i64 n) ∧ W.cell? ⟨w.heap.size, 4, none⟩ = some (.slice Al ll cl))
    (with_reducible first | exact HS.out _ hbd | exact HS.out _ hb6 | exact HS.out _ hb5 | exact HS.out _ hb4)
    (first
      | (go_at_call 18; have D := CB.out _ (below_chain hbx hbx.size hb5); ((with_reducible refine D.mono ?_); rintro e w6 ⟨rfl, hb6'⟩; have hb6 := below_chain hb5 hb5.size hb6'))
      | (go_at_call 17; have D := CA.out _ (below_chain hbx hbx.size hb4); ((with_reducible refine D.mono ?_); rintro e w5 ⟨rfl, hb5'⟩; have hb5 := below_chain hb4 hb4.size hb5'))
      | (go_at_call 11; ((with_reducible refine DF.out.mono ?_); rintro e w4 ⟨rfl, hb4'⟩; have hb4 := below_chain hbd (Nat.le_refl _) hb4')))
  all_goals (
    have hbo := below_chain hbx hbx.size hb6
    go_wp2_with fail
    go_ret
    exact ⟨by first | rfl | simp, hbo⟩)

set_option maxHeartbeats 4000000 in
theorem takes_law (w : World) (rv vv lv : Value) (root val : List UInt8) (key : ByteArray) (n : Int) (ls : List Lf) (hrv : Rd w w.heap.size rv root) (hvv : Rd w w.heap.size vv val) (hks : key.size ≤ maxLen) (hlv : LeavesV w w.heap.size lv ls) (hn1 : -9223372036854775808 ≤ n) (hn2 : n ≤ 9223372036854775807) (fr : TypeId × Nat × Nat) (hk : w.heap[0]? = some (.cells kVals fr.1 fr.2)) (fr2 : TypeId × Nat × Nat) (hk2 : w.heap[1]? = some (.cells kVals fr2.1 fr2.2)) :
    Calls Tryd.prog 5 #[.agg #[rv, .string key, vv, .int .i64 n, lv]] w fun e w' => e = .returned (.bool true) ∧ Below w.heap.size w w' := by
  have hn0 := blk_lt hk
  have hn3 := blk_lt hk2
  have HK := Lib.hid hk
  have HK2 := Lib.hid hk2
  clear hk hk2
  have hpv : ProofV w w.heap.size (.agg #[.int .i64 n, lv]) ⟨n, ls⟩ := ⟨lv, rfl, hlv, hn1, hn2⟩
  have CF := Lib.hid (fun (W : World) (hb : Below w.heap.size w W) => fixed_any W fr ((hb.block _ hn0).trans HK.out))
  have CA := Lib.hid (fun (W : World) (hb : Below w.heap.size w W) => absent_any rv root key _ ⟨n, ls⟩ W hks ((hrv.below hb).more hb.size) ((hpv.below hb).more hb.size) fr ((hb.block _ hn0).trans HK.out))
  have CB := Lib.hid (fun (W : World) (hb : Below w.heap.size w W) => rabsent_any rv root key _ ⟨n, ls⟩ W hks ((hrv.below hb).more hb.size) ((hpv.below hb).more hb.size) fr2 ((hb.block _ hn3).trans HK2.out))
  have CV := Lib.hid (fun (W : World) (hb : Below w.heap.size w W) => verify_any rv root key vv val _ ⟨n, ls⟩ W ((hrv.below hb).more hb.size) ((hvv.below hb).more hb.size) ((hpv.below hb).more hb.size) fr ((hb.block _ hn0).trans HK.out))
  have CW := Lib.hid (fun (W : World) (hb : Below w.heap.size w W) => rverify_any rv root key vv val _ ⟨n, ls⟩ W ((hrv.below hb).more hb.size) ((hvv.below hb).more hb.size) ((hpv.below hb).more hb.size) fr2 ((hb.block _ hn3).trans HK2.out))
  generalize absentB root key ⟨n, ls⟩ = R at *
  generalize verifyB root key val ⟨n, ls⟩ = V at *
  obtain ⟨Ar, cr, rfl⟩ := hrv.form
  obtain ⟨Av, cv, rfl⟩ := hvv.form
  obtain ⟨Al, cl, rfl, -⟩ := hlv
  clear hrv hvv hpv
  generalize root.length = rl at *
  generalize val.length = vl at *
  generalize ls.length = ll at *
  have hbx : Below w.heap.size w (w.alloc (.cells #[.slice Ar rl cr, .string key, .slice Av vl cv, .int .i64 n, .slice Al ll cl] 39)) := (Below.refl _ _).alloc (Nat.le_refl _) _
  have hgx := heap_alloc_new w (.cells #[.slice Ar rl cr, .string key, .slice Av vl cv, .int .i64 n, .slice Al ll cl] 39)
  go_enter Tryd.func5, Tryd.ntmps5
  go_wp2_with fail
  generalize w.alloc (.cells #[.slice Ar rl cr, .string key, .slice Av vl cv, .int .i64 n, .slice Al ll cl] 39) = W0 at *
  have hgl := blk_lt hgx
  have HS : Hid (∀ W : World, Below W0.heap.size W0 W → W.cell? ⟨w.heap.size, 0, none⟩ = some (.slice Ar rl cr) ∧ W.cell? ⟨w.heap.size, 1, none⟩ = some (.string key) ∧ W.cell? ⟨w.heap.size, 2, none⟩ = some (.slice Av vl cv) ∧ W.cell? ⟨w.heap.size, 3, none⟩ = some (.int .i64 n) ∧ W.cell? ⟨w.heap.size, 4, none⟩ = some (.slice Al ll cl)) := Lib.hid fun W hb =>
    ⟨(hb.cell (p := ⟨w.heap.size, 0, none⟩) hgl).trans (blk_cell hgx 0), (hb.cell (p := ⟨w.heap.size, 1, none⟩) hgl).trans (blk_cell hgx 1), (hb.cell (p := ⟨w.heap.size, 2, none⟩) hgl).trans (blk_cell hgx 2), (hb.cell (p := ⟨w.heap.size, 3, none⟩) hgl).trans (blk_cell hgx 3), (hb.cell (p := ⟨w.heap.size, 4, none⟩) hgl).trans (blk_cell hgx 4)⟩
  have hbd : Below W0.heap.size W0 W0.drew := (Below.refl _ _).drew
  have DF := Lib.hid (CF.out W0.drew hbx.drew)
  clear hgx
  go_region_held_law (fun W => W.cell? ⟨w.heap.size, 0, none⟩ = some (.slice Ar rl cr) ∧ W.cell? ⟨w.heap.size, 1, none⟩ = some (.string key) ∧ W.cell? ⟨w.heap.size, 2, none⟩ = some (.slice Av vl cv) ∧ W.cell? ⟨w.heap.size, 3, none⟩ = some (.int .i64 n) ∧ W.cell? ⟨w.heap.size, 4, none⟩ = some (.slice Al ll cl))
    (with_reducible first | exact HS.out _ hbd | exact HS.out _ hb8 | exact HS.out _ hb7 | exact HS.out _ hb6 | exact HS.out _ hb5 | exact HS.out _ hb4)
    (first
      | (go_at_call 18; have D := CB.out _ (below_chain hbx hbx.size hb7); ((with_reducible refine D.mono ?_); rintro e w8 ⟨rfl, hb8'⟩; have hb8 := below_chain hb7 hb7.size hb8'))
      | (go_at_call 17; have D := CA.out _ (below_chain hbx hbx.size hb6); ((with_reducible refine D.mono ?_); rintro e w7 ⟨rfl, hb7'⟩; have hb7 := below_chain hb6 hb6.size hb7'))
      | (go_at_call 16; have D := CW.out _ (below_chain hbx hbx.size hb5); ((with_reducible refine D.mono ?_); rintro e w6 ⟨rfl, hb6'⟩; have hb6 := below_chain hb5 hb5.size hb6'))
      | (go_at_call 15; have D := CV.out _ (below_chain hbx hbx.size hb4); ((with_reducible refine D.mono ?_); rintro e w5 ⟨rfl, hb5'⟩; have hb5 := below_chain hb4 hb4.size hb5'))
      | (go_at_call 11; ((with_reducible refine DF.out.mono ?_); rintro e w4 ⟨rfl, hb4'⟩; have hb4 := below_chain hbd (Nat.le_refl _) hb4')))
  all_goals (
    have hbo := below_chain hbx hbx.size hb8
    go_wp2_with fail
    go_ret
    exact ⟨by first | rfl | simp, hbo⟩)
end Go.Proofs.YtpnfdfnbnoplgaaDoor
