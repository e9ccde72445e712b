
/- The early answers of an account's check. -/
import Derived.Test.YtnapmdfdbkpjpaaGreatDoorAuthE
namespace Go.Proofs.YtnapmdfdbkpjpaaGreatDoor
set_option maxRecDepth 100000
open Go Go.RowKit
set_option linter.unusedVariables false

def EarlyA (R : List Pr) (sg : ByteArray) (q : Nat) (z : Int) : Prop := (getA R sg = none ∧ z = 80) ∨ ((∃ r b s, getA R sg = some (r, b, s) ∧ q ≠ s) ∧ z = 81)
set_option maxHeartbeats 4000000 in
theorem acheck_early {W W' : World} {y : Lyr} {R : List Pr} {k : Nat} (h : Acc W y R k W') (ch sg : ByteArray) (hs : sg.size ≤ 100000000) (q : Nat) (z : Int) (hz : EarlyA R sg q z) :
    Calls Tryz.prog 16 #[.pointer (some ⟨y.b, 0, none⟩), .string ch, .agg #[.string sg, .int .u64 (q : Int), .int .u64 0, .int .u64 0, .int .u64 0, .int .u64 0, .int .u64 0, .slice none 0 0, .slice none 0 0]] W' fun e w' => e = .returned (.int .i64 z) ∧ Below W'.heap.size W' w' := by
  have HG := Lib.hid (fun (Z : World) (hb : Below W'.heap.size W' Z) => aget_any (h.up hb) sg hs)
  have HZ := Lib.hid hz
  have hbox := heap_alloc_new W' (.cells #[.string sg, .int .u64 (q : Int), .int .u64 0, .int .u64 0, .int .u64 0, .int .u64 0, .int .u64 0, .slice none 0 0, .slice none 0 0] 49)
  have ha0 : Below W'.heap.size W' (W'.alloc (.cells #[.string sg, .int .u64 (q : Int), .int .u64 0, .int .u64 0, .int .u64 0, .int .u64 0, .int .u64 0, .slice none 0 0, .slice none 0 0] 49)) := (Below.refl _ _).alloc (Nat.le_refl _) _
  clear h hs hz
  go_enter Tryz.func16, Tryz.ntmps16
  go_wp2_with fail
  generalize W'.alloc (.cells #[.string sg, .int .u64 (q : Int), .int .u64 0, .int .u64 0, .int .u64 0, .int .u64 0, .int .u64 0, .slice none 0 0, .slice none 0 0] 49) = W0 at *
  have HC : Hid (∀ Z, Below W0.heap.size W0 Z → Z.cell? ⟨W'.heap.size, 1, none⟩ = some (.int .u64 (q : Int))) := Lib.hid fun Z hb => blk_cell ((hb.block _ (blk_lt hbox)).trans hbox) 1
  refine (HG.out _ ha0).mono ?_
  rintro e w1 ⟨⟨v1, r1, b1, s1, hga, rfl, ho1⟩ | ⟨hga, rfl⟩, hb1⟩
  · have hne : ((q : Int) != (s1 : Int)) = true ∧ z = 81 := by
      rcases HZ.out with ⟨e1, -⟩ | ⟨⟨r, b, s, e1, e2⟩, e3⟩
      · rw [hga] at e1; cases e1
      · rw [hga] at e1
        injection e1 with e1
        injection e1 with _ e1
        injection e1 with _ e1
        subst e1
        exact ⟨by simp; omega, e3⟩
    obtain ⟨hne, rfl⟩ := hne
    obtain ⟨A1, c1, rfl⟩ := ho1.form
    generalize r1.length = n1 at *
    have hk1 := heap_alloc_new w1 (.cells #[.slice A1 n1 c1, .int .u64 (b1 : Int), .int .u64 (s1 : Int)] 31)
    have hb2 := hb1.alloc hb1.size (.cells #[.slice A1 n1 c1, .int .u64 (b1 : Int), .int .u64 (s1 : Int)] 31)
    have z0 := blk_cell hk1 0
    have z1 := blk_cell hk1 1
    have z2 := blk_cell hk1 2
    simp at z0 z1 z2
    have c1 := HC.out _ hb2
    have hq2 := below_chain ha0 ha0.size hb2
    clear ho1 hga hk1 HG HZ
    go_wp2_with fail
    go_ret
    exact ⟨rfl, hq2⟩
  · have hz : z = 80 := by
      rcases HZ.out with ⟨-, e1⟩ | ⟨⟨r, b, s, e1, e2⟩, e3⟩
      · exact e1
      · rw [hga] at e1; cases e1
    subst hz
    have hq2 := below_chain ha0 ha0.size (hb1.alloc hb1.size (.cells #[.slice none 0 0, .int .u64 0, .int .u64 0] 31))
    clear hga HG HZ
    go_wp2_with fail
    go_ret
    exact ⟨rfl, hq2⟩
set_option maxHeartbeats 4000000 in
theorem aante_early {W W' : World} {y : Lyr} {R : List Pr} {k : Nat} (h : Acc W y R k W') (ch sg : ByteArray) (hs : sg.size ≤ 100000000) (q : Nat) (z : Int) (hz : EarlyA R sg q z) :
    Calls Tryz.prog 15 #[.pointer (some ⟨y.b, 0, none⟩), .string ch, .agg #[.string sg, .int .u64 (q : Int), .int .u64 0, .int .u64 0, .int .u64 0, .int .u64 0, .int .u64 0, .slice none 0 0, .slice none 0 0]] W' fun e w' => e = .returned (.int .i64 z) ∧ Below W'.heap.size W' w' := by
  have HG := Lib.hid (fun (Z : World) (hb : Below W'.heap.size W' Z) => acheck_early (h.up hb) ch sg hs q z hz)
  have hne : (z != 0) = true := by rcases hz with ⟨-, rfl⟩ | ⟨-, rfl⟩ <;> rfl
  have hbox := heap_alloc_new W' (.cells #[.string sg, .int .u64 (q : Int), .int .u64 0, .int .u64 0, .int .u64 0, .int .u64 0, .int .u64 0, .slice none 0 0, .slice none 0 0] 49)
  have ha0 : Below W'.heap.size W' (W'.alloc (.cells #[.string sg, .int .u64 (q : Int), .int .u64 0, .int .u64 0, .int .u64 0, .int .u64 0, .int .u64 0, .slice none 0 0, .slice none 0 0] 49)) := (Below.refl _ _).alloc (Nat.le_refl _) _
  clear h hs hz
  go_enter Tryz.func15, Tryz.ntmps15
  go_wp2_with fail
  refine (HG.out _ ha0).mono ?_
  rintro e w1 ⟨rfl, hb1⟩
  have hq1 := below_chain ha0 ha0.size hb1
  clear HG
  go_wp2_with fail
  go_ret
  exact ⟨rfl, hq1⟩
end Go.Proofs.YtnapmdfdbkpjpaaGreatDoor
