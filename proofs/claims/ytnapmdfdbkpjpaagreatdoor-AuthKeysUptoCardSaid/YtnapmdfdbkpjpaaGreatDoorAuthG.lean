
/- The law's fixed answers about accounts. -/
import Derived.Test.YtnapmdfdbkpjpaaGreatDoorAuthF
namespace Go.Proofs.YtnapmdfdbkpjpaaGreatDoor
set_option maxRecDepth 100000
open Go Go.RowKit
set_option linter.unusedVariables false

theorem make32 (W : World) : (Instr.makeSlice 23 (.int .i64 32) (.int .i64 32)).run Tryz.prog W = .ok (.slice (some ⟨W.heap.size, 0, none⟩) 32 32) (W.alloc (.cells (bcells (List.replicate 32 0)).toArray 5)) := by
  obtain ⟨i0, hi, hz, hsz, hby⟩ := info_parts Tryz.infoByte
  have h := run_make W 23 5 i0 (.int .u8 0) Tryz.underlying23 hi hz .i64 .i64 32 32 (by omega) (by omega) (by rw [hby]; omega) (by omega)
  rw [hsz] at h
  have e : madeCells (Value.int .u8 0).cells (Int.toNat 32 * 1) = (bcells (List.replicate 32 0)).toArray := by
    rw [show Int.toNat 32 * 1 = 32 from rfl]
    apply Array.ext'
    rw [show (Value.int IntKind.u8 0).cells = #[Value.int .u8 0] from rfl, toList_madeCells_one]
    rfl
  rw [e] at h
  exact h
def zR : List UInt8 := List.replicate 32 0
theorem zR_len : zR.length = 32 := by simp [zR]
def fxR : List Pr := putA [] kAnn zR 0 0
theorem fxA1 : createM [] kAnn zR = (0, fxR) := by
  have h1 : identB kAnn = true := by decide +kernel
  unfold createM
  rw [if_pos h1, if_pos zR_len, if_neg (by simp [getL])]
  rfl
theorem fxA2 : createM fxR kAnn zR = (111, fxR) := by
  have h := create_twice (R := []) (a := kAnn) (r := zR) (by rw [fxA1])
  rw [fxA1] at h
  exact h
theorem fxA3 : getA fxR kAnn = some (zR, 0, 0) := getA_put (by rw [zR_len]; omega) (by omega) (by omega)
theorem fxA4 : getA fxR kBob = none := by
  unfold getA fxR putA
  rw [getL_putL, if_neg (by decide +kernel)]
  rfl
def kC1 : ByteArray := ⟨#[99]⟩
set_option maxHeartbeats 8000000 in
theorem afixed_any (w : World) : Calls Tryz.prog 6 #[] w fun e w' => e = .returned (.bool true) ∧ Below w.heap.size w w' := by
  have HN := Lib.hid (new_any w (.slice none 0 0) [] ⟨none, 0, rfl, Nat.le_refl _, Nat.zero_le _, fun h => absurd h (by simp)⟩ (by simp))
  have hmk := make32
  go_enter Tryz.func6, Tryz.ntmps6
  go_wp2_with fail
  refine HN.out.mono ?_
  rintro e w1 ⟨h1 | ⟨-, y, rfl, hyb, hym, hyn, hly, hri, hp1⟩, hb1⟩
  · exact absurd h1.1 (by decide)
  have A1 := Acc.made hp1 hly hri (by simp)
  obtain ⟨yb, ym, yn, yf⟩ := y
  dsimp only at hyb hym hyn ⊢
  have hyn' : yn = 0 := hyn
  clear hyn
  subst hyn'
  have hW1 := hb1.size
  have HB1 := Lib.hid hb1
  have ho1 := Own.made (B := w1.heap.size) w1 (List.replicate 32 0) (Nat.le_refl _) (by simp [maxLen])
  have A1' := A1.up ((Below.refl _ _).alloc (Nat.le_refl _) (.cells (bcells (List.replicate 32 0)).toArray 5))
  have HM : Hid (Calls Tryz.prog 12 #[.pointer (some ⟨yb, 0, none⟩), .string kAnn, .slice (some ⟨w1.heap.size, 0, none⟩) 32 32] (w1.alloc (.cells (bcells (List.replicate 32 0)).toArray 5)) fun e w' => e = .returned (.int .i64 (createM [] kAnn zR).1) ∧ Acc w1 ⟨yb, ym, 0, yf⟩ (createM [] kAnn zR).2 1 w' ∧ Kept (w1.alloc (.cells (bcells (List.replicate 32 0)).toArray 5)) w') :=
    Lib.hid (acreate_any A1' (show 0 + 0 < maxLen by unfold maxLen; omega) kAnn (by decide +kernel) _ zR ho1.rd)
  rw [fxA1] at HM
  clear HN hb1 hp1 hly hri A1 A1' ho1
  go_wp2_with fail
  refine HM.out.mono ?_
  rintro e w2 ⟨rfl, A2, -⟩
  have ho2 := Own.made (B := w2.heap.size) w2 (List.replicate 32 0) (Nat.le_refl _) (by simp [maxLen])
  have A2' := A2.up ((Below.refl _ _).alloc (Nat.le_refl _) (.cells (bcells (List.replicate 32 0)).toArray 5))
  have HM2 : Hid (Calls Tryz.prog 12 #[.pointer (some ⟨yb, 0, none⟩), .string kAnn, .slice (some ⟨w2.heap.size, 0, none⟩) 32 32] (w2.alloc (.cells (bcells (List.replicate 32 0)).toArray 5)) fun e w' => e = .returned (.int .i64 (createM fxR kAnn zR).1) ∧ Acc w1 ⟨yb, ym, 0, yf⟩ (createM fxR kAnn zR).2 2 w' ∧ Kept (w2.alloc (.cells (bcells (List.replicate 32 0)).toArray 5)) w') :=
    Lib.hid (acreate_any A2' (show 0 + 1 < maxLen by unfold maxLen; omega) kAnn (by decide +kernel) _ zR ho2.rd)
  rw [fxA2] at HM2
  clear HM A2 A2' ho2
  go_wp2_with fail
  refine HM2.out.mono ?_
  rintro e w3 ⟨rfl, A3, -⟩
  replace A3 : Acc w1 ⟨yb, ym, 0, yf⟩ fxR 2 w3 := A3
  have HG := Lib.hid (aget_any A3 kAnn (by decide +kernel))
  have HA3 := Lib.hid A3
  clear HM2 A3 hmk
  go_wp2_with fail
  refine HG.out.mono ?_
  rintro e w4 ⟨⟨v, r, b, s, hga, rfl, ho4⟩ | ⟨hga, -⟩, hb4⟩
  rotate_left
  · rw [fxA3] at hga; cases hga
  have HGA := Lib.hid hga
  rw [fxA3] at hga
  have hrl : r.length = 32 := by
    injection hga with e1
    injection e1 with e1 _
    rw [← e1, zR_len]
  have hs0 : s = 0 := by
    injection hga with e1
    injection e1 with _ e1
    injection e1 with _ e1
    exact e1.symm
  have hs1 : ((s : Int) == 0) = true := by simp [hs0]
  obtain ⟨A, c, rfl⟩ := ho4.form' hrl
  have hk5 := heap_alloc_new w4 (.cells #[.slice A 32 c, .int .u64 (b : Int), .int .u64 (s : Int)] 31)
  have hb5 := hb4.alloc hb4.size (.cells #[.slice A 32 c, .int .u64 (b : Int), .int .u64 (s : Int)] 31)
  have z0 := blk_cell hk5 0
  have z1 := blk_cell hk5 1
  have z2 := blk_cell hk5 2
  simp at z0 z1 z2
  have A5 := HA3.out.up hb5
  have HAn : Hid (Calls Tryz.prog 15 #[.pointer (some ⟨yb, 0, none⟩), .string kC1, .agg #[.string kBob, .int .u64 0, .int .u64 0, .int .u64 0, .int .u64 0, .int .u64 0, .int .u64 0, .slice none 0 0, .slice none 0 0]] (w4.alloc (.cells #[.slice A 32 c, .int .u64 (b : Int), .int .u64 (s : Int)] 31)) fun e w' => e = .returned (.int .i64 80) ∧ Below (w4.alloc (.cells #[.slice A 32 c, .int .u64 (b : Int), .int .u64 (s : Int)] 31)).heap.size (w4.alloc (.cells #[.slice A 32 c, .int .u64 (b : Int), .int .u64 (s : Int)] 31)) w') :=
    Lib.hid (aante_early A5 kC1 kBob (by decide +kernel) 0 80 (Or.inl ⟨fxA4, rfl⟩))
  have HCk : Hid (∀ Z, Below (w4.alloc (.cells #[.slice A 32 c, .int .u64 (b : Int), .int .u64 (s : Int)] 31)).heap.size (w4.alloc (.cells #[.slice A 32 c, .int .u64 (b : Int), .int .u64 (s : Int)] 31)) Z → Calls Tryz.prog 16 #[.pointer (some ⟨yb, 0, none⟩), .string kC1, .agg #[.string kAnn, .int .u64 1, .int .u64 0, .int .u64 0, .int .u64 0, .int .u64 0, .int .u64 0, .slice none 0 0, .slice none 0 0]] Z fun e w' => e = .returned (.int .i64 81) ∧ Below Z.heap.size Z w') :=
    Lib.hid fun Z hz => acheck_early (A5.up hz) kC1 kAnn (by decide +kernel) 1 81 (Or.inr ⟨⟨r, b, s, HGA.out, by omega⟩, rfl⟩)
  have HF : Hid (∀ Z, Below (w4.alloc (.cells #[.slice A 32 c, .int .u64 (b : Int), .int .u64 (s : Int)] 31)).heap.size (w4.alloc (.cells #[.slice A 32 c, .int .u64 (b : Int), .int .u64 (s : Int)] 31)) Z → Below w.heap.size w Z) := Lib.hid fun Z hz => HB1.out.trans ((A5.up hz).below hym hW1)
  clear HG HA3 HGA hga hrl hs0 ho4 hk5 hb4 hb5 A5 HB1 hyb hym
  go_wp2_with fail
  generalize w4.alloc (.cells #[.slice A 32 c, .int .u64 (b : Int), .int .u64 (s : Int)] 31) = w5 at *
  refine HAn.out.mono ?_
  rintro e w6 ⟨rfl, hb6⟩
  have HC2 := Lib.hid (HCk.out _ hb6)
  clear HAn HCk
  go_wp2_with fail
  refine HC2.out.mono ?_
  rintro e w7 ⟨rfl, hb7⟩
  have hq := HF.out _ (below_chain hb6 hb6.size hb7)
  go_wp2_with fail
  go_ret
  exact ⟨rfl, hq⟩
end Go.Proofs.YtnapmdfdbkpjpaaGreatDoor
