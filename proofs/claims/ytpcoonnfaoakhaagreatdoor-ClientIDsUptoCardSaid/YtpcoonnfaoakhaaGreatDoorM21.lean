/- Texts joined: ClnF0. -/
import Derived.Test.YtpcoonnfaoakhaaGreatDoorM19
import Derived.Test.YtpcoonnfaoakhaaGreatDoorM20
namespace Go.Proofs.YtpcoonnfaoakhaaGreatDoor
set_option maxRecDepth 100000
open Go Go.RowKit
set_option linter.unusedVariables false

/-! ### what is written is read back -/
/-! ### keys -/
/-! ### how many pairs -/
theorem Rise.setL {R : List Pr} (h : Rise R) (key : ByteArray) (v : List UInt8) : Rise (Go.Proofs.YtpcoonnfaoakhaaGreatDoor.setL key v R) := by
  unfold Go.Proofs.YtpcoonnfaoakhaaGreatDoor.setL
  split
  · exact h.put _
  · exact h
/-! ### a store that no other chain has touched -/
def ibcP : ByteArray := ⟨#[105, 98, 99, 47]⟩
def ClV.cs (v : ClV) : Array Value := #[.string v.ch, .int .u64 (v.la : Int), .int .u64 (v.pe : Int), .bool v.fr]
/-! ### what a client that is made leaves -/
section
variable {R : List Pr} {h : HdV} {pe now : Nat}
structure MadeC (R R3 : List Pr) (h : HdV) (pe n : Nat) (id : ByteArray) : Prop where
  num : getL R3 (kNum sClient) = some (be (n + 1) 8)
  cl : getCl R3 id = some ⟨h.ch, h.ht, pe, false⟩
  cs : getCs R3 id h.ht = some ⟨h.tm, h.rt, h.nx⟩
  len : (R3.filter (fun p => begB consP p.1)).length = (R.filter (fun p => begB consP p.1)).length + 1
  rise : Rise R3
  other : ∀ a n, a ≠ id → getL R3 (kCons a n) = getL R (kCons a n)
end
end Go.Proofs.YtpcoonnfaoakhaaGreatDoor
namespace Go.Proofs.YtpcoonnfaoakhaaGreatDoor
set_option maxRecDepth 100000
open Go Go.RowKit
set_option linter.unusedVariables false

def zR32F : List UInt8 := List.replicate 32 0
def fix4H : HdV := ⟨⟨#[111, 110, 101]⟩, 5, 50, zR32F, zR32F, zR32F⟩
def fix4E : HdV := ⟨⟨#[]⟩, 0, 0, [], [], []⟩
def sCl0F : ByteArray := ⟨#[99, 108, 105, 101, 110, 116, 45, 48]⟩
def fix4R : List Pr := createR [] fix4H 9
theorem fx40 : numN [] sClient < 10 := by decide +kernel
theorem fx41 : createE fix4H 9 50 = 0 := by decide +kernel
theorem fx42 : newID [] sClient = sCl0F := by decide +kernel
theorem fx43 : getCl fix4R sCl0F = some ⟨⟨#[111, 110, 101]⟩, 5, 9, false⟩ := by kernel_rfl
theorem fx44 : numN fix4R sClient < 10 := by decide +kernel
theorem fx45 : createE fix4E 9 50 = 40 := by decide +kernel
theorem fx46 : verifyE fix4R sCl0F 5 59 ⟨#[107]⟩ [] ⟨0, []⟩ = 103 := by decide +kernel
theorem fx47 : verifyE fix4R sCl0F 5 58 ⟨#[107]⟩ [] ⟨0, []⟩ = 61 := by decide +kernel
theorem nilP (Z : World) : ProofV Z Z.heap.size (.agg #[.int .i64 0, .slice none 0 0]) ⟨0, []⟩ := ⟨.slice none 0 0, rfl, ⟨none, 0, rfl, by simp, by simp [maxLen], fun h => absurd h (by simp)⟩, by decide, by decide⟩
set_option maxHeartbeats 16000000 in
theorem clfixed_any (w : World) (fr : TypeId × Nat × Nat) (hk : w.heap[0]? = some (.cells kVals fr.1 fr.2)) : Calls Tryz.prog 20 #[] w fun e w' => e = .returned (.bool true) ∧ Below w.heap.size w w' := by
  have HKT := Lib.hid (And.intro (blk_lt hk) hk)
  have HNW := Lib.hid (new_any w (.slice none 0 0) [] ⟨none, 0, rfl, Nat.le_refl _, Nat.zero_le _, fun h => absurd h (by simp)⟩ (by simp))
  clear hk
  go_enter Tryz.func20, Tryz.ntmps20
  go_wp2_with fail
  refine HNW.out.mono ?_
  rintro e w1 ⟨h1' | ⟨-, y, rfl, hyb, hym, hyn, hly, hri, hp1⟩, hb1⟩
  · exact absurd h1'.1 (by decide)
  have A1 := At.made hp1 hly hri (by simp)
  obtain ⟨yb, ym, yn, yf⟩ := y
  dsimp only at hym hyn ⊢
  have hyn' : yn = 0 := hyn
  subst hyn'
  have HA1 := Lib.hid A1
  have HB1 := Lib.hid (And.intro hb1 hym)
  clear HNW hyb hyn hly hri hp1 hb1 hym A1
  go_wp2_with fail
  have hmk := make32X
  refine wp_region_held_drew (S := fun _ => True) (by kernel_rfl) trivial (fun _ => ?_)
  refine wpAnyH_mid 1 #[true, true, true, true, true, false] (R := fun a0 w0 a' W => ∃ g0 g1 g2 gh, a' = (((((a0.put (some 16) (.slice (some ⟨g0, 0, none⟩) 32 32)).put (some 17) (.slice (some ⟨g1, 0, none⟩) 32 32)).put (some 18) (.slice (some ⟨g2, 0, none⟩) 32 32)).put (some 3) (.pointer (some ⟨gh, 0, none⟩))).put (some 19) (.agg #[.string ⟨#[111, 110, 101]⟩, .int .u64 5, .int .u64 50, .slice (some ⟨g0, 0, none⟩) 32 32, .slice (some ⟨g1, 0, none⟩) 32 32, .slice (some ⟨g2, 0, none⟩) 32 32])) ∧ Zr W g0 ∧ Zr W g1 ∧ Zr W g2 ∧ Sx 109 #[.string ⟨#[]⟩, .int .u64 0, .int .u64 0, .slice none 0 0, .slice none 0 0, .slice none 0 0] W gh ∧ Below w0.heap.size w0 W ∧ w0.heap.size ≤ gh) ?_ (fun HN => ?_)
  · rintro a' W0 ⟨g0, g1, g2, gh, rfl, f0, f1, f2, f4, hbr0, hg4⟩
    simp only [Act.put, List.setIfInBounds_toArray, List.set_cons_zero, List.set_cons_succ, List.getElem_toArray, List.getElem_cons_zero, List.getElem_cons_succ]
    refine wpAnyH_ready (rs := [5]) (by kernel_rfl) (by simp) ?_
    refine AllReadyH.cons rfl (fun K hK => ?_) AllReadyH.nil
    have r0 := blk_cell f4 0
    have q0 := blk_free f4 0
    have r1 := blk_cell f4 1
    have q1 := blk_free f4 1
    have r2 := blk_cell f4 2
    have q2 := blk_free f4 2
    have r3 := blk_cell f4 3
    have q3 := blk_free f4 3
    have r4 := blk_cell f4 4
    have q4 := blk_free f4 4
    have r5 := blk_cell f4 5
    have q5 := blk_free f4 5
    have e0 := Zr.ne f0 f4 rfl
    have e1 := Zr.ne f1 f4 rfl
    have e2 := Zr.ne f2 f4 rfl
    have HF := Lib.hid (And.intro (Zr.set6 f0 e0 (.string ⟨#[111, 110, 101]⟩) (.int .u64 5) (.int .u64 50) (.slice (some ⟨g0, 0, none⟩) 32 32) (.slice (some ⟨g1, 0, none⟩) 32 32) (.slice (some ⟨g2, 0, none⟩) 32 32)) (And.intro (Zr.set6 f1 e1 (.string ⟨#[111, 110, 101]⟩) (.int .u64 5) (.int .u64 50) (.slice (some ⟨g0, 0, none⟩) 32 32) (.slice (some ⟨g1, 0, none⟩) 32 32) (.slice (some ⟨g2, 0, none⟩) 32 32)) (And.intro (Zr.set6 f2 e2 (.string ⟨#[111, 110, 101]⟩) (.int .u64 5) (.int .u64 50) (.slice (some ⟨g0, 0, none⟩) 32 32) (.slice (some ⟨g1, 0, none⟩) 32 32) (.slice (some ⟨g2, 0, none⟩) 32 32)) (And.intro (set6P f4 (.string ⟨#[111, 110, 101]⟩) (.int .u64 5) (.int .u64 50) (.slice (some ⟨g0, 0, none⟩) 32 32) (.slice (some ⟨g1, 0, none⟩) 32 32) (.slice (some ⟨g2, 0, none⟩) 32 32)) (below_set6P hbr0 hg4 (.string ⟨#[111, 110, 101]⟩) (.int .u64 5) (.int .u64 50) (.slice (some ⟨g0, 0, none⟩) 32 32) (.slice (some ⟨g1, 0, none⟩) 32 32) (.slice (some ⟨g2, 0, none⟩) 32 32))))))
    clear e0 e1 e2 f0 f1 f2 f4 hbr0 hg4
    go_simp
    refine hK.out _ _ trivial (fun _ => ?_)
    clear hK K
    refine wpAnyH_done (by kernel_rfl) ?_ _
    obtain ⟨z0, z1, z2, zh0, hbr⟩ := HF.out
    have zh : Sx 109 #[.string ⟨#[111, 110, 101]⟩, .int .u64 5, .int .u64 50, .slice (some ⟨g0, 0, none⟩) 32 32, .slice (some ⟨g1, 0, none⟩) 32 32, .slice (some ⟨g2, 0, none⟩) 32 32] _ gh := zh0
    clear HF zh0 r0 r1 r2 r3 r4 r5 q0 q1 q2 q3 q4 q5
    generalize (((((W0.setCell ⟨gh, 0, none⟩ (.string ⟨#[111, 110, 101]⟩)).setCell ⟨gh, 1, none⟩ (.int .u64 5)).setCell ⟨gh, 2, none⟩ (.int .u64 50)).setCell ⟨gh, 3, none⟩ (.slice (some ⟨g0, 0, none⟩) 32 32)).setCell ⟨gh, 4, none⟩ (.slice (some ⟨g1, 0, none⟩) 32 32)).setCell ⟨gh, 5, none⟩ (.slice (some ⟨g2, 0, none⟩) 32 32) = W at *
    have A2 := (HA1.out.up (Below.drew (Below.refl _ _))).up hbr
    have HC := Lib.hid (clcreate_any A2 (show 0 + 0 + 3 ≤ maxLen by unfold maxLen; decide) fx40 fix4H 9 50 (.slice (some ⟨g0, 0, none⟩) 32 32) (.slice (some ⟨g1, 0, none⟩) 32 32) (.slice (some ⟨g2, 0, none⟩) 32 32) z0.rd z1.rd z2.rd (by decide +kernel) (by show 5 < _; decide) (by show 50 < _; decide) (by decide))
    rw [fx41, fx42, if_pos rfl, if_pos rfl, show createR [] fix4H 9 = fix4R from rfl] at HC
    have c0 := blk_cell zh 0
    have c1 := blk_cell zh 1
    have c2 := blk_cell zh 2
    have c3 := blk_cell zh 3
    have c4 := blk_cell zh 4
    have c5 := blk_cell zh 5
    clear HA1 A2 hbr z0 z1 z2 zh
    unfold fix4H at HC
    dsimp only at HC
    unfold sCl0F at HC
    go_wp2_with fail
    refine HC.out.mono ?_
    rintro e w3 ⟨rfl, A3, hk3⟩
    have HG3 := Lib.hid (clget_any A3 sCl0F (by decide +kernel))
    rw [fx43] at HG3
    unfold clV ClV.val sCl0F at HG3
    dsimp only at HG3
    have HA3 := Lib.hid A3
    clear HC c0 c1 c2 c3 c4 c5 A3 hk3
    go_wp2_with fail
    refine HG3.out.mono ?_
    rintro e w4 ⟨rfl, hb4⟩
    have m4 := heap_alloc_new w4 (.cells #[.string ⟨#[111, 110, 101]⟩, .int .u64 5, .int .u64 9, .bool false] 112)
    have ha4 := hb4.alloc hb4.size (.cells #[.string ⟨#[111, 110, 101]⟩, .int .u64 5, .int .u64 9, .bool false] 112)
    have A4 := HA3.out.up ha4
    have d0 := blk_cell m4 0
    have d1 := blk_cell m4 1
    have d2 := blk_cell m4 2
    have d3 := blk_cell m4 3
    have hnil : ∀ Z : World, Rd Z Z.heap.size (.slice none 0 0) [] := fun Z => Rd.nil _ _
    have HC4 := Lib.hid (clcreate_any A4 (show 0 + (0 + 3) + 3 ≤ maxLen by unfold maxLen; decide) fx44 fix4E 9 50 (.slice none 0 0) (.slice none 0 0) (.slice none 0 0) (hnil _) (hnil _) (hnil _) (by decide +kernel) (by show 0 < _; decide) (by show 0 < _; decide) (by decide))
    rw [fx45, if_neg (by decide), if_neg (by decide)] at HC4
    unfold fix4E at HC4
    dsimp only at HC4
    have HM := Lib.hid m4
    clear HG3 HA3 A4 m4 ha4 hb4 hnil
    go_wp2_with fail
    generalize w4.alloc (.cells #[.string ⟨#[111, 110, 101]⟩, .int .u64 5, .int .u64 9, .bool false] 112) = w5 at *
    generalize w4.heap.size = g4 at *
    refine HC4.out.mono ?_
    rintro e w6 ⟨rfl, A6, hk6⟩
    have e0 := hk6.cell d0
    have e1 := hk6.cell d1
    have e2 := hk6.cell d2
    have e3 := hk6.cell d3
    have hbw : Below w.heap.size w w6 := HB1.out.1.trans (A6.below HB1.out.2 HB1.out.1.size)
    have HV1 := Lib.hid (clverify_any A6 sCl0F 5 59 (by decide +kernel) (by decide) (by decide) ⟨#[107]⟩ (.slice none 0 0) [] 0 none 0 0 ⟨0, []⟩ (fun Z _ => nilP Z) (Rd.nil _ _) fr ((hbw.block _ HKT.out.1).trans HKT.out.2))
    rw [fx46] at HV1
    unfold sCl0F at HV1
    have HA6 := Lib.hid A6
    clear HC4 d0 d1 d2 d3 hk6 A6 HM
    go_wp2_with fail
    refine HV1.out.mono ?_
    rintro e w7 ⟨rfl, hb7⟩
    have A7 := HA6.out.up hb7
    have hbw7 : Below w.heap.size w w7 := HB1.out.1.trans (A7.below HB1.out.2 HB1.out.1.size)
    have HV2 := Lib.hid (clverify_any A7 sCl0F 5 58 (by decide +kernel) (by decide) (by decide) ⟨#[107]⟩ (.slice none 0 0) [] 0 none 0 0 ⟨0, []⟩ (fun Z _ => nilP Z) (Rd.nil _ _) fr ((hbw7.block _ HKT.out.1).trans HKT.out.2))
    rw [fx47] at HV2
    unfold sCl0F at HV2
    clear HV1 HA6 A7 hb7 e0 e1 e2 e3
    go_wp2_with fail
    refine HV2.out.mono ?_
    rintro e w8 ⟨rfl, hb8⟩
    have hq := hbw7.trans (hb8.mono hbw7.size)
    go_wp2_with fail
    go_ret
    exact ⟨rfl, hq⟩
  have hb_0 : Below w1.drew.heap.size w1.drew w1.drew := Below.refl _ _
  refine wpAnyH_ready (rs := [0, 1, 2, 4]) (by kernel_rfl) (by simp) ?_
  refine AllReadyH.cons rfl (fun K hK => ?_) ?_
  · go_simp
    have f0_1 := Zr.new (w1.drew)
    have hs_0 : (w1.drew).heap.size = w1.heap.size := by simp
    rw [hs_0] at f0_1
    have hb_1 := hb_0.alloc hb_0.size (.cells (bcells (List.replicate 32 0)).toArray 5)
    refine hK.out _ _ trivial (fun _ => ?_)
    clear hK K
    refine wpAnyH_ready (rs := [1, 2, 4]) (by kernel_rfl) (by simp) ?_
    refine AllReadyH.cons rfl (fun K hK => ?_) ?_
    · go_simp
      have f0_2 := Zr.alloc f0_1 (.cells (bcells (List.replicate 32 0)).toArray 5)
      have f1_2 := Zr.new ((w1.drew).alloc (.cells (bcells (List.replicate 32 0)).toArray 5))
      have hs_1 : ((w1.drew).alloc (.cells (bcells (List.replicate 32 0)).toArray 5)).heap.size = w1.heap.size + 1 := by simp
      rw [hs_1] at f1_2
      have hb_2 := hb_1.alloc hb_1.size (.cells (bcells (List.replicate 32 0)).toArray 5)
      refine hK.out _ _ trivial (fun _ => ?_)
      clear hK K
      refine wpAnyH_ready (rs := [2, 4]) (by kernel_rfl) (by simp) ?_
      refine AllReadyH.cons rfl (fun K hK => ?_) ?_
      · go_simp
        have f0_3 := Zr.alloc f0_2 (.cells (bcells (List.replicate 32 0)).toArray 5)
        have f1_3 := Zr.alloc f1_2 (.cells (bcells (List.replicate 32 0)).toArray 5)
        have f2_3 := Zr.new (((w1.drew).alloc (.cells (bcells (List.replicate 32 0)).toArray 5)).alloc (.cells (bcells (List.replicate 32 0)).toArray 5))
        have hs_2 : (((w1.drew).alloc (.cells (bcells (List.replicate 32 0)).toArray 5)).alloc (.cells (bcells (List.replicate 32 0)).toArray 5)).heap.size = w1.heap.size + 1 + 1 := by simp
        rw [hs_2] at f2_3
        have hb_3 := hb_2.alloc hb_2.size (.cells (bcells (List.replicate 32 0)).toArray 5)
        refine hK.out _ _ trivial (fun _ => ?_)
        clear hK K
        refine wpAnyH_take (i := 3) (oi := _) (v := ?_) rfl (by kernel_rfl) (by kernel_rfl) (by kernel_rfl) (fun _ _ _ h => h) (Or.inl ⟨by rfl, ?_⟩) trivial ?_
        rotate_left
        · intro W hSW
          try go_simp
          all_goals with_reducible rfl
        simp only [Act.put, List.setIfInBounds_toArray, List.set_cons_zero, List.set_cons_succ, List.getElem_toArray, List.getElem_cons_zero, List.getElem_cons_succ]
        refine wpAnyH_ready (rs := [4]) (by kernel_rfl) (by simp) ?_
        refine AllReadyH.cons rfl (fun K hK => ?_) ?_
        · go_simp
          have f0_4 := Zr.alloc f0_3 (.cells #[.string ⟨#[]⟩, .int .u64 0, .int .u64 0, .slice none 0 0, .slice none 0 0, .slice none 0 0] 109)
          have f1_4 := Zr.alloc f1_3 (.cells #[.string ⟨#[]⟩, .int .u64 0, .int .u64 0, .slice none 0 0, .slice none 0 0, .slice none 0 0] 109)
          have f2_4 := Zr.alloc f2_3 (.cells #[.string ⟨#[]⟩, .int .u64 0, .int .u64 0, .slice none 0 0, .slice none 0 0, .slice none 0 0] 109)
          have f4_4 : Sx 109 #[.string ⟨#[]⟩, .int .u64 0, .int .u64 0, .slice none 0 0, .slice none 0 0, .slice none 0 0] (((((w1.drew).alloc (.cells (bcells (List.replicate 32 0)).toArray 5)).alloc (.cells (bcells (List.replicate 32 0)).toArray 5)).alloc (.cells (bcells (List.replicate 32 0)).toArray 5)).alloc (.cells #[.string ⟨#[]⟩, .int .u64 0, .int .u64 0, .slice none 0 0, .slice none 0 0, .slice none 0 0] 109)) ((((w1.drew).alloc (.cells (bcells (List.replicate 32 0)).toArray 5)).alloc (.cells (bcells (List.replicate 32 0)).toArray 5)).alloc (.cells (bcells (List.replicate 32 0)).toArray 5)).heap.size := heap_alloc_new ((((w1.drew).alloc (.cells (bcells (List.replicate 32 0)).toArray 5)).alloc (.cells (bcells (List.replicate 32 0)).toArray 5)).alloc (.cells (bcells (List.replicate 32 0)).toArray 5)) _
          have hs_3 : ((((w1.drew).alloc (.cells (bcells (List.replicate 32 0)).toArray 5)).alloc (.cells (bcells (List.replicate 32 0)).toArray 5)).alloc (.cells (bcells (List.replicate 32 0)).toArray 5)).heap.size = w1.heap.size + 1 + 1 + 1 := by simp
          rw [hs_3] at f4_4
          have hb_4 := hb_3.alloc hb_3.size (.cells #[.string ⟨#[]⟩, .int .u64 0, .int .u64 0, .slice none 0 0, .slice none 0 0, .slice none 0 0] 109)
          have hg4 := hb_3.size
          rw [hs_3] at hg4
          refine hK.out _ _ trivial (fun _ => ?_)
          clear hK K
          refine wpAnyH_listed (L' := #[true, true, true, true, true, false]) (by kernel_rfl) ?_
          refine HN _ _ ⟨w1.heap.size, w1.heap.size + 1, w1.heap.size + 1 + 1, w1.heap.size + 1 + 1 + 1, by kernel_rfl, f0_4, f1_4, f2_4, f4_4, hb_4, hg4⟩
        exact AllReadyH.nil
      refine AllReadyH.cons rfl (fun K hK => ?_) ?_
      · go_simp
        have f0_3 := Zr.alloc f0_2 (.cells #[.string ⟨#[]⟩, .int .u64 0, .int .u64 0, .slice none 0 0, .slice none 0 0, .slice none 0 0] 109)
        have f1_3 := Zr.alloc f1_2 (.cells #[.string ⟨#[]⟩, .int .u64 0, .int .u64 0, .slice none 0 0, .slice none 0 0, .slice none 0 0] 109)
        have f4_3 : Sx 109 #[.string ⟨#[]⟩, .int .u64 0, .int .u64 0, .slice none 0 0, .slice none 0 0, .slice none 0 0] ((((w1.drew).alloc (.cells (bcells (List.replicate 32 0)).toArray 5)).alloc (.cells (bcells (List.replicate 32 0)).toArray 5)).alloc (.cells #[.string ⟨#[]⟩, .int .u64 0, .int .u64 0, .slice none 0 0, .slice none 0 0, .slice none 0 0] 109)) (((w1.drew).alloc (.cells (bcells (List.replicate 32 0)).toArray 5)).alloc (.cells (bcells (List.replicate 32 0)).toArray 5)).heap.size := heap_alloc_new (((w1.drew).alloc (.cells (bcells (List.replicate 32 0)).toArray 5)).alloc (.cells (bcells (List.replicate 32 0)).toArray 5)) _
        have hs_2 : (((w1.drew).alloc (.cells (bcells (List.replicate 32 0)).toArray 5)).alloc (.cells (bcells (List.replicate 32 0)).toArray 5)).heap.size = w1.heap.size + 1 + 1 := by simp
        rw [hs_2] at f4_3
        have hb_3 := hb_2.alloc hb_2.size (.cells #[.string ⟨#[]⟩, .int .u64 0, .int .u64 0, .slice none 0 0, .slice none 0 0, .slice none 0 0] 109)
        have hg4 := hb_2.size
        rw [hs_2] at hg4
        refine hK.out _ _ trivial (fun _ => ?_)
        clear hK K
        refine wpAnyH_ready (rs := [2]) (by kernel_rfl) (by simp) ?_
        refine AllReadyH.cons rfl (fun K hK => ?_) ?_
        · go_simp
          have f0_4 := Zr.alloc f0_3 (.cells (bcells (List.replicate 32 0)).toArray 5)
          have f1_4 := Zr.alloc f1_3 (.cells (bcells (List.replicate 32 0)).toArray 5)
          have f4_4 := Sx.alloc f4_3 (.cells (bcells (List.replicate 32 0)).toArray 5)
          have f2_4 := Zr.new ((((w1.drew).alloc (.cells (bcells (List.replicate 32 0)).toArray 5)).alloc (.cells (bcells (List.replicate 32 0)).toArray 5)).alloc (.cells #[.string ⟨#[]⟩, .int .u64 0, .int .u64 0, .slice none 0 0, .slice none 0 0, .slice none 0 0] 109))
          have hs_3 : ((((w1.drew).alloc (.cells (bcells (List.replicate 32 0)).toArray 5)).alloc (.cells (bcells (List.replicate 32 0)).toArray 5)).alloc (.cells #[.string ⟨#[]⟩, .int .u64 0, .int .u64 0, .slice none 0 0, .slice none 0 0, .slice none 0 0] 109)).heap.size = w1.heap.size + 1 + 1 + 1 := by simp
          rw [hs_3] at f2_4
          have hb_4 := hb_3.alloc hb_3.size (.cells (bcells (List.replicate 32 0)).toArray 5)
          refine hK.out _ _ trivial (fun _ => ?_)
          clear hK K
          refine wpAnyH_take (i := 3) (oi := _) (v := ?_) rfl (by kernel_rfl) (by kernel_rfl) (by kernel_rfl) (fun _ _ _ h => h) (Or.inl ⟨by rfl, ?_⟩) trivial ?_
          rotate_left
          · intro W hSW
            try go_simp
            all_goals with_reducible rfl
          simp only [Act.put, List.setIfInBounds_toArray, List.set_cons_zero, List.set_cons_succ, List.getElem_toArray, List.getElem_cons_zero, List.getElem_cons_succ]
          refine wpAnyH_listed (L' := #[true, true, true, true, true, false]) (by kernel_rfl) ?_
          refine HN _ _ ⟨w1.heap.size, w1.heap.size + 1, w1.heap.size + 1 + 1 + 1, w1.heap.size + 1 + 1, by kernel_rfl, f0_4, f1_4, f2_4, f4_4, hb_4, hg4⟩
        exact AllReadyH.nil
      exact AllReadyH.nil
    refine AllReadyH.cons rfl (fun K hK => ?_) ?_
    · go_simp
      have f0_2 := Zr.alloc f0_1 (.cells (bcells (List.replicate 32 0)).toArray 5)
      have f2_2 := Zr.new ((w1.drew).alloc (.cells (bcells (List.replicate 32 0)).toArray 5))
      have hs_1 : ((w1.drew).alloc (.cells (bcells (List.replicate 32 0)).toArray 5)).heap.size = w1.heap.size + 1 := by simp
      rw [hs_1] at f2_2
      have hb_2 := hb_1.alloc hb_1.size (.cells (bcells (List.replicate 32 0)).toArray 5)
      refine hK.out _ _ trivial (fun _ => ?_)
      clear hK K
      refine wpAnyH_ready (rs := [1, 4]) (by kernel_rfl) (by simp) ?_
      refine AllReadyH.cons rfl (fun K hK => ?_) ?_
      · go_simp
        have f0_3 := Zr.alloc f0_2 (.cells (bcells (List.replicate 32 0)).toArray 5)
        have f2_3 := Zr.alloc f2_2 (.cells (bcells (List.replicate 32 0)).toArray 5)
        have f1_3 := Zr.new (((w1.drew).alloc (.cells (bcells (List.replicate 32 0)).toArray 5)).alloc (.cells (bcells (List.replicate 32 0)).toArray 5))
        have hs_2 : (((w1.drew).alloc (.cells (bcells (List.replicate 32 0)).toArray 5)).alloc (.cells (bcells (List.replicate 32 0)).toArray 5)).heap.size = w1.heap.size + 1 + 1 := by simp
        rw [hs_2] at f1_3
        have hb_3 := hb_2.alloc hb_2.size (.cells (bcells (List.replicate 32 0)).toArray 5)
        refine hK.out _ _ trivial (fun _ => ?_)
        clear hK K
        refine wpAnyH_take (i := 3) (oi := _) (v := ?_) rfl (by kernel_rfl) (by kernel_rfl) (by kernel_rfl) (fun _ _ _ h => h) (Or.inl ⟨by rfl, ?_⟩) trivial ?_
        rotate_left
        · intro W hSW
          try go_simp
          all_goals with_reducible rfl
        simp only [Act.put, List.setIfInBounds_toArray, List.set_cons_zero, List.set_cons_succ, List.getElem_toArray, List.getElem_cons_zero, List.getElem_cons_succ]
        refine wpAnyH_ready (rs := [4]) (by kernel_rfl) (by simp) ?_
        refine AllReadyH.cons rfl (fun K hK => ?_) ?_
        · go_simp
          have f0_4 := Zr.alloc f0_3 (.cells #[.string ⟨#[]⟩, .int .u64 0, .int .u64 0, .slice none 0 0, .slice none 0 0, .slice none 0 0] 109)
          have f2_4 := Zr.alloc f2_3 (.cells #[.string ⟨#[]⟩, .int .u64 0, .int .u64 0, .slice none 0 0, .slice none 0 0, .slice none 0 0] 109)
          have f1_4 := Zr.alloc f1_3 (.cells #[.string ⟨#[]⟩, .int .u64 0, .int .u64 0, .slice none 0 0, .slice none 0 0, .slice none 0 0] 109)
          have f4_4 : Sx 109 #[.string ⟨#[]⟩, .int .u64 0, .int .u64 0, .slice none 0 0, .slice none 0 0, .slice none 0 0] (((((w1.drew).alloc (.cells (bcells (List.replicate 32 0)).toArray 5)).alloc (.cells (bcells (List.replicate 32 0)).toArray 5)).alloc (.cells (bcells (List.replicate 32 0)).toArray 5)).alloc (.cells #[.string ⟨#[]⟩, .int .u64 0, .int .u64 0, .slice none 0 0, .slice none 0 0, .slice none 0 0] 109)) ((((w1.drew).alloc (.cells (bcells (List.replicate 32 0)).toArray 5)).alloc (.cells (bcells (List.replicate 32 0)).toArray 5)).alloc (.cells (bcells (List.replicate 32 0)).toArray 5)).heap.size := heap_alloc_new ((((w1.drew).alloc (.cells (bcells (List.replicate 32 0)).toArray 5)).alloc (.cells (bcells (List.replicate 32 0)).toArray 5)).alloc (.cells (bcells (List.replicate 32 0)).toArray 5)) _
          have hs_3 : ((((w1.drew).alloc (.cells (bcells (List.replicate 32 0)).toArray 5)).alloc (.cells (bcells (List.replicate 32 0)).toArray 5)).alloc (.cells (bcells (List.replicate 32 0)).toArray 5)).heap.size = w1.heap.size + 1 + 1 + 1 := by simp
          rw [hs_3] at f4_4
          have hb_4 := hb_3.alloc hb_3.size (.cells #[.string ⟨#[]⟩, .int .u64 0, .int .u64 0, .slice none 0 0, .slice none 0 0, .slice none 0 0] 109)
          have hg4 := hb_3.size
          rw [hs_3] at hg4
          refine hK.out _ _ trivial (fun _ => ?_)
          clear hK K
          refine wpAnyH_listed (L' := #[true, true, true, true, true, false]) (by kernel_rfl) ?_
          refine HN _ _ ⟨w1.heap.size, w1.heap.size + 1 + 1, w1.heap.size + 1, w1.heap.size + 1 + 1 + 1, by kernel_rfl, f0_4, f1_4, f2_4, f4_4, hb_4, hg4⟩
        exact AllReadyH.nil
      refine AllReadyH.cons rfl (fun K hK => ?_) ?_
      · go_simp
        have f0_3 := Zr.alloc f0_2 (.cells #[.string ⟨#[]⟩, .int .u64 0, .int .u64 0, .slice none 0 0, .slice none 0 0, .slice none 0 0] 109)
        have f2_3 := Zr.alloc f2_2 (.cells #[.string ⟨#[]⟩, .int .u64 0, .int .u64 0, .slice none 0 0, .slice none 0 0, .slice none 0 0] 109)
        have f4_3 : Sx 109 #[.string ⟨#[]⟩, .int .u64 0, .int .u64 0, .slice none 0 0, .slice none 0 0, .slice none 0 0] ((((w1.drew).alloc (.cells (bcells (List.replicate 32 0)).toArray 5)).alloc (.cells (bcells (List.replicate 32 0)).toArray 5)).alloc (.cells #[.string ⟨#[]⟩, .int .u64 0, .int .u64 0, .slice none 0 0, .slice none 0 0, .slice none 0 0] 109)) (((w1.drew).alloc (.cells (bcells (List.replicate 32 0)).toArray 5)).alloc (.cells (bcells (List.replicate 32 0)).toArray 5)).heap.size := heap_alloc_new (((w1.drew).alloc (.cells (bcells (List.replicate 32 0)).toArray 5)).alloc (.cells (bcells (List.replicate 32 0)).toArray 5)) _
        have hs_2 : (((w1.drew).alloc (.cells (bcells (List.replicate 32 0)).toArray 5)).alloc (.cells (bcells (List.replicate 32 0)).toArray 5)).heap.size = w1.heap.size + 1 + 1 := by simp
        rw [hs_2] at f4_3
        have hb_3 := hb_2.alloc hb_2.size (.cells #[.string ⟨#[]⟩, .int .u64 0, .int .u64 0, .slice none 0 0, .slice none 0 0, .slice none 0 0] 109)
        have hg4 := hb_2.size
        rw [hs_2] at hg4
        refine hK.out _ _ trivial (fun _ => ?_)
        clear hK K
        refine wpAnyH_ready (rs := [1]) (by kernel_rfl) (by simp) ?_
        refine AllReadyH.cons rfl (fun K hK => ?_) ?_
        · go_simp
          have f0_4 := Zr.alloc f0_3 (.cells (bcells (List.replicate 32 0)).toArray 5)
          have f2_4 := Zr.alloc f2_3 (.cells (bcells (List.replicate 32 0)).toArray 5)
          have f4_4 := Sx.alloc f4_3 (.cells (bcells (List.replicate 32 0)).toArray 5)
          have f1_4 := Zr.new ((((w1.drew).alloc (.cells (bcells (List.replicate 32 0)).toArray 5)).alloc (.cells (bcells (List.replicate 32 0)).toArray 5)).alloc (.cells #[.string ⟨#[]⟩, .int .u64 0, .int .u64 0, .slice none 0 0, .slice none 0 0, .slice none 0 0] 109))
          have hs_3 : ((((w1.drew).alloc (.cells (bcells (List.replicate 32 0)).toArray 5)).alloc (.cells (bcells (List.replicate 32 0)).toArray 5)).alloc (.cells #[.string ⟨#[]⟩, .int .u64 0, .int .u64 0, .slice none 0 0, .slice none 0 0, .slice none 0 0] 109)).heap.size = w1.heap.size + 1 + 1 + 1 := by simp
          rw [hs_3] at f1_4
          have hb_4 := hb_3.alloc hb_3.size (.cells (bcells (List.replicate 32 0)).toArray 5)
          refine hK.out _ _ trivial (fun _ => ?_)
          clear hK K
          refine wpAnyH_take (i := 3) (oi := _) (v := ?_) rfl (by kernel_rfl) (by kernel_rfl) (by kernel_rfl) (fun _ _ _ h => h) (Or.inl ⟨by rfl, ?_⟩) trivial ?_
          rotate_left
          · intro W hSW
            try go_simp
            all_goals with_reducible rfl
          simp only [Act.put, List.setIfInBounds_toArray, List.set_cons_zero, List.set_cons_succ, List.getElem_toArray, List.getElem_cons_zero, List.getElem_cons_succ]
          refine wpAnyH_listed (L' := #[true, true, true, true, true, false]) (by kernel_rfl) ?_
          refine HN _ _ ⟨w1.heap.size, w1.heap.size + 1 + 1 + 1, w1.heap.size + 1, w1.heap.size + 1 + 1, by kernel_rfl, f0_4, f1_4, f2_4, f4_4, hb_4, hg4⟩
        exact AllReadyH.nil
      exact AllReadyH.nil
    refine AllReadyH.cons rfl (fun K hK => ?_) ?_
    · go_simp
      have f0_2 := Zr.alloc f0_1 (.cells #[.string ⟨#[]⟩, .int .u64 0, .int .u64 0, .slice none 0 0, .slice none 0 0, .slice none 0 0] 109)
      have f4_2 : Sx 109 #[.string ⟨#[]⟩, .int .u64 0, .int .u64 0, .slice none 0 0, .slice none 0 0, .slice none 0 0] (((w1.drew).alloc (.cells (bcells (List.replicate 32 0)).toArray 5)).alloc (.cells #[.string ⟨#[]⟩, .int .u64 0, .int .u64 0, .slice none 0 0, .slice none 0 0, .slice none 0 0] 109)) ((w1.drew).alloc (.cells (bcells (List.replicate 32 0)).toArray 5)).heap.size := heap_alloc_new ((w1.drew).alloc (.cells (bcells (List.replicate 32 0)).toArray 5)) _
      have hs_1 : ((w1.drew).alloc (.cells (bcells (List.replicate 32 0)).toArray 5)).heap.size = w1.heap.size + 1 := by simp
      rw [hs_1] at f4_2
      have hb_2 := hb_1.alloc hb_1.size (.cells #[.string ⟨#[]⟩, .int .u64 0, .int .u64 0, .slice none 0 0, .slice none 0 0, .slice none 0 0] 109)
      have hg4 := hb_1.size
      rw [hs_1] at hg4
      refine hK.out _ _ trivial (fun _ => ?_)
      clear hK K
      refine wpAnyH_ready (rs := [1, 2]) (by kernel_rfl) (by simp) ?_
      refine AllReadyH.cons rfl (fun K hK => ?_) ?_
      · go_simp
        have f0_3 := Zr.alloc f0_2 (.cells (bcells (List.replicate 32 0)).toArray 5)
        have f4_3 := Sx.alloc f4_2 (.cells (bcells (List.replicate 32 0)).toArray 5)
        have f1_3 := Zr.new (((w1.drew).alloc (.cells (bcells (List.replicate 32 0)).toArray 5)).alloc (.cells #[.string ⟨#[]⟩, .int .u64 0, .int .u64 0, .slice none 0 0, .slice none 0 0, .slice none 0 0] 109))
        have hs_2 : (((w1.drew).alloc (.cells (bcells (List.replicate 32 0)).toArray 5)).alloc (.cells #[.string ⟨#[]⟩, .int .u64 0, .int .u64 0, .slice none 0 0, .slice none 0 0, .slice none 0 0] 109)).heap.size = w1.heap.size + 1 + 1 := by simp
        rw [hs_2] at f1_3
        have hb_3 := hb_2.alloc hb_2.size (.cells (bcells (List.replicate 32 0)).toArray 5)
        refine hK.out _ _ trivial (fun _ => ?_)
        clear hK K
        refine wpAnyH_ready (rs := [2]) (by kernel_rfl) (by simp) ?_
        refine AllReadyH.cons rfl (fun K hK => ?_) ?_
        · go_simp
          have f0_4 := Zr.alloc f0_3 (.cells (bcells (List.replicate 32 0)).toArray 5)
          have f4_4 := Sx.alloc f4_3 (.cells (bcells (List.replicate 32 0)).toArray 5)
          have f1_4 := Zr.alloc f1_3 (.cells (bcells (List.replicate 32 0)).toArray 5)
          have f2_4 := Zr.new ((((w1.drew).alloc (.cells (bcells (List.replicate 32 0)).toArray 5)).alloc (.cells #[.string ⟨#[]⟩, .int .u64 0, .int .u64 0, .slice none 0 0, .slice none 0 0, .slice none 0 0] 109)).alloc (.cells (bcells (List.replicate 32 0)).toArray 5))
          have hs_3 : ((((w1.drew).alloc (.cells (bcells (List.replicate 32 0)).toArray 5)).alloc (.cells #[.string ⟨#[]⟩, .int .u64 0, .int .u64 0, .slice none 0 0, .slice none 0 0, .slice none 0 0] 109)).alloc (.cells (bcells (List.replicate 32 0)).toArray 5)).heap.size = w1.heap.size + 1 + 1 + 1 := by simp
          rw [hs_3] at f2_4
          have hb_4 := hb_3.alloc hb_3.size (.cells (bcells (List.replicate 32 0)).toArray 5)
          refine hK.out _ _ trivial (fun _ => ?_)
          clear hK K
          refine wpAnyH_take (i := 3) (oi := _) (v := ?_) rfl (by kernel_rfl) (by kernel_rfl) (by kernel_rfl) (fun _ _ _ h => h) (Or.inl ⟨by rfl, ?_⟩) trivial ?_
          rotate_left
          · intro W hSW
            try go_simp
            all_goals with_reducible rfl
          simp only [Act.put, List.setIfInBounds_toArray, List.set_cons_zero, List.set_cons_succ, List.getElem_toArray, List.getElem_cons_zero, List.getElem_cons_succ]
          refine wpAnyH_listed (L' := #[true, true, true, true, true, false]) (by kernel_rfl) ?_
          refine HN _ _ ⟨w1.heap.size, w1.heap.size + 1 + 1, w1.heap.size + 1 + 1 + 1, w1.heap.size + 1, by kernel_rfl, f0_4, f1_4, f2_4, f4_4, hb_4, hg4⟩
        exact AllReadyH.nil
      refine AllReadyH.cons rfl (fun K hK => ?_) ?_
      · go_simp
        have f0_3 := Zr.alloc f0_2 (.cells (bcells (List.replicate 32 0)).toArray 5)
        have f4_3 := Sx.alloc f4_2 (.cells (bcells (List.replicate 32 0)).toArray 5)
        have f2_3 := Zr.new (((w1.drew).alloc (.cells (bcells (List.replicate 32 0)).toArray 5)).alloc (.cells #[.string ⟨#[]⟩, .int .u64 0, .int .u64 0, .slice none 0 0, .slice none 0 0, .slice none 0 0] 109))
        have hs_2 : (((w1.drew).alloc (.cells (bcells (List.replicate 32 0)).toArray 5)).alloc (.cells #[.string ⟨#[]⟩, .int .u64 0, .int .u64 0, .slice none 0 0, .slice none 0 0, .slice none 0 0] 109)).heap.size = w1.heap.size + 1 + 1 := by simp
        rw [hs_2] at f2_3
        have hb_3 := hb_2.alloc hb_2.size (.cells (bcells (List.replicate 32 0)).toArray 5)
        refine hK.out _ _ trivial (fun _ => ?_)
        clear hK K
        refine wpAnyH_ready (rs := [1]) (by kernel_rfl) (by simp) ?_
        refine AllReadyH.cons rfl (fun K hK => ?_) ?_
        · go_simp
          have f0_4 := Zr.alloc f0_3 (.cells (bcells (List.replicate 32 0)).toArray 5)
          have f4_4 := Sx.alloc f4_3 (.cells (bcells (List.replicate 32 0)).toArray 5)
          have f2_4 := Zr.alloc f2_3 (.cells (bcells (List.replicate 32 0)).toArray 5)
          have f1_4 := Zr.new ((((w1.drew).alloc (.cells (bcells (List.replicate 32 0)).toArray 5)).alloc (.cells #[.string ⟨#[]⟩, .int .u64 0, .int .u64 0, .slice none 0 0, .slice none 0 0, .slice none 0 0] 109)).alloc (.cells (bcells (List.replicate 32 0)).toArray 5))
          have hs_3 : ((((w1.drew).alloc (.cells (bcells (List.replicate 32 0)).toArray 5)).alloc (.cells #[.string ⟨#[]⟩, .int .u64 0, .int .u64 0, .slice none 0 0, .slice none 0 0, .slice none 0 0] 109)).alloc (.cells (bcells (List.replicate 32 0)).toArray 5)).heap.size = w1.heap.size + 1 + 1 + 1 := by simp
          rw [hs_3] at f1_4
          have hb_4 := hb_3.alloc hb_3.size (.cells (bcells (List.replicate 32 0)).toArray 5)
          refine hK.out _ _ trivial (fun _ => ?_)
          clear hK K
          refine wpAnyH_take (i := 3) (oi := _) (v := ?_) rfl (by kernel_rfl) (by kernel_rfl) (by kernel_rfl) (fun _ _ _ h => h) (Or.inl ⟨by rfl, ?_⟩) trivial ?_
          rotate_left
          · intro W hSW
            try go_simp
            all_goals with_reducible rfl
          simp only [Act.put, List.setIfInBounds_toArray, List.set_cons_zero, List.set_cons_succ, List.getElem_toArray, List.getElem_cons_zero, List.getElem_cons_succ]
          refine wpAnyH_listed (L' := #[true, true, true, true, true, false]) (by kernel_rfl) ?_
          refine HN _ _ ⟨w1.heap.size, w1.heap.size + 1 + 1 + 1, w1.heap.size + 1 + 1, w1.heap.size + 1, by kernel_rfl, f0_4, f1_4, f2_4, f4_4, hb_4, hg4⟩
        exact AllReadyH.nil
      exact AllReadyH.nil
    exact AllReadyH.nil
  refine AllReadyH.cons rfl (fun K hK => ?_) ?_
  · go_simp
    have f1_1 := Zr.new (w1.drew)
    have hs_0 : (w1.drew).heap.size = w1.heap.size := by simp
    rw [hs_0] at f1_1
    have hb_1 := hb_0.alloc hb_0.size (.cells (bcells (List.replicate 32 0)).toArray 5)
    refine hK.out _ _ trivial (fun _ => ?_)
    clear hK K
    refine wpAnyH_ready (rs := [0, 2, 4]) (by kernel_rfl) (by simp) ?_
    refine AllReadyH.cons rfl (fun K hK => ?_) ?_
    · go_simp
      have f1_2 := Zr.alloc f1_1 (.cells (bcells (List.replicate 32 0)).toArray 5)
      have f0_2 := Zr.new ((w1.drew).alloc (.cells (bcells (List.replicate 32 0)).toArray 5))
      have hs_1 : ((w1.drew).alloc (.cells (bcells (List.replicate 32 0)).toArray 5)).heap.size = w1.heap.size + 1 := by simp
      rw [hs_1] at f0_2
      have hb_2 := hb_1.alloc hb_1.size (.cells (bcells (List.replicate 32 0)).toArray 5)
      refine hK.out _ _ trivial (fun _ => ?_)
      clear hK K
      refine wpAnyH_ready (rs := [2, 4]) (by kernel_rfl) (by simp) ?_
      refine AllReadyH.cons rfl (fun K hK => ?_) ?_
      · go_simp
        have f1_3 := Zr.alloc f1_2 (.cells (bcells (List.replicate 32 0)).toArray 5)
        have f0_3 := Zr.alloc f0_2 (.cells (bcells (List.replicate 32 0)).toArray 5)
        have f2_3 := Zr.new (((w1.drew).alloc (.cells (bcells (List.replicate 32 0)).toArray 5)).alloc (.cells (bcells (List.replicate 32 0)).toArray 5))
        have hs_2 : (((w1.drew).alloc (.cells (bcells (List.replicate 32 0)).toArray 5)).alloc (.cells (bcells (List.replicate 32 0)).toArray 5)).heap.size = w1.heap.size + 1 + 1 := by simp
        rw [hs_2] at f2_3
        have hb_3 := hb_2.alloc hb_2.size (.cells (bcells (List.replicate 32 0)).toArray 5)
        refine hK.out _ _ trivial (fun _ => ?_)
        clear hK K
        refine wpAnyH_take (i := 3) (oi := _) (v := ?_) rfl (by kernel_rfl) (by kernel_rfl) (by kernel_rfl) (fun _ _ _ h => h) (Or.inl ⟨by rfl, ?_⟩) trivial ?_
        rotate_left
        · intro W hSW
          try go_simp
          all_goals with_reducible rfl
        simp only [Act.put, List.setIfInBounds_toArray, List.set_cons_zero, List.set_cons_succ, List.getElem_toArray, List.getElem_cons_zero, List.getElem_cons_succ]
        refine wpAnyH_ready (rs := [4]) (by kernel_rfl) (by simp) ?_
        refine AllReadyH.cons rfl (fun K hK => ?_) ?_
        · go_simp
          have f1_4 := Zr.alloc f1_3 (.cells #[.string ⟨#[]⟩, .int .u64 0, .int .u64 0, .slice none 0 0, .slice none 0 0, .slice none 0 0] 109)
          have f0_4 := Zr.alloc f0_3 (.cells #[.string ⟨#[]⟩, .int .u64 0, .int .u64 0, .slice none 0 0, .slice none 0 0, .slice none 0 0] 109)
          have f2_4 := Zr.alloc f2_3 (.cells #[.string ⟨#[]⟩, .int .u64 0, .int .u64 0, .slice none 0 0, .slice none 0 0, .slice none 0 0] 109)
          have f4_4 : Sx 109 #[.string ⟨#[]⟩, .int .u64 0, .int .u64 0, .slice none 0 0, .slice none 0 0, .slice none 0 0] (((((w1.drew).alloc (.cells (bcells (List.replicate 32 0)).toArray 5)).alloc (.cells (bcells (List.replicate 32 0)).toArray 5)).alloc (.cells (bcells (List.replicate 32 0)).toArray 5)).alloc (.cells #[.string ⟨#[]⟩, .int .u64 0, .int .u64 0, .slice none 0 0, .slice none 0 0, .slice none 0 0] 109)) ((((w1.drew).alloc (.cells (bcells (List.replicate 32 0)).toArray 5)).alloc (.cells (bcells (List.replicate 32 0)).toArray 5)).alloc (.cells (bcells (List.replicate 32 0)).toArray 5)).heap.size := heap_alloc_new ((((w1.drew).alloc (.cells (bcells (List.replicate 32 0)).toArray 5)).alloc (.cells (bcells (List.replicate 32 0)).toArray 5)).alloc (.cells (bcells (List.replicate 32 0)).toArray 5)) _
          have hs_3 : ((((w1.drew).alloc (.cells (bcells (List.replicate 32 0)).toArray 5)).alloc (.cells (bcells (List.replicate 32 0)).toArray 5)).alloc (.cells (bcells (List.replicate 32 0)).toArray 5)).heap.size = w1.heap.size + 1 + 1 + 1 := by simp
          rw [hs_3] at f4_4
          have hb_4 := hb_3.alloc hb_3.size (.cells #[.string ⟨#[]⟩, .int .u64 0, .int .u64 0, .slice none 0 0, .slice none 0 0, .slice none 0 0] 109)
          have hg4 := hb_3.size
          rw [hs_3] at hg4
          refine hK.out _ _ trivial (fun _ => ?_)
          clear hK K
          refine wpAnyH_listed (L' := #[true, true, true, true, true, false]) (by kernel_rfl) ?_
          refine HN _ _ ⟨w1.heap.size + 1, w1.heap.size, w1.heap.size + 1 + 1, w1.heap.size + 1 + 1 + 1, by kernel_rfl, f0_4, f1_4, f2_4, f4_4, hb_4, hg4⟩
        exact AllReadyH.nil
      refine AllReadyH.cons rfl (fun K hK => ?_) ?_
      · go_simp
        have f1_3 := Zr.alloc f1_2 (.cells #[.string ⟨#[]⟩, .int .u64 0, .int .u64 0, .slice none 0 0, .slice none 0 0, .slice none 0 0] 109)
        have f0_3 := Zr.alloc f0_2 (.cells #[.string ⟨#[]⟩, .int .u64 0, .int .u64 0, .slice none 0 0, .slice none 0 0, .slice none 0 0] 109)
        have f4_3 : Sx 109 #[.string ⟨#[]⟩, .int .u64 0, .int .u64 0, .slice none 0 0, .slice none 0 0, .slice none 0 0] ((((w1.drew).alloc (.cells (bcells (List.replicate 32 0)).toArray 5)).alloc (.cells (bcells (List.replicate 32 0)).toArray 5)).alloc (.cells #[.string ⟨#[]⟩, .int .u64 0, .int .u64 0, .slice none 0 0, .slice none 0 0, .slice none 0 0] 109)) (((w1.drew).alloc (.cells (bcells (List.replicate 32 0)).toArray 5)).alloc (.cells (bcells (List.replicate 32 0)).toArray 5)).heap.size := heap_alloc_new (((w1.drew).alloc (.cells (bcells (List.replicate 32 0)).toArray 5)).alloc (.cells (bcells (List.replicate 32 0)).toArray 5)) _
        have hs_2 : (((w1.drew).alloc (.cells (bcells (List.replicate 32 0)).toArray 5)).alloc (.cells (bcells (List.replicate 32 0)).toArray 5)).heap.size = w1.heap.size + 1 + 1 := by simp
        rw [hs_2] at f4_3
        have hb_3 := hb_2.alloc hb_2.size (.cells #[.string ⟨#[]⟩, .int .u64 0, .int .u64 0, .slice none 0 0, .slice none 0 0, .slice none 0 0] 109)
        have hg4 := hb_2.size
        rw [hs_2] at hg4
        refine hK.out _ _ trivial (fun _ => ?_)
        clear hK K
        refine wpAnyH_ready (rs := [2]) (by kernel_rfl) (by simp) ?_
        refine AllReadyH.cons rfl (fun K hK => ?_) ?_
        · go_simp
          have f1_4 := Zr.alloc f1_3 (.cells (bcells (List.replicate 32 0)).toArray 5)
          have f0_4 := Zr.alloc f0_3 (.cells (bcells (List.replicate 32 0)).toArray 5)
          have f4_4 := Sx.alloc f4_3 (.cells (bcells (List.replicate 32 0)).toArray 5)
          have f2_4 := Zr.new ((((w1.drew).alloc (.cells (bcells (List.replicate 32 0)).toArray 5)).alloc (.cells (bcells (List.replicate 32 0)).toArray 5)).alloc (.cells #[.string ⟨#[]⟩, .int .u64 0, .int .u64 0, .slice none 0 0, .slice none 0 0, .slice none 0 0] 109))
          have hs_3 : ((((w1.drew).alloc (.cells (bcells (List.replicate 32 0)).toArray 5)).alloc (.cells (bcells (List.replicate 32 0)).toArray 5)).alloc (.cells #[.string ⟨#[]⟩, .int .u64 0, .int .u64 0, .slice none 0 0, .slice none 0 0, .slice none 0 0] 109)).heap.size = w1.heap.size + 1 + 1 + 1 := by simp
          rw [hs_3] at f2_4
          have hb_4 := hb_3.alloc hb_3.size (.cells (bcells (List.replicate 32 0)).toArray 5)
          refine hK.out _ _ trivial (fun _ => ?_)
          clear hK K
          refine wpAnyH_take (i := 3) (oi := _) (v := ?_) rfl (by kernel_rfl) (by kernel_rfl) (by kernel_rfl) (fun _ _ _ h => h) (Or.inl ⟨by rfl, ?_⟩) trivial ?_
          rotate_left
          · intro W hSW
            try go_simp
            all_goals with_reducible rfl
          simp only [Act.put, List.setIfInBounds_toArray, List.set_cons_zero, List.set_cons_succ, List.getElem_toArray, List.getElem_cons_zero, List.getElem_cons_succ]
          refine wpAnyH_listed (L' := #[true, true, true, true, true, false]) (by kernel_rfl) ?_
          refine HN _ _ ⟨w1.heap.size + 1, w1.heap.size, w1.heap.size + 1 + 1 + 1, w1.heap.size + 1 + 1, by kernel_rfl, f0_4, f1_4, f2_4, f4_4, hb_4, hg4⟩
        exact AllReadyH.nil
      exact AllReadyH.nil
    refine AllReadyH.cons rfl (fun K hK => ?_) ?_
    · go_simp
      have f1_2 := Zr.alloc f1_1 (.cells (bcells (List.replicate 32 0)).toArray 5)
      have f2_2 := Zr.new ((w1.drew).alloc (.cells (bcells (List.replicate 32 0)).toArray 5))
      have hs_1 : ((w1.drew).alloc (.cells (bcells (List.replicate 32 0)).toArray 5)).heap.size = w1.heap.size + 1 := by simp
      rw [hs_1] at f2_2
      have hb_2 := hb_1.alloc hb_1.size (.cells (bcells (List.replicate 32 0)).toArray 5)
      refine hK.out _ _ trivial (fun _ => ?_)
      clear hK K
      refine wpAnyH_ready (rs := [0, 4]) (by kernel_rfl) (by simp) ?_
      refine AllReadyH.cons rfl (fun K hK => ?_) ?_
      · go_simp
        have f1_3 := Zr.alloc f1_2 (.cells (bcells (List.replicate 32 0)).toArray 5)
        have f2_3 := Zr.alloc f2_2 (.cells (bcells (List.replicate 32 0)).toArray 5)
        have f0_3 := Zr.new (((w1.drew).alloc (.cells (bcells (List.replicate 32 0)).toArray 5)).alloc (.cells (bcells (List.replicate 32 0)).toArray 5))
        have hs_2 : (((w1.drew).alloc (.cells (bcells (List.replicate 32 0)).toArray 5)).alloc (.cells (bcells (List.replicate 32 0)).toArray 5)).heap.size = w1.heap.size + 1 + 1 := by simp
        rw [hs_2] at f0_3
        have hb_3 := hb_2.alloc hb_2.size (.cells (bcells (List.replicate 32 0)).toArray 5)
        refine hK.out _ _ trivial (fun _ => ?_)
        clear hK K
        refine wpAnyH_take (i := 3) (oi := _) (v := ?_) rfl (by kernel_rfl) (by kernel_rfl) (by kernel_rfl) (fun _ _ _ h => h) (Or.inl ⟨by rfl, ?_⟩) trivial ?_
        rotate_left
        · intro W hSW
          try go_simp
          all_goals with_reducible rfl
        simp only [Act.put, List.setIfInBounds_toArray, List.set_cons_zero, List.set_cons_succ, List.getElem_toArray, List.getElem_cons_zero, List.getElem_cons_succ]
        refine wpAnyH_ready (rs := [4]) (by kernel_rfl) (by simp) ?_
        refine AllReadyH.cons rfl (fun K hK => ?_) ?_
        · go_simp
          have f1_4 := Zr.alloc f1_3 (.cells #[.string ⟨#[]⟩, .int .u64 0, .int .u64 0, .slice none 0 0, .slice none 0 0, .slice none 0 0] 109)
          have f2_4 := Zr.alloc f2_3 (.cells #[.string ⟨#[]⟩, .int .u64 0, .int .u64 0, .slice none 0 0, .slice none 0 0, .slice none 0 0] 109)
          have f0_4 := Zr.alloc f0_3 (.cells #[.string ⟨#[]⟩, .int .u64 0, .int .u64 0, .slice none 0 0, .slice none 0 0, .slice none 0 0] 109)
          have f4_4 : Sx 109 #[.string ⟨#[]⟩, .int .u64 0, .int .u64 0, .slice none 0 0, .slice none 0 0, .slice none 0 0] (((((w1.drew).alloc (.cells (bcells (List.replicate 32 0)).toArray 5)).alloc (.cells (bcells (List.replicate 32 0)).toArray 5)).alloc (.cells (bcells (List.replicate 32 0)).toArray 5)).alloc (.cells #[.string ⟨#[]⟩, .int .u64 0, .int .u64 0, .slice none 0 0, .slice none 0 0, .slice none 0 0] 109)) ((((w1.drew).alloc (.cells (bcells (List.replicate 32 0)).toArray 5)).alloc (.cells (bcells (List.replicate 32 0)).toArray 5)).alloc (.cells (bcells (List.replicate 32 0)).toArray 5)).heap.size := heap_alloc_new ((((w1.drew).alloc (.cells (bcells (List.replicate 32 0)).toArray 5)).alloc (.cells (bcells (List.replicate 32 0)).toArray 5)).alloc (.cells (bcells (List.replicate 32 0)).toArray 5)) _
          have hs_3 : ((((w1.drew).alloc (.cells (bcells (List.replicate 32 0)).toArray 5)).alloc (.cells (bcells (List.replicate 32 0)).toArray 5)).alloc (.cells (bcells (List.replicate 32 0)).toArray 5)).heap.size = w1.heap.size + 1 + 1 + 1 := by simp
          rw [hs_3] at f4_4
          have hb_4 := hb_3.alloc hb_3.size (.cells #[.string ⟨#[]⟩, .int .u64 0, .int .u64 0, .slice none 0 0, .slice none 0 0, .slice none 0 0] 109)
          have hg4 := hb_3.size
          rw [hs_3] at hg4
          refine hK.out _ _ trivial (fun _ => ?_)
          clear hK K
          refine wpAnyH_listed (L' := #[true, true, true, true, true, false]) (by kernel_rfl) ?_
          refine HN _ _ ⟨w1.heap.size + 1 + 1, w1.heap.size, w1.heap.size + 1, w1.heap.size + 1 + 1 + 1, by kernel_rfl, f0_4, f1_4, f2_4, f4_4, hb_4, hg4⟩
        exact AllReadyH.nil
      refine AllReadyH.cons rfl (fun K hK => ?_) ?_
      · go_simp
        have f1_3 := Zr.alloc f1_2 (.cells #[.string ⟨#[]⟩, .int .u64 0, .int .u64 0, .slice none 0 0, .slice none 0 0, .slice none 0 0] 109)
        have f2_3 := Zr.alloc f2_2 (.cells #[.string ⟨#[]⟩, .int .u64 0, .int .u64 0, .slice none 0 0, .slice none 0 0, .slice none 0 0] 109)
        have f4_3 : Sx 109 #[.string ⟨#[]⟩, .int .u64 0, .int .u64 0, .slice none 0 0, .slice none 0 0, .slice none 0 0] ((((w1.drew).alloc (.cells (bcells (List.replicate 32 0)).toArray 5)).alloc (.cells (bcells (List.replicate 32 0)).toArray 5)).alloc (.cells #[.string ⟨#[]⟩, .int .u64 0, .int .u64 0, .slice none 0 0, .slice none 0 0, .slice none 0 0] 109)) (((w1.drew).alloc (.cells (bcells (List.replicate 32 0)).toArray 5)).alloc (.cells (bcells (List.replicate 32 0)).toArray 5)).heap.size := heap_alloc_new (((w1.drew).alloc (.cells (bcells (List.replicate 32 0)).toArray 5)).alloc (.cells (bcells (List.replicate 32 0)).toArray 5)) _
        have hs_2 : (((w1.drew).alloc (.cells (bcells (List.replicate 32 0)).toArray 5)).alloc (.cells (bcells (List.replicate 32 0)).toArray 5)).heap.size = w1.heap.size + 1 + 1 := by simp
        rw [hs_2] at f4_3
        have hb_3 := hb_2.alloc hb_2.size (.cells #[.string ⟨#[]⟩, .int .u64 0, .int .u64 0, .slice none 0 0, .slice none 0 0, .slice none 0 0] 109)
        have hg4 := hb_2.size
        rw [hs_2] at hg4
        refine hK.out _ _ trivial (fun _ => ?_)
        clear hK K
        refine wpAnyH_ready (rs := [0]) (by kernel_rfl) (by simp) ?_
        refine AllReadyH.cons rfl (fun K hK => ?_) ?_
        · go_simp
          have f1_4 := Zr.alloc f1_3 (.cells (bcells (List.replicate 32 0)).toArray 5)
          have f2_4 := Zr.alloc f2_3 (.cells (bcells (List.replicate 32 0)).toArray 5)
          have f4_4 := Sx.alloc f4_3 (.cells (bcells (List.replicate 32 0)).toArray 5)
          have f0_4 := Zr.new ((((w1.drew).alloc (.cells (bcells (List.replicate 32 0)).toArray 5)).alloc (.cells (bcells (List.replicate 32 0)).toArray 5)).alloc (.cells #[.string ⟨#[]⟩, .int .u64 0, .int .u64 0, .slice none 0 0, .slice none 0 0, .slice none 0 0] 109))
          have hs_3 : ((((w1.drew).alloc (.cells (bcells (List.replicate 32 0)).toArray 5)).alloc (.cells (bcells (List.replicate 32 0)).toArray 5)).alloc (.cells #[.string ⟨#[]⟩, .int .u64 0, .int .u64 0, .slice none 0 0, .slice none 0 0, .slice none 0 0] 109)).heap.size = w1.heap.size + 1 + 1 + 1 := by simp
          rw [hs_3] at f0_4
          have hb_4 := hb_3.alloc hb_3.size (.cells (bcells (List.replicate 32 0)).toArray 5)
          refine hK.out _ _ trivial (fun _ => ?_)
          clear hK K
          refine wpAnyH_take (i := 3) (oi := _) (v := ?_) rfl (by kernel_rfl) (by kernel_rfl) (by kernel_rfl) (fun _ _ _ h => h) (Or.inl ⟨by rfl, ?_⟩) trivial ?_
          rotate_left
          · intro W hSW
            try go_simp
            all_goals with_reducible rfl
          simp only [Act.put, List.setIfInBounds_toArray, List.set_cons_zero, List.set_cons_succ, List.getElem_toArray, List.getElem_cons_zero, List.getElem_cons_succ]
          refine wpAnyH_listed (L' := #[true, true, true, true, true, false]) (by kernel_rfl) ?_
          refine HN _ _ ⟨w1.heap.size + 1 + 1 + 1, w1.heap.size, w1.heap.size + 1, w1.heap.size + 1 + 1, by kernel_rfl, f0_4, f1_4, f2_4, f4_4, hb_4, hg4⟩
        exact AllReadyH.nil
      exact AllReadyH.nil
    refine AllReadyH.cons rfl (fun K hK => ?_) ?_
    · go_simp
      have f1_2 := Zr.alloc f1_1 (.cells #[.string ⟨#[]⟩, .int .u64 0, .int .u64 0, .slice none 0 0, .slice none 0 0, .slice none 0 0] 109)
      have f4_2 : Sx 109 #[.string ⟨#[]⟩, .int .u64 0, .int .u64 0, .slice none 0 0, .slice none 0 0, .slice none 0 0] (((w1.drew).alloc (.cells (bcells (List.replicate 32 0)).toArray 5)).alloc (.cells #[.string ⟨#[]⟩, .int .u64 0, .int .u64 0, .slice none 0 0, .slice none 0 0, .slice none 0 0] 109)) ((w1.drew).alloc (.cells (bcells (List.replicate 32 0)).toArray 5)).heap.size := heap_alloc_new ((w1.drew).alloc (.cells (bcells (List.replicate 32 0)).toArray 5)) _
      have hs_1 : ((w1.drew).alloc (.cells (bcells (List.replicate 32 0)).toArray 5)).heap.size = w1.heap.size + 1 := by simp
      rw [hs_1] at f4_2
      have hb_2 := hb_1.alloc hb_1.size (.cells #[.string ⟨#[]⟩, .int .u64 0, .int .u64 0, .slice none 0 0, .slice none 0 0, .slice none 0 0] 109)
      have hg4 := hb_1.size
      rw [hs_1] at hg4
      refine hK.out _ _ trivial (fun _ => ?_)
      clear hK K
      refine wpAnyH_ready (rs := [0, 2]) (by kernel_rfl) (by simp) ?_
      refine AllReadyH.cons rfl (fun K hK => ?_) ?_
      · go_simp
        have f1_3 := Zr.alloc f1_2 (.cells (bcells (List.replicate 32 0)).toArray 5)
        have f4_3 := Sx.alloc f4_2 (.cells (bcells (List.replicate 32 0)).toArray 5)
        have f0_3 := Zr.new (((w1.drew).alloc (.cells (bcells (List.replicate 32 0)).toArray 5)).alloc (.cells #[.string ⟨#[]⟩, .int .u64 0, .int .u64 0, .slice none 0 0, .slice none 0 0, .slice none 0 0] 109))
        have hs_2 : (((w1.drew).alloc (.cells (bcells (List.replicate 32 0)).toArray 5)).alloc (.cells #[.string ⟨#[]⟩, .int .u64 0, .int .u64 0, .slice none 0 0, .slice none 0 0, .slice none 0 0] 109)).heap.size = w1.heap.size + 1 + 1 := by simp
        rw [hs_2] at f0_3
        have hb_3 := hb_2.alloc hb_2.size (.cells (bcells (List.replicate 32 0)).toArray 5)
        refine hK.out _ _ trivial (fun _ => ?_)
        clear hK K
        refine wpAnyH_ready (rs := [2]) (by kernel_rfl) (by simp) ?_
        refine AllReadyH.cons rfl (fun K hK => ?_) ?_
        · go_simp
          have f1_4 := Zr.alloc f1_3 (.cells (bcells (List.replicate 32 0)).toArray 5)
          have f4_4 := Sx.alloc f4_3 (.cells (bcells (List.replicate 32 0)).toArray 5)
          have f0_4 := Zr.alloc f0_3 (.cells (bcells (List.replicate 32 0)).toArray 5)
          have f2_4 := Zr.new ((((w1.drew).alloc (.cells (bcells (List.replicate 32 0)).toArray 5)).alloc (.cells #[.string ⟨#[]⟩, .int .u64 0, .int .u64 0, .slice none 0 0, .slice none 0 0, .slice none 0 0] 109)).alloc (.cells (bcells (List.replicate 32 0)).toArray 5))
          have hs_3 : ((((w1.drew).alloc (.cells (bcells (List.replicate 32 0)).toArray 5)).alloc (.cells #[.string ⟨#[]⟩, .int .u64 0, .int .u64 0, .slice none 0 0, .slice none 0 0, .slice none 0 0] 109)).alloc (.cells (bcells (List.replicate 32 0)).toArray 5)).heap.size = w1.heap.size + 1 + 1 + 1 := by simp
          rw [hs_3] at f2_4
          have hb_4 := hb_3.alloc hb_3.size (.cells (bcells (List.replicate 32 0)).toArray 5)
          refine hK.out _ _ trivial (fun _ => ?_)
          clear hK K
          refine wpAnyH_take (i := 3) (oi := _) (v := ?_) rfl (by kernel_rfl) (by kernel_rfl) (by kernel_rfl) (fun _ _ _ h => h) (Or.inl ⟨by rfl, ?_⟩) trivial ?_
          rotate_left
          · intro W hSW
            try go_simp
            all_goals with_reducible rfl
          simp only [Act.put, List.setIfInBounds_toArray, List.set_cons_zero, List.set_cons_succ, List.getElem_toArray, List.getElem_cons_zero, List.getElem_cons_succ]
          refine wpAnyH_listed (L' := #[true, true, true, true, true, false]) (by kernel_rfl) ?_
          refine HN _ _ ⟨w1.heap.size + 1 + 1, w1.heap.size, w1.heap.size + 1 + 1 + 1, w1.heap.size + 1, by kernel_rfl, f0_4, f1_4, f2_4, f4_4, hb_4, hg4⟩
        exact AllReadyH.nil
      refine AllReadyH.cons rfl (fun K hK => ?_) ?_
      · go_simp
        have f1_3 := Zr.alloc f1_2 (.cells (bcells (List.replicate 32 0)).toArray 5)
        have f4_3 := Sx.alloc f4_2 (.cells (bcells (List.replicate 32 0)).toArray 5)
        have f2_3 := Zr.new (((w1.drew).alloc (.cells (bcells (List.replicate 32 0)).toArray 5)).alloc (.cells #[.string ⟨#[]⟩, .int .u64 0, .int .u64 0, .slice none 0 0, .slice none 0 0, .slice none 0 0] 109))
        have hs_2 : (((w1.drew).alloc (.cells (bcells (List.replicate 32 0)).toArray 5)).alloc (.cells #[.string ⟨#[]⟩, .int .u64 0, .int .u64 0, .slice none 0 0, .slice none 0 0, .slice none 0 0] 109)).heap.size = w1.heap.size + 1 + 1 := by simp
        rw [hs_2] at f2_3
        have hb_3 := hb_2.alloc hb_2.size (.cells (bcells (List.replicate 32 0)).toArray 5)
        refine hK.out _ _ trivial (fun _ => ?_)
        clear hK K
        refine wpAnyH_ready (rs := [0]) (by kernel_rfl) (by simp) ?_
        refine AllReadyH.cons rfl (fun K hK => ?_) ?_
        · go_simp
          have f1_4 := Zr.alloc f1_3 (.cells (bcells (List.replicate 32 0)).toArray 5)
          have f4_4 := Sx.alloc f4_3 (.cells (bcells (List.replicate 32 0)).toArray 5)
          have f2_4 := Zr.alloc f2_3 (.cells (bcells (List.replicate 32 0)).toArray 5)
          have f0_4 := Zr.new ((((w1.drew).alloc (.cells (bcells (List.replicate 32 0)).toArray 5)).alloc (.cells #[.string ⟨#[]⟩, .int .u64 0, .int .u64 0, .slice none 0 0, .slice none 0 0, .slice none 0 0] 109)).alloc (.cells (bcells (List.replicate 32 0)).toArray 5))
          have hs_3 : ((((w1.drew).alloc (.cells (bcells (List.replicate 32 0)).toArray 5)).alloc (.cells #[.string ⟨#[]⟩, .int .u64 0, .int .u64 0, .slice none 0 0, .slice none 0 0, .slice none 0 0] 109)).alloc (.cells (bcells (List.replicate 32 0)).toArray 5)).heap.size = w1.heap.size + 1 + 1 + 1 := by simp
          rw [hs_3] at f0_4
          have hb_4 := hb_3.alloc hb_3.size (.cells (bcells (List.replicate 32 0)).toArray 5)
          refine hK.out _ _ trivial (fun _ => ?_)
          clear hK K
          refine wpAnyH_take (i := 3) (oi := _) (v := ?_) rfl (by kernel_rfl) (by kernel_rfl) (by kernel_rfl) (fun _ _ _ h => h) (Or.inl ⟨by rfl, ?_⟩) trivial ?_
          rotate_left
          · intro W hSW
            try go_simp
            all_goals with_reducible rfl
          simp only [Act.put, List.setIfInBounds_toArray, List.set_cons_zero, List.set_cons_succ, List.getElem_toArray, List.getElem_cons_zero, List.getElem_cons_succ]
          refine wpAnyH_listed (L' := #[true, true, true, true, true, false]) (by kernel_rfl) ?_
          refine HN _ _ ⟨w1.heap.size + 1 + 1 + 1, w1.heap.size, w1.heap.size + 1 + 1, w1.heap.size + 1, by kernel_rfl, f0_4, f1_4, f2_4, f4_4, hb_4, hg4⟩
        exact AllReadyH.nil
      exact AllReadyH.nil
    exact AllReadyH.nil
  refine AllReadyH.cons rfl (fun K hK => ?_) ?_
  · go_simp
    have f2_1 := Zr.new (w1.drew)
    have hs_0 : (w1.drew).heap.size = w1.heap.size := by simp
    rw [hs_0] at f2_1
    have hb_1 := hb_0.alloc hb_0.size (.cells (bcells (List.replicate 32 0)).toArray 5)
    refine hK.out _ _ trivial (fun _ => ?_)
    clear hK K
    refine wpAnyH_ready (rs := [0, 1, 4]) (by kernel_rfl) (by simp) ?_
    refine AllReadyH.cons rfl (fun K hK => ?_) ?_
    · go_simp
      have f2_2 := Zr.alloc f2_1 (.cells (bcells (List.replicate 32 0)).toArray 5)
      have f0_2 := Zr.new ((w1.drew).alloc (.cells (bcells (List.replicate 32 0)).toArray 5))
      have hs_1 : ((w1.drew).alloc (.cells (bcells (List.replicate 32 0)).toArray 5)).heap.size = w1.heap.size + 1 := by simp
      rw [hs_1] at f0_2
      have hb_2 := hb_1.alloc hb_1.size (.cells (bcells (List.replicate 32 0)).toArray 5)
      refine hK.out _ _ trivial (fun _ => ?_)
      clear hK K
      refine wpAnyH_ready (rs := [1, 4]) (by kernel_rfl) (by simp) ?_
      refine AllReadyH.cons rfl (fun K hK => ?_) ?_
      · go_simp
        have f2_3 := Zr.alloc f2_2 (.cells (bcells (List.replicate 32 0)).toArray 5)
        have f0_3 := Zr.alloc f0_2 (.cells (bcells (List.replicate 32 0)).toArray 5)
        have f1_3 := Zr.new (((w1.drew).alloc (.cells (bcells (List.replicate 32 0)).toArray 5)).alloc (.cells (bcells (List.replicate 32 0)).toArray 5))
        have hs_2 : (((w1.drew).alloc (.cells (bcells (List.replicate 32 0)).toArray 5)).alloc (.cells (bcells (List.replicate 32 0)).toArray 5)).heap.size = w1.heap.size + 1 + 1 := by simp
        rw [hs_2] at f1_3
        have hb_3 := hb_2.alloc hb_2.size (.cells (bcells (List.replicate 32 0)).toArray 5)
        refine hK.out _ _ trivial (fun _ => ?_)
        clear hK K
        refine wpAnyH_take (i := 3) (oi := _) (v := ?_) rfl (by kernel_rfl) (by kernel_rfl) (by kernel_rfl) (fun _ _ _ h => h) (Or.inl ⟨by rfl, ?_⟩) trivial ?_
        rotate_left
        · intro W hSW
          try go_simp
          all_goals with_reducible rfl
        simp only [Act.put, List.setIfInBounds_toArray, List.set_cons_zero, List.set_cons_succ, List.getElem_toArray, List.getElem_cons_zero, List.getElem_cons_succ]
        refine wpAnyH_ready (rs := [4]) (by kernel_rfl) (by simp) ?_
        refine AllReadyH.cons rfl (fun K hK => ?_) ?_
        · go_simp
          have f2_4 := Zr.alloc f2_3 (.cells #[.string ⟨#[]⟩, .int .u64 0, .int .u64 0, .slice none 0 0, .slice none 0 0, .slice none 0 0] 109)
          have f0_4 := Zr.alloc f0_3 (.cells #[.string ⟨#[]⟩, .int .u64 0, .int .u64 0, .slice none 0 0, .slice none 0 0, .slice none 0 0] 109)
          have f1_4 := Zr.alloc f1_3 (.cells #[.string ⟨#[]⟩, .int .u64 0, .int .u64 0, .slice none 0 0, .slice none 0 0, .slice none 0 0] 109)
          have f4_4 : Sx 109 #[.string ⟨#[]⟩, .int .u64 0, .int .u64 0, .slice none 0 0, .slice none 0 0, .slice none 0 0] (((((w1.drew).alloc (.cells (bcells (List.replicate 32 0)).toArray 5)).alloc (.cells (bcells (List.replicate 32 0)).toArray 5)).alloc (.cells (bcells (List.replicate 32 0)).toArray 5)).alloc (.cells #[.string ⟨#[]⟩, .int .u64 0, .int .u64 0, .slice none 0 0, .slice none 0 0, .slice none 0 0] 109)) ((((w1.drew).alloc (.cells (bcells (List.replicate 32 0)).toArray 5)).alloc (.cells (bcells (List.replicate 32 0)).toArray 5)).alloc (.cells (bcells (List.replicate 32 0)).toArray 5)).heap.size := heap_alloc_new ((((w1.drew).alloc (.cells (bcells (List.replicate 32 0)).toArray 5)).alloc (.cells (bcells (List.replicate 32 0)).toArray 5)).alloc (.cells (bcells (List.replicate 32 0)).toArray 5)) _
          have hs_3 : ((((w1.drew).alloc (.cells (bcells (List.replicate 32 0)).toArray 5)).alloc (.cells (bcells (List.replicate 32 0)).toArray 5)).alloc (.cells (bcells (List.replicate 32 0)).toArray 5)).heap.size = w1.heap.size + 1 + 1 + 1 := by simp
          rw [hs_3] at f4_4
          have hb_4 := hb_3.alloc hb_3.size (.cells #[.string ⟨#[]⟩, .int .u64 0, .int .u64 0, .slice none 0 0, .slice none 0 0, .slice none 0 0] 109)
          have hg4 := hb_3.size
          rw [hs_3] at hg4
          refine hK.out _ _ trivial (fun _ => ?_)
          clear hK K
          refine wpAnyH_listed (L' := #[true, true, true, true, true, false]) (by kernel_rfl) ?_
          refine HN _ _ ⟨w1.heap.size + 1, w1.heap.size + 1 + 1, w1.heap.size, w1.heap.size + 1 + 1 + 1, by kernel_rfl, f0_4, f1_4, f2_4, f4_4, hb_4, hg4⟩
        exact AllReadyH.nil
      refine AllReadyH.cons rfl (fun K hK => ?_) ?_
      · go_simp
        have f2_3 := Zr.alloc f2_2 (.cells #[.string ⟨#[]⟩, .int .u64 0, .int .u64 0, .slice none 0 0, .slice none 0 0, .slice none 0 0] 109)
        have f0_3 := Zr.alloc f0_2 (.cells #[.string ⟨#[]⟩, .int .u64 0, .int .u64 0, .slice none 0 0, .slice none 0 0, .slice none 0 0] 109)
        have f4_3 : Sx 109 #[.string ⟨#[]⟩, .int .u64 0, .int .u64 0, .slice none 0 0, .slice none 0 0, .slice none 0 0] ((((w1.drew).alloc (.cells (bcells (List.replicate 32 0)).toArray 5)).alloc (.cells (bcells (List.replicate 32 0)).toArray 5)).alloc (.cells #[.string ⟨#[]⟩, .int .u64 0, .int .u64 0, .slice none 0 0, .slice none 0 0, .slice none 0 0] 109)) (((w1.drew).alloc (.cells (bcells (List.replicate 32 0)).toArray 5)).alloc (.cells (bcells (List.replicate 32 0)).toArray 5)).heap.size := heap_alloc_new (((w1.drew).alloc (.cells (bcells (List.replicate 32 0)).toArray 5)).alloc (.cells (bcells (List.replicate 32 0)).toArray 5)) _
        have hs_2 : (((w1.drew).alloc (.cells (bcells (List.replicate 32 0)).toArray 5)).alloc (.cells (bcells (List.replicate 32 0)).toArray 5)).heap.size = w1.heap.size + 1 + 1 := by simp
        rw [hs_2] at f4_3
        have hb_3 := hb_2.alloc hb_2.size (.cells #[.string ⟨#[]⟩, .int .u64 0, .int .u64 0, .slice none 0 0, .slice none 0 0, .slice none 0 0] 109)
        have hg4 := hb_2.size
        rw [hs_2] at hg4
        refine hK.out _ _ trivial (fun _ => ?_)
        clear hK K
        refine wpAnyH_ready (rs := [1]) (by kernel_rfl) (by simp) ?_
        refine AllReadyH.cons rfl (fun K hK => ?_) ?_
        · go_simp
          have f2_4 := Zr.alloc f2_3 (.cells (bcells (List.replicate 32 0)).toArray 5)
          have f0_4 := Zr.alloc f0_3 (.cells (bcells (List.replicate 32 0)).toArray 5)
          have f4_4 := Sx.alloc f4_3 (.cells (bcells (List.replicate 32 0)).toArray 5)
          have f1_4 := Zr.new ((((w1.drew).alloc (.cells (bcells (List.replicate 32 0)).toArray 5)).alloc (.cells (bcells (List.replicate 32 0)).toArray 5)).alloc (.cells #[.string ⟨#[]⟩, .int .u64 0, .int .u64 0, .slice none 0 0, .slice none 0 0, .slice none 0 0] 109))
          have hs_3 : ((((w1.drew).alloc (.cells (bcells (List.replicate 32 0)).toArray 5)).alloc (.cells (bcells (List.replicate 32 0)).toArray 5)).alloc (.cells #[.string ⟨#[]⟩, .int .u64 0, .int .u64 0, .slice none 0 0, .slice none 0 0, .slice none 0 0] 109)).heap.size = w1.heap.size + 1 + 1 + 1 := by simp
          rw [hs_3] at f1_4
          have hb_4 := hb_3.alloc hb_3.size (.cells (bcells (List.replicate 32 0)).toArray 5)
          refine hK.out _ _ trivial (fun _ => ?_)
          clear hK K
          refine wpAnyH_take (i := 3) (oi := _) (v := ?_) rfl (by kernel_rfl) (by kernel_rfl) (by kernel_rfl) (fun _ _ _ h => h) (Or.inl ⟨by rfl, ?_⟩) trivial ?_
          rotate_left
          · intro W hSW
            try go_simp
            all_goals with_reducible rfl
          simp only [Act.put, List.setIfInBounds_toArray, List.set_cons_zero, List.set_cons_succ, List.getElem_toArray, List.getElem_cons_zero, List.getElem_cons_succ]
          refine wpAnyH_listed (L' := #[true, true, true, true, true, false]) (by kernel_rfl) ?_
          refine HN _ _ ⟨w1.heap.size + 1, w1.heap.size + 1 + 1 + 1, w1.heap.size, w1.heap.size + 1 + 1, by kernel_rfl, f0_4, f1_4, f2_4, f4_4, hb_4, hg4⟩
        exact AllReadyH.nil
      exact AllReadyH.nil
    refine AllReadyH.cons rfl (fun K hK => ?_) ?_
    · go_simp
      have f2_2 := Zr.alloc f2_1 (.cells (bcells (List.replicate 32 0)).toArray 5)
      have f1_2 := Zr.new ((w1.drew).alloc (.cells (bcells (List.replicate 32 0)).toArray 5))
      have hs_1 : ((w1.drew).alloc (.cells (bcells (List.replicate 32 0)).toArray 5)).heap.size = w1.heap.size + 1 := by simp
      rw [hs_1] at f1_2
      have hb_2 := hb_1.alloc hb_1.size (.cells (bcells (List.replicate 32 0)).toArray 5)
      refine hK.out _ _ trivial (fun _ => ?_)
      clear hK K
      refine wpAnyH_ready (rs := [0, 4]) (by kernel_rfl) (by simp) ?_
      refine AllReadyH.cons rfl (fun K hK => ?_) ?_
      · go_simp
        have f2_3 := Zr.alloc f2_2 (.cells (bcells (List.replicate 32 0)).toArray 5)
        have f1_3 := Zr.alloc f1_2 (.cells (bcells (List.replicate 32 0)).toArray 5)
        have f0_3 := Zr.new (((w1.drew).alloc (.cells (bcells (List.replicate 32 0)).toArray 5)).alloc (.cells (bcells (List.replicate 32 0)).toArray 5))
        have hs_2 : (((w1.drew).alloc (.cells (bcells (List.replicate 32 0)).toArray 5)).alloc (.cells (bcells (List.replicate 32 0)).toArray 5)).heap.size = w1.heap.size + 1 + 1 := by simp
        rw [hs_2] at f0_3
        have hb_3 := hb_2.alloc hb_2.size (.cells (bcells (List.replicate 32 0)).toArray 5)
        refine hK.out _ _ trivial (fun _ => ?_)
        clear hK K
        refine wpAnyH_take (i := 3) (oi := _) (v := ?_) rfl (by kernel_rfl) (by kernel_rfl) (by kernel_rfl) (fun _ _ _ h => h) (Or.inl ⟨by rfl, ?_⟩) trivial ?_
        rotate_left
        · intro W hSW
          try go_simp
          all_goals with_reducible rfl
        simp only [Act.put, List.setIfInBounds_toArray, List.set_cons_zero, List.set_cons_succ, List.getElem_toArray, List.getElem_cons_zero, List.getElem_cons_succ]
        refine wpAnyH_ready (rs := [4]) (by kernel_rfl) (by simp) ?_
        refine AllReadyH.cons rfl (fun K hK => ?_) ?_
        · go_simp
          have f2_4 := Zr.alloc f2_3 (.cells #[.string ⟨#[]⟩, .int .u64 0, .int .u64 0, .slice none 0 0, .slice none 0 0, .slice none 0 0] 109)
          have f1_4 := Zr.alloc f1_3 (.cells #[.string ⟨#[]⟩, .int .u64 0, .int .u64 0, .slice none 0 0, .slice none 0 0, .slice none 0 0] 109)
          have f0_4 := Zr.alloc f0_3 (.cells #[.string ⟨#[]⟩, .int .u64 0, .int .u64 0, .slice none 0 0, .slice none 0 0, .slice none 0 0] 109)
          have f4_4 : Sx 109 #[.string ⟨#[]⟩, .int .u64 0, .int .u64 0, .slice none 0 0, .slice none 0 0, .slice none 0 0] (((((w1.drew).alloc (.cells (bcells (List.replicate 32 0)).toArray 5)).alloc (.cells (bcells (List.replicate 32 0)).toArray 5)).alloc (.cells (bcells (List.replicate 32 0)).toArray 5)).alloc (.cells #[.string ⟨#[]⟩, .int .u64 0, .int .u64 0, .slice none 0 0, .slice none 0 0, .slice none 0 0] 109)) ((((w1.drew).alloc (.cells (bcells (List.replicate 32 0)).toArray 5)).alloc (.cells (bcells (List.replicate 32 0)).toArray 5)).alloc (.cells (bcells (List.replicate 32 0)).toArray 5)).heap.size := heap_alloc_new ((((w1.drew).alloc (.cells (bcells (List.replicate 32 0)).toArray 5)).alloc (.cells (bcells (List.replicate 32 0)).toArray 5)).alloc (.cells (bcells (List.replicate 32 0)).toArray 5)) _
          have hs_3 : ((((w1.drew).alloc (.cells (bcells (List.replicate 32 0)).toArray 5)).alloc (.cells (bcells (List.replicate 32 0)).toArray 5)).alloc (.cells (bcells (List.replicate 32 0)).toArray 5)).heap.size = w1.heap.size + 1 + 1 + 1 := by simp
          rw [hs_3] at f4_4
          have hb_4 := hb_3.alloc hb_3.size (.cells #[.string ⟨#[]⟩, .int .u64 0, .int .u64 0, .slice none 0 0, .slice none 0 0, .slice none 0 0] 109)
          have hg4 := hb_3.size
          rw [hs_3] at hg4
          refine hK.out _ _ trivial (fun _ => ?_)
          clear hK K
          refine wpAnyH_listed (L' := #[true, true, true, true, true, false]) (by kernel_rfl) ?_
          refine HN _ _ ⟨w1.heap.size + 1 + 1, w1.heap.size + 1, w1.heap.size, w1.heap.size + 1 + 1 + 1, by kernel_rfl, f0_4, f1_4, f2_4, f4_4, hb_4, hg4⟩
        exact AllReadyH.nil
      refine AllReadyH.cons rfl (fun K hK => ?_) ?_
      · go_simp
        have f2_3 := Zr.alloc f2_2 (.cells #[.string ⟨#[]⟩, .int .u64 0, .int .u64 0, .slice none 0 0, .slice none 0 0, .slice none 0 0] 109)
        have f1_3 := Zr.alloc f1_2 (.cells #[.string ⟨#[]⟩, .int .u64 0, .int .u64 0, .slice none 0 0, .slice none 0 0, .slice none 0 0] 109)
        have f4_3 : Sx 109 #[.string ⟨#[]⟩, .int .u64 0, .int .u64 0, .slice none 0 0, .slice none 0 0, .slice none 0 0] ((((w1.drew).alloc (.cells (bcells (List.replicate 32 0)).toArray 5)).alloc (.cells (bcells (List.replicate 32 0)).toArray 5)).alloc (.cells #[.string ⟨#[]⟩, .int .u64 0, .int .u64 0, .slice none 0 0, .slice none 0 0, .slice none 0 0] 109)) (((w1.drew).alloc (.cells (bcells (List.replicate 32 0)).toArray 5)).alloc (.cells (bcells (List.replicate 32 0)).toArray 5)).heap.size := heap_alloc_new (((w1.drew).alloc (.cells (bcells (List.replicate 32 0)).toArray 5)).alloc (.cells (bcells (List.replicate 32 0)).toArray 5)) _
        have hs_2 : (((w1.drew).alloc (.cells (bcells (List.replicate 32 0)).toArray 5)).alloc (.cells (bcells (List.replicate 32 0)).toArray 5)).heap.size = w1.heap.size + 1 + 1 := by simp
        rw [hs_2] at f4_3
        have hb_3 := hb_2.alloc hb_2.size (.cells #[.string ⟨#[]⟩, .int .u64 0, .int .u64 0, .slice none 0 0, .slice none 0 0, .slice none 0 0] 109)
        have hg4 := hb_2.size
        rw [hs_2] at hg4
        refine hK.out _ _ trivial (fun _ => ?_)
        clear hK K
        refine wpAnyH_ready (rs := [0]) (by kernel_rfl) (by simp) ?_
        refine AllReadyH.cons rfl (fun K hK => ?_) ?_
        · go_simp
          have f2_4 := Zr.alloc f2_3 (.cells (bcells (List.replicate 32 0)).toArray 5)
          have f1_4 := Zr.alloc f1_3 (.cells (bcells (List.replicate 32 0)).toArray 5)
          have f4_4 := Sx.alloc f4_3 (.cells (bcells (List.replicate 32 0)).toArray 5)
          have f0_4 := Zr.new ((((w1.drew).alloc (.cells (bcells (List.replicate 32 0)).toArray 5)).alloc (.cells (bcells (List.replicate 32 0)).toArray 5)).alloc (.cells #[.string ⟨#[]⟩, .int .u64 0, .int .u64 0, .slice none 0 0, .slice none 0 0, .slice none 0 0] 109))
          have hs_3 : ((((w1.drew).alloc (.cells (bcells (List.replicate 32 0)).toArray 5)).alloc (.cells (bcells (List.replicate 32 0)).toArray 5)).alloc (.cells #[.string ⟨#[]⟩, .int .u64 0, .int .u64 0, .slice none 0 0, .slice none 0 0, .slice none 0 0] 109)).heap.size = w1.heap.size + 1 + 1 + 1 := by simp
          rw [hs_3] at f0_4
          have hb_4 := hb_3.alloc hb_3.size (.cells (bcells (List.replicate 32 0)).toArray 5)
          refine hK.out _ _ trivial (fun _ => ?_)
          clear hK K
          refine wpAnyH_take (i := 3) (oi := _) (v := ?_) rfl (by kernel_rfl) (by kernel_rfl) (by kernel_rfl) (fun _ _ _ h => h) (Or.inl ⟨by rfl, ?_⟩) trivial ?_
          rotate_left
          · intro W hSW
            try go_simp
            all_goals with_reducible rfl
          simp only [Act.put, List.setIfInBounds_toArray, List.set_cons_zero, List.set_cons_succ, List.getElem_toArray, List.getElem_cons_zero, List.getElem_cons_succ]
          refine wpAnyH_listed (L' := #[true, true, true, true, true, false]) (by kernel_rfl) ?_
          refine HN _ _ ⟨w1.heap.size + 1 + 1 + 1, w1.heap.size + 1, w1.heap.size, w1.heap.size + 1 + 1, by kernel_rfl, f0_4, f1_4, f2_4, f4_4, hb_4, hg4⟩
        exact AllReadyH.nil
      exact AllReadyH.nil
    refine AllReadyH.cons rfl (fun K hK => ?_) ?_
    · go_simp
      have f2_2 := Zr.alloc f2_1 (.cells #[.string ⟨#[]⟩, .int .u64 0, .int .u64 0, .slice none 0 0, .slice none 0 0, .slice none 0 0] 109)
      have f4_2 : Sx 109 #[.string ⟨#[]⟩, .int .u64 0, .int .u64 0, .slice none 0 0, .slice none 0 0, .slice none 0 0] (((w1.drew).alloc (.cells (bcells (List.replicate 32 0)).toArray 5)).alloc (.cells #[.string ⟨#[]⟩, .int .u64 0, .int .u64 0, .slice none 0 0, .slice none 0 0, .slice none 0 0] 109)) ((w1.drew).alloc (.cells (bcells (List.replicate 32 0)).toArray 5)).heap.size := heap_alloc_new ((w1.drew).alloc (.cells (bcells (List.replicate 32 0)).toArray 5)) _
      have hs_1 : ((w1.drew).alloc (.cells (bcells (List.replicate 32 0)).toArray 5)).heap.size = w1.heap.size + 1 := by simp
      rw [hs_1] at f4_2
      have hb_2 := hb_1.alloc hb_1.size (.cells #[.string ⟨#[]⟩, .int .u64 0, .int .u64 0, .slice none 0 0, .slice none 0 0, .slice none 0 0] 109)
      have hg4 := hb_1.size
      rw [hs_1] at hg4
      refine hK.out _ _ trivial (fun _ => ?_)
      clear hK K
      refine wpAnyH_ready (rs := [0, 1]) (by kernel_rfl) (by simp) ?_
      refine AllReadyH.cons rfl (fun K hK => ?_) ?_
      · go_simp
        have f2_3 := Zr.alloc f2_2 (.cells (bcells (List.replicate 32 0)).toArray 5)
        have f4_3 := Sx.alloc f4_2 (.cells (bcells (List.replicate 32 0)).toArray 5)
        have f0_3 := Zr.new (((w1.drew).alloc (.cells (bcells (List.replicate 32 0)).toArray 5)).alloc (.cells #[.string ⟨#[]⟩, .int .u64 0, .int .u64 0, .slice none 0 0, .slice none 0 0, .slice none 0 0] 109))
        have hs_2 : (((w1.drew).alloc (.cells (bcells (List.replicate 32 0)).toArray 5)).alloc (.cells #[.string ⟨#[]⟩, .int .u64 0, .int .u64 0, .slice none 0 0, .slice none 0 0, .slice none 0 0] 109)).heap.size = w1.heap.size + 1 + 1 := by simp
        rw [hs_2] at f0_3
        have hb_3 := hb_2.alloc hb_2.size (.cells (bcells (List.replicate 32 0)).toArray 5)
        refine hK.out _ _ trivial (fun _ => ?_)
        clear hK K
        refine wpAnyH_ready (rs := [1]) (by kernel_rfl) (by simp) ?_
        refine AllReadyH.cons rfl (fun K hK => ?_) ?_
        · go_simp
          have f2_4 := Zr.alloc f2_3 (.cells (bcells (List.replicate 32 0)).toArray 5)
          have f4_4 := Sx.alloc f4_3 (.cells (bcells (List.replicate 32 0)).toArray 5)
          have f0_4 := Zr.alloc f0_3 (.cells (bcells (List.replicate 32 0)).toArray 5)
          have f1_4 := Zr.new ((((w1.drew).alloc (.cells (bcells (List.replicate 32 0)).toArray 5)).alloc (.cells #[.string ⟨#[]⟩, .int .u64 0, .int .u64 0, .slice none 0 0, .slice none 0 0, .slice none 0 0] 109)).alloc (.cells (bcells (List.replicate 32 0)).toArray 5))
          have hs_3 : ((((w1.drew).alloc (.cells (bcells (List.replicate 32 0)).toArray 5)).alloc (.cells #[.string ⟨#[]⟩, .int .u64 0, .int .u64 0, .slice none 0 0, .slice none 0 0, .slice none 0 0] 109)).alloc (.cells (bcells (List.replicate 32 0)).toArray 5)).heap.size = w1.heap.size + 1 + 1 + 1 := by simp
          rw [hs_3] at f1_4
          have hb_4 := hb_3.alloc hb_3.size (.cells (bcells (List.replicate 32 0)).toArray 5)
          refine hK.out _ _ trivial (fun _ => ?_)
          clear hK K
          refine wpAnyH_take (i := 3) (oi := _) (v := ?_) rfl (by kernel_rfl) (by kernel_rfl) (by kernel_rfl) (fun _ _ _ h => h) (Or.inl ⟨by rfl, ?_⟩) trivial ?_
          rotate_left
          · intro W hSW
            try go_simp
            all_goals with_reducible rfl
          simp only [Act.put, List.setIfInBounds_toArray, List.set_cons_zero, List.set_cons_succ, List.getElem_toArray, List.getElem_cons_zero, List.getElem_cons_succ]
          refine wpAnyH_listed (L' := #[true, true, true, true, true, false]) (by kernel_rfl) ?_
          refine HN _ _ ⟨w1.heap.size + 1 + 1, w1.heap.size + 1 + 1 + 1, w1.heap.size, w1.heap.size + 1, by kernel_rfl, f0_4, f1_4, f2_4, f4_4, hb_4, hg4⟩
        exact AllReadyH.nil
      refine AllReadyH.cons rfl (fun K hK => ?_) ?_
      · go_simp
        have f2_3 := Zr.alloc f2_2 (.cells (bcells (List.replicate 32 0)).toArray 5)
        have f4_3 := Sx.alloc f4_2 (.cells (bcells (List.replicate 32 0)).toArray 5)
        have f1_3 := Zr.new (((w1.drew).alloc (.cells (bcells (List.replicate 32 0)).toArray 5)).alloc (.cells #[.string ⟨#[]⟩, .int .u64 0, .int .u64 0, .slice none 0 0, .slice none 0 0, .slice none 0 0] 109))
        have hs_2 : (((w1.drew).alloc (.cells (bcells (List.replicate 32 0)).toArray 5)).alloc (.cells #[.string ⟨#[]⟩, .int .u64 0, .int .u64 0, .slice none 0 0, .slice none 0 0, .slice none 0 0] 109)).heap.size = w1.heap.size + 1 + 1 := by simp
        rw [hs_2] at f1_3
        have hb_3 := hb_2.alloc hb_2.size (.cells (bcells (List.replicate 32 0)).toArray 5)
        refine hK.out _ _ trivial (fun _ => ?_)
        clear hK K
        refine wpAnyH_ready (rs := [0]) (by kernel_rfl) (by simp) ?_
        refine AllReadyH.cons rfl (fun K hK => ?_) ?_
        · go_simp
          have f2_4 := Zr.alloc f2_3 (.cells (bcells (List.replicate 32 0)).toArray 5)
          have f4_4 := Sx.alloc f4_3 (.cells (bcells (List.replicate 32 0)).toArray 5)
          have f1_4 := Zr.alloc f1_3 (.cells (bcells (List.replicate 32 0)).toArray 5)
          have f0_4 := Zr.new ((((w1.drew).alloc (.cells (bcells (List.replicate 32 0)).toArray 5)).alloc (.cells #[.string ⟨#[]⟩, .int .u64 0, .int .u64 0, .slice none 0 0, .slice none 0 0, .slice none 0 0] 109)).alloc (.cells (bcells (List.replicate 32 0)).toArray 5))
          have hs_3 : ((((w1.drew).alloc (.cells (bcells (List.replicate 32 0)).toArray 5)).alloc (.cells #[.string ⟨#[]⟩, .int .u64 0, .int .u64 0, .slice none 0 0, .slice none 0 0, .slice none 0 0] 109)).alloc (.cells (bcells (List.replicate 32 0)).toArray 5)).heap.size = w1.heap.size + 1 + 1 + 1 := by simp
          rw [hs_3] at f0_4
          have hb_4 := hb_3.alloc hb_3.size (.cells (bcells (List.replicate 32 0)).toArray 5)
          refine hK.out _ _ trivial (fun _ => ?_)
          clear hK K
          refine wpAnyH_take (i := 3) (oi := _) (v := ?_) rfl (by kernel_rfl) (by kernel_rfl) (by kernel_rfl) (fun _ _ _ h => h) (Or.inl ⟨by rfl, ?_⟩) trivial ?_
          rotate_left
          · intro W hSW
            try go_simp
            all_goals with_reducible rfl
          simp only [Act.put, List.setIfInBounds_toArray, List.set_cons_zero, List.set_cons_succ, List.getElem_toArray, List.getElem_cons_zero, List.getElem_cons_succ]
          refine wpAnyH_listed (L' := #[true, true, true, true, true, false]) (by kernel_rfl) ?_
          refine HN _ _ ⟨w1.heap.size + 1 + 1 + 1, w1.heap.size + 1 + 1, w1.heap.size, w1.heap.size + 1, by kernel_rfl, f0_4, f1_4, f2_4, f4_4, hb_4, hg4⟩
        exact AllReadyH.nil
      exact AllReadyH.nil
    exact AllReadyH.nil
  refine AllReadyH.cons rfl (fun K hK => ?_) ?_
  · go_simp
    have f4_1 : Sx 109 #[.string ⟨#[]⟩, .int .u64 0, .int .u64 0, .slice none 0 0, .slice none 0 0, .slice none 0 0] ((w1.drew).alloc (.cells #[.string ⟨#[]⟩, .int .u64 0, .int .u64 0, .slice none 0 0, .slice none 0 0, .slice none 0 0] 109)) (w1.drew).heap.size := heap_alloc_new (w1.drew) _
    have hs_0 : (w1.drew).heap.size = w1.heap.size := by simp
    rw [hs_0] at f4_1
    have hb_1 := hb_0.alloc hb_0.size (.cells #[.string ⟨#[]⟩, .int .u64 0, .int .u64 0, .slice none 0 0, .slice none 0 0, .slice none 0 0] 109)
    have hg4 := hb_0.size
    rw [hs_0] at hg4
    refine hK.out _ _ trivial (fun _ => ?_)
    clear hK K
    refine wpAnyH_ready (rs := [0, 1, 2]) (by kernel_rfl) (by simp) ?_
    refine AllReadyH.cons rfl (fun K hK => ?_) ?_
    · go_simp
      have f4_2 := Sx.alloc f4_1 (.cells (bcells (List.replicate 32 0)).toArray 5)
      have f0_2 := Zr.new ((w1.drew).alloc (.cells #[.string ⟨#[]⟩, .int .u64 0, .int .u64 0, .slice none 0 0, .slice none 0 0, .slice none 0 0] 109))
      have hs_1 : ((w1.drew).alloc (.cells #[.string ⟨#[]⟩, .int .u64 0, .int .u64 0, .slice none 0 0, .slice none 0 0, .slice none 0 0] 109)).heap.size = w1.heap.size + 1 := by simp
      rw [hs_1] at f0_2
      have hb_2 := hb_1.alloc hb_1.size (.cells (bcells (List.replicate 32 0)).toArray 5)
      refine hK.out _ _ trivial (fun _ => ?_)
      clear hK K
      refine wpAnyH_ready (rs := [1, 2]) (by kernel_rfl) (by simp) ?_
      refine AllReadyH.cons rfl (fun K hK => ?_) ?_
      · go_simp
        have f4_3 := Sx.alloc f4_2 (.cells (bcells (List.replicate 32 0)).toArray 5)
        have f0_3 := Zr.alloc f0_2 (.cells (bcells (List.replicate 32 0)).toArray 5)
        have f1_3 := Zr.new (((w1.drew).alloc (.cells #[.string ⟨#[]⟩, .int .u64 0, .int .u64 0, .slice none 0 0, .slice none 0 0, .slice none 0 0] 109)).alloc (.cells (bcells (List.replicate 32 0)).toArray 5))
        have hs_2 : (((w1.drew).alloc (.cells #[.string ⟨#[]⟩, .int .u64 0, .int .u64 0, .slice none 0 0, .slice none 0 0, .slice none 0 0] 109)).alloc (.cells (bcells (List.replicate 32 0)).toArray 5)).heap.size = w1.heap.size + 1 + 1 := by simp
        rw [hs_2] at f1_3
        have hb_3 := hb_2.alloc hb_2.size (.cells (bcells (List.replicate 32 0)).toArray 5)
        refine hK.out _ _ trivial (fun _ => ?_)
        clear hK K
        refine wpAnyH_ready (rs := [2]) (by kernel_rfl) (by simp) ?_
        refine AllReadyH.cons rfl (fun K hK => ?_) ?_
        · go_simp
          have f4_4 := Sx.alloc f4_3 (.cells (bcells (List.replicate 32 0)).toArray 5)
          have f0_4 := Zr.alloc f0_3 (.cells (bcells (List.replicate 32 0)).toArray 5)
          have f1_4 := Zr.alloc f1_3 (.cells (bcells (List.replicate 32 0)).toArray 5)
          have f2_4 := Zr.new ((((w1.drew).alloc (.cells #[.string ⟨#[]⟩, .int .u64 0, .int .u64 0, .slice none 0 0, .slice none 0 0, .slice none 0 0] 109)).alloc (.cells (bcells (List.replicate 32 0)).toArray 5)).alloc (.cells (bcells (List.replicate 32 0)).toArray 5))
          have hs_3 : ((((w1.drew).alloc (.cells #[.string ⟨#[]⟩, .int .u64 0, .int .u64 0, .slice none 0 0, .slice none 0 0, .slice none 0 0] 109)).alloc (.cells (bcells (List.replicate 32 0)).toArray 5)).alloc (.cells (bcells (List.replicate 32 0)).toArray 5)).heap.size = w1.heap.size + 1 + 1 + 1 := by simp
          rw [hs_3] at f2_4
          have hb_4 := hb_3.alloc hb_3.size (.cells (bcells (List.replicate 32 0)).toArray 5)
          refine hK.out _ _ trivial (fun _ => ?_)
          clear hK K
          refine wpAnyH_take (i := 3) (oi := _) (v := ?_) rfl (by kernel_rfl) (by kernel_rfl) (by kernel_rfl) (fun _ _ _ h => h) (Or.inl ⟨by rfl, ?_⟩) trivial ?_
          rotate_left
          · intro W hSW
            try go_simp
            all_goals with_reducible rfl
          simp only [Act.put, List.setIfInBounds_toArray, List.set_cons_zero, List.set_cons_succ, List.getElem_toArray, List.getElem_cons_zero, List.getElem_cons_succ]
          refine wpAnyH_listed (L' := #[true, true, true, true, true, false]) (by kernel_rfl) ?_
          refine HN _ _ ⟨w1.heap.size + 1, w1.heap.size + 1 + 1, w1.heap.size + 1 + 1 + 1, w1.heap.size, by kernel_rfl, f0_4, f1_4, f2_4, f4_4, hb_4, hg4⟩
        exact AllReadyH.nil
      refine AllReadyH.cons rfl (fun K hK => ?_) ?_
      · go_simp
        have f4_3 := Sx.alloc f4_2 (.cells (bcells (List.replicate 32 0)).toArray 5)
        have f0_3 := Zr.alloc f0_2 (.cells (bcells (List.replicate 32 0)).toArray 5)
        have f2_3 := Zr.new (((w1.drew).alloc (.cells #[.string ⟨#[]⟩, .int .u64 0, .int .u64 0, .slice none 0 0, .slice none 0 0, .slice none 0 0] 109)).alloc (.cells (bcells (List.replicate 32 0)).toArray 5))
        have hs_2 : (((w1.drew).alloc (.cells #[.string ⟨#[]⟩, .int .u64 0, .int .u64 0, .slice none 0 0, .slice none 0 0, .slice none 0 0] 109)).alloc (.cells (bcells (List.replicate 32 0)).toArray 5)).heap.size = w1.heap.size + 1 + 1 := by simp
        rw [hs_2] at f2_3
        have hb_3 := hb_2.alloc hb_2.size (.cells (bcells (List.replicate 32 0)).toArray 5)
        refine hK.out _ _ trivial (fun _ => ?_)
        clear hK K
        refine wpAnyH_ready (rs := [1]) (by kernel_rfl) (by simp) ?_
        refine AllReadyH.cons rfl (fun K hK => ?_) ?_
        · go_simp
          have f4_4 := Sx.alloc f4_3 (.cells (bcells (List.replicate 32 0)).toArray 5)
          have f0_4 := Zr.alloc f0_3 (.cells (bcells (List.replicate 32 0)).toArray 5)
          have f2_4 := Zr.alloc f2_3 (.cells (bcells (List.replicate 32 0)).toArray 5)
          have f1_4 := Zr.new ((((w1.drew).alloc (.cells #[.string ⟨#[]⟩, .int .u64 0, .int .u64 0, .slice none 0 0, .slice none 0 0, .slice none 0 0] 109)).alloc (.cells (bcells (List.replicate 32 0)).toArray 5)).alloc (.cells (bcells (List.replicate 32 0)).toArray 5))
          have hs_3 : ((((w1.drew).alloc (.cells #[.string ⟨#[]⟩, .int .u64 0, .int .u64 0, .slice none 0 0, .slice none 0 0, .slice none 0 0] 109)).alloc (.cells (bcells (List.replicate 32 0)).toArray 5)).alloc (.cells (bcells (List.replicate 32 0)).toArray 5)).heap.size = w1.heap.size + 1 + 1 + 1 := by simp
          rw [hs_3] at f1_4
          have hb_4 := hb_3.alloc hb_3.size (.cells (bcells (List.replicate 32 0)).toArray 5)
          refine hK.out _ _ trivial (fun _ => ?_)
          clear hK K
          refine wpAnyH_take (i := 3) (oi := _) (v := ?_) rfl (by kernel_rfl) (by kernel_rfl) (by kernel_rfl) (fun _ _ _ h => h) (Or.inl ⟨by rfl, ?_⟩) trivial ?_
          rotate_left
          · intro W hSW
            try go_simp
            all_goals with_reducible rfl
          simp only [Act.put, List.setIfInBounds_toArray, List.set_cons_zero, List.set_cons_succ, List.getElem_toArray, List.getElem_cons_zero, List.getElem_cons_succ]
          refine wpAnyH_listed (L' := #[true, true, true, true, true, false]) (by kernel_rfl) ?_
          refine HN _ _ ⟨w1.heap.size + 1, w1.heap.size + 1 + 1 + 1, w1.heap.size + 1 + 1, w1.heap.size, by kernel_rfl, f0_4, f1_4, f2_4, f4_4, hb_4, hg4⟩
        exact AllReadyH.nil
      exact AllReadyH.nil
    refine AllReadyH.cons rfl (fun K hK => ?_) ?_
    · go_simp
      have f4_2 := Sx.alloc f4_1 (.cells (bcells (List.replicate 32 0)).toArray 5)
      have f1_2 := Zr.new ((w1.drew).alloc (.cells #[.string ⟨#[]⟩, .int .u64 0, .int .u64 0, .slice none 0 0, .slice none 0 0, .slice none 0 0] 109))
      have hs_1 : ((w1.drew).alloc (.cells #[.string ⟨#[]⟩, .int .u64 0, .int .u64 0, .slice none 0 0, .slice none 0 0, .slice none 0 0] 109)).heap.size = w1.heap.size + 1 := by simp
      rw [hs_1] at f1_2
      have hb_2 := hb_1.alloc hb_1.size (.cells (bcells (List.replicate 32 0)).toArray 5)
      refine hK.out _ _ trivial (fun _ => ?_)
      clear hK K
      refine wpAnyH_ready (rs := [0, 2]) (by kernel_rfl) (by simp) ?_
      refine AllReadyH.cons rfl (fun K hK => ?_) ?_
      · go_simp
        have f4_3 := Sx.alloc f4_2 (.cells (bcells (List.replicate 32 0)).toArray 5)
        have f1_3 := Zr.alloc f1_2 (.cells (bcells (List.replicate 32 0)).toArray 5)
        have f0_3 := Zr.new (((w1.drew).alloc (.cells #[.string ⟨#[]⟩, .int .u64 0, .int .u64 0, .slice none 0 0, .slice none 0 0, .slice none 0 0] 109)).alloc (.cells (bcells (List.replicate 32 0)).toArray 5))
        have hs_2 : (((w1.drew).alloc (.cells #[.string ⟨#[]⟩, .int .u64 0, .int .u64 0, .slice none 0 0, .slice none 0 0, .slice none 0 0] 109)).alloc (.cells (bcells (List.replicate 32 0)).toArray 5)).heap.size = w1.heap.size + 1 + 1 := by simp
        rw [hs_2] at f0_3
        have hb_3 := hb_2.alloc hb_2.size (.cells (bcells (List.replicate 32 0)).toArray 5)
        refine hK.out _ _ trivial (fun _ => ?_)
        clear hK K
        refine wpAnyH_ready (rs := [2]) (by kernel_rfl) (by simp) ?_
        refine AllReadyH.cons rfl (fun K hK => ?_) ?_
        · go_simp
          have f4_4 := Sx.alloc f4_3 (.cells (bcells (List.replicate 32 0)).toArray 5)
          have f1_4 := Zr.alloc f1_3 (.cells (bcells (List.replicate 32 0)).toArray 5)
          have f0_4 := Zr.alloc f0_3 (.cells (bcells (List.replicate 32 0)).toArray 5)
          have f2_4 := Zr.new ((((w1.drew).alloc (.cells #[.string ⟨#[]⟩, .int .u64 0, .int .u64 0, .slice none 0 0, .slice none 0 0, .slice none 0 0] 109)).alloc (.cells (bcells (List.replicate 32 0)).toArray 5)).alloc (.cells (bcells (List.replicate 32 0)).toArray 5))
          have hs_3 : ((((w1.drew).alloc (.cells #[.string ⟨#[]⟩, .int .u64 0, .int .u64 0, .slice none 0 0, .slice none 0 0, .slice none 0 0] 109)).alloc (.cells (bcells (List.replicate 32 0)).toArray 5)).alloc (.cells (bcells (List.replicate 32 0)).toArray 5)).heap.size = w1.heap.size + 1 + 1 + 1 := by simp
          rw [hs_3] at f2_4
          have hb_4 := hb_3.alloc hb_3.size (.cells (bcells (List.replicate 32 0)).toArray 5)
          refine hK.out _ _ trivial (fun _ => ?_)
          clear hK K
          refine wpAnyH_take (i := 3) (oi := _) (v := ?_) rfl (by kernel_rfl) (by kernel_rfl) (by kernel_rfl) (fun _ _ _ h => h) (Or.inl ⟨by rfl, ?_⟩) trivial ?_
          rotate_left
          · intro W hSW
            try go_simp
            all_goals with_reducible rfl
          simp only [Act.put, List.setIfInBounds_toArray, List.set_cons_zero, List.set_cons_succ, List.getElem_toArray, List.getElem_cons_zero, List.getElem_cons_succ]
          refine wpAnyH_listed (L' := #[true, true, true, true, true, false]) (by kernel_rfl) ?_
          refine HN _ _ ⟨w1.heap.size + 1 + 1, w1.heap.size + 1, w1.heap.size + 1 + 1 + 1, w1.heap.size, by kernel_rfl, f0_4, f1_4, f2_4, f4_4, hb_4, hg4⟩
        exact AllReadyH.nil
      refine AllReadyH.cons rfl (fun K hK => ?_) ?_
      · go_simp
        have f4_3 := Sx.alloc f4_2 (.cells (bcells (List.replicate 32 0)).toArray 5)
        have f1_3 := Zr.alloc f1_2 (.cells (bcells (List.replicate 32 0)).toArray 5)
        have f2_3 := Zr.new (((w1.drew).alloc (.cells #[.string ⟨#[]⟩, .int .u64 0, .int .u64 0, .slice none 0 0, .slice none 0 0, .slice none 0 0] 109)).alloc (.cells (bcells (List.replicate 32 0)).toArray 5))
        have hs_2 : (((w1.drew).alloc (.cells #[.string ⟨#[]⟩, .int .u64 0, .int .u64 0, .slice none 0 0, .slice none 0 0, .slice none 0 0] 109)).alloc (.cells (bcells (List.replicate 32 0)).toArray 5)).heap.size = w1.heap.size + 1 + 1 := by simp
        rw [hs_2] at f2_3
        have hb_3 := hb_2.alloc hb_2.size (.cells (bcells (List.replicate 32 0)).toArray 5)
        refine hK.out _ _ trivial (fun _ => ?_)
        clear hK K
        refine wpAnyH_ready (rs := [0]) (by kernel_rfl) (by simp) ?_
        refine AllReadyH.cons rfl (fun K hK => ?_) ?_
        · go_simp
          have f4_4 := Sx.alloc f4_3 (.cells (bcells (List.replicate 32 0)).toArray 5)
          have f1_4 := Zr.alloc f1_3 (.cells (bcells (List.replicate 32 0)).toArray 5)
          have f2_4 := Zr.alloc f2_3 (.cells (bcells (List.replicate 32 0)).toArray 5)
          have f0_4 := Zr.new ((((w1.drew).alloc (.cells #[.string ⟨#[]⟩, .int .u64 0, .int .u64 0, .slice none 0 0, .slice none 0 0, .slice none 0 0] 109)).alloc (.cells (bcells (List.replicate 32 0)).toArray 5)).alloc (.cells (bcells (List.replicate 32 0)).toArray 5))
          have hs_3 : ((((w1.drew).alloc (.cells #[.string ⟨#[]⟩, .int .u64 0, .int .u64 0, .slice none 0 0, .slice none 0 0, .slice none 0 0] 109)).alloc (.cells (bcells (List.replicate 32 0)).toArray 5)).alloc (.cells (bcells (List.replicate 32 0)).toArray 5)).heap.size = w1.heap.size + 1 + 1 + 1 := by simp
          rw [hs_3] at f0_4
          have hb_4 := hb_3.alloc hb_3.size (.cells (bcells (List.replicate 32 0)).toArray 5)
          refine hK.out _ _ trivial (fun _ => ?_)
          clear hK K
          refine wpAnyH_take (i := 3) (oi := _) (v := ?_) rfl (by kernel_rfl) (by kernel_rfl) (by kernel_rfl) (fun _ _ _ h => h) (Or.inl ⟨by rfl, ?_⟩) trivial ?_
          rotate_left
          · intro W hSW
            try go_simp
            all_goals with_reducible rfl
          simp only [Act.put, List.setIfInBounds_toArray, List.set_cons_zero, List.set_cons_succ, List.getElem_toArray, List.getElem_cons_zero, List.getElem_cons_succ]
          refine wpAnyH_listed (L' := #[true, true, true, true, true, false]) (by kernel_rfl) ?_
          refine HN _ _ ⟨w1.heap.size + 1 + 1 + 1, w1.heap.size + 1, w1.heap.size + 1 + 1, w1.heap.size, by kernel_rfl, f0_4, f1_4, f2_4, f4_4, hb_4, hg4⟩
        exact AllReadyH.nil
      exact AllReadyH.nil
    refine AllReadyH.cons rfl (fun K hK => ?_) ?_
    · go_simp
      have f4_2 := Sx.alloc f4_1 (.cells (bcells (List.replicate 32 0)).toArray 5)
      have f2_2 := Zr.new ((w1.drew).alloc (.cells #[.string ⟨#[]⟩, .int .u64 0, .int .u64 0, .slice none 0 0, .slice none 0 0, .slice none 0 0] 109))
      have hs_1 : ((w1.drew).alloc (.cells #[.string ⟨#[]⟩, .int .u64 0, .int .u64 0, .slice none 0 0, .slice none 0 0, .slice none 0 0] 109)).heap.size = w1.heap.size + 1 := by simp
      rw [hs_1] at f2_2
      have hb_2 := hb_1.alloc hb_1.size (.cells (bcells (List.replicate 32 0)).toArray 5)
      refine hK.out _ _ trivial (fun _ => ?_)
      clear hK K
      refine wpAnyH_ready (rs := [0, 1]) (by kernel_rfl) (by simp) ?_
      refine AllReadyH.cons rfl (fun K hK => ?_) ?_
      · go_simp
        have f4_3 := Sx.alloc f4_2 (.cells (bcells (List.replicate 32 0)).toArray 5)
        have f2_3 := Zr.alloc f2_2 (.cells (bcells (List.replicate 32 0)).toArray 5)
        have f0_3 := Zr.new (((w1.drew).alloc (.cells #[.string ⟨#[]⟩, .int .u64 0, .int .u64 0, .slice none 0 0, .slice none 0 0, .slice none 0 0] 109)).alloc (.cells (bcells (List.replicate 32 0)).toArray 5))
        have hs_2 : (((w1.drew).alloc (.cells #[.string ⟨#[]⟩, .int .u64 0, .int .u64 0, .slice none 0 0, .slice none 0 0, .slice none 0 0] 109)).alloc (.cells (bcells (List.replicate 32 0)).toArray 5)).heap.size = w1.heap.size + 1 + 1 := by simp
        rw [hs_2] at f0_3
        have hb_3 := hb_2.alloc hb_2.size (.cells (bcells (List.replicate 32 0)).toArray 5)
        refine hK.out _ _ trivial (fun _ => ?_)
        clear hK K
        refine wpAnyH_ready (rs := [1]) (by kernel_rfl) (by simp) ?_
        refine AllReadyH.cons rfl (fun K hK => ?_) ?_
        · go_simp
          have f4_4 := Sx.alloc f4_3 (.cells (bcells (List.replicate 32 0)).toArray 5)
          have f2_4 := Zr.alloc f2_3 (.cells (bcells (List.replicate 32 0)).toArray 5)
          have f0_4 := Zr.alloc f0_3 (.cells (bcells (List.replicate 32 0)).toArray 5)
          have f1_4 := Zr.new ((((w1.drew).alloc (.cells #[.string ⟨#[]⟩, .int .u64 0, .int .u64 0, .slice none 0 0, .slice none 0 0, .slice none 0 0] 109)).alloc (.cells (bcells (List.replicate 32 0)).toArray 5)).alloc (.cells (bcells (List.replicate 32 0)).toArray 5))
          have hs_3 : ((((w1.drew).alloc (.cells #[.string ⟨#[]⟩, .int .u64 0, .int .u64 0, .slice none 0 0, .slice none 0 0, .slice none 0 0] 109)).alloc (.cells (bcells (List.replicate 32 0)).toArray 5)).alloc (.cells (bcells (List.replicate 32 0)).toArray 5)).heap.size = w1.heap.size + 1 + 1 + 1 := by simp
          rw [hs_3] at f1_4
          have hb_4 := hb_3.alloc hb_3.size (.cells (bcells (List.replicate 32 0)).toArray 5)
          refine hK.out _ _ trivial (fun _ => ?_)
          clear hK K
          refine wpAnyH_take (i := 3) (oi := _) (v := ?_) rfl (by kernel_rfl) (by kernel_rfl) (by kernel_rfl) (fun _ _ _ h => h) (Or.inl ⟨by rfl, ?_⟩) trivial ?_
          rotate_left
          · intro W hSW
            try go_simp
            all_goals with_reducible rfl
          simp only [Act.put, List.setIfInBounds_toArray, List.set_cons_zero, List.set_cons_succ, List.getElem_toArray, List.getElem_cons_zero, List.getElem_cons_succ]
          refine wpAnyH_listed (L' := #[true, true, true, true, true, false]) (by kernel_rfl) ?_
          refine HN _ _ ⟨w1.heap.size + 1 + 1, w1.heap.size + 1 + 1 + 1, w1.heap.size + 1, w1.heap.size, by kernel_rfl, f0_4, f1_4, f2_4, f4_4, hb_4, hg4⟩
        exact AllReadyH.nil
      refine AllReadyH.cons rfl (fun K hK => ?_) ?_
      · go_simp
        have f4_3 := Sx.alloc f4_2 (.cells (bcells (List.replicate 32 0)).toArray 5)
        have f2_3 := Zr.alloc f2_2 (.cells (bcells (List.replicate 32 0)).toArray 5)
        have f1_3 := Zr.new (((w1.drew).alloc (.cells #[.string ⟨#[]⟩, .int .u64 0, .int .u64 0, .slice none 0 0, .slice none 0 0, .slice none 0 0] 109)).alloc (.cells (bcells (List.replicate 32 0)).toArray 5))
        have hs_2 : (((w1.drew).alloc (.cells #[.string ⟨#[]⟩, .int .u64 0, .int .u64 0, .slice none 0 0, .slice none 0 0, .slice none 0 0] 109)).alloc (.cells (bcells (List.replicate 32 0)).toArray 5)).heap.size = w1.heap.size + 1 + 1 := by simp
        rw [hs_2] at f1_3
        have hb_3 := hb_2.alloc hb_2.size (.cells (bcells (List.replicate 32 0)).toArray 5)
        refine hK.out _ _ trivial (fun _ => ?_)
        clear hK K
        refine wpAnyH_ready (rs := [0]) (by kernel_rfl) (by simp) ?_
        refine AllReadyH.cons rfl (fun K hK => ?_) ?_
        · go_simp
          have f4_4 := Sx.alloc f4_3 (.cells (bcells (List.replicate 32 0)).toArray 5)
          have f2_4 := Zr.alloc f2_3 (.cells (bcells (List.replicate 32 0)).toArray 5)
          have f1_4 := Zr.alloc f1_3 (.cells (bcells (List.replicate 32 0)).toArray 5)
          have f0_4 := Zr.new ((((w1.drew).alloc (.cells #[.string ⟨#[]⟩, .int .u64 0, .int .u64 0, .slice none 0 0, .slice none 0 0, .slice none 0 0] 109)).alloc (.cells (bcells (List.replicate 32 0)).toArray 5)).alloc (.cells (bcells (List.replicate 32 0)).toArray 5))
          have hs_3 : ((((w1.drew).alloc (.cells #[.string ⟨#[]⟩, .int .u64 0, .int .u64 0, .slice none 0 0, .slice none 0 0, .slice none 0 0] 109)).alloc (.cells (bcells (List.replicate 32 0)).toArray 5)).alloc (.cells (bcells (List.replicate 32 0)).toArray 5)).heap.size = w1.heap.size + 1 + 1 + 1 := by simp
          rw [hs_3] at f0_4
          have hb_4 := hb_3.alloc hb_3.size (.cells (bcells (List.replicate 32 0)).toArray 5)
          refine hK.out _ _ trivial (fun _ => ?_)
          clear hK K
          refine wpAnyH_take (i := 3) (oi := _) (v := ?_) rfl (by kernel_rfl) (by kernel_rfl) (by kernel_rfl) (fun _ _ _ h => h) (Or.inl ⟨by rfl, ?_⟩) trivial ?_
          rotate_left
          · intro W hSW
            try go_simp
            all_goals with_reducible rfl
          simp only [Act.put, List.setIfInBounds_toArray, List.set_cons_zero, List.set_cons_succ, List.getElem_toArray, List.getElem_cons_zero, List.getElem_cons_succ]
          refine wpAnyH_listed (L' := #[true, true, true, true, true, false]) (by kernel_rfl) ?_
          refine HN _ _ ⟨w1.heap.size + 1 + 1 + 1, w1.heap.size + 1 + 1, w1.heap.size + 1, w1.heap.size, by kernel_rfl, f0_4, f1_4, f2_4, f4_4, hb_4, hg4⟩
        exact AllReadyH.nil
      exact AllReadyH.nil
    exact AllReadyH.nil
  exact AllReadyH.nil
end Go.Proofs.YtpcoonnfaoakhaaGreatDoor
