/- Texts joined: CnnF. -/
import Derived.Test.YtmphegeiclgjbaaGreatDoorM16
import Derived.Test.YtmphegeiclgjbaaGreatDoorM14
namespace Go.Proofs.YtmphegeiclgjbaaGreatDoor
set_option maxRecDepth 100000
open Go Go.RowKit
set_option linter.unusedVariables false

def zR32 : List UInt8 := List.replicate 32 0
def fixHd : HdV := ⟨⟨#[116, 119, 111]⟩, 5, 50, zR32, zR32, zR32⟩
def sClient3 : ByteArray := ⟨#[99, 108, 105, 101, 110, 116, 45, 51]⟩
def sClient7 : ByteArray := ⟨#[99, 108, 105, 101, 110, 116, 45, 55]⟩
def sConn1 : ByteArray := ⟨#[99, 111, 110, 110, 45, 49]⟩
def sCl0 : ByteArray := ⟨#[99, 108, 105, 101, 110, 116, 45, 48]⟩
def sCo0 : ByteArray := ⟨#[99, 111, 110, 110, 45, 48]⟩
def fixC1 : List Pr := createR [] fixHd 9
def fixC2 : List Pr := madeCn fixC1 ⟨1, sCl0, sClient3, ⟨#[]⟩⟩
theorem fxC0 : numN [] sClient < 10 := by decide +kernel
theorem fxC1 : createE fixHd 9 50 = 0 := by decide +kernel
theorem fxC2 : newID [] sClient = sCl0 := by decide +kernel
theorem fxC3 : numN fixC1 sConn < 10 := by decide +kernel
theorem fxC4 : cnBeginE fixC1 sCl0 sClient3 = 0 := by decide +kernel
theorem fxC5 : newID fixC1 sConn = sCo0 := by decide +kernel
theorem fxC6 : cnBeginE fixC2 sClient7 sClient3 = 100 := by decide +kernel
theorem fxC7 : numN fixC2 sConn < 10 := by decide +kernel
theorem fxC8 : getCn fixC2 sCo0 = some ⟨1, sCl0, sClient3, ⟨#[]⟩⟩ := by kernel_rfl
theorem fxC9 : verifyE fixC2 sCl0 5 50 (kConn sConn1) (cnB ⟨2, sClient3, sCl0, sCo0⟩) ⟨0, []⟩ = 61 := by decide +kernel
theorem Tryz.cnF : ∃ f0 f1 f2 f3 : Field, (Tryz.prog.fieldsOf 78).toList = [f0, f1, f2, f3] ∧ f0.type = 29 ∧ f1.type = 9 ∧ f2.type = 9 ∧ f3.type = 9 ∧ f0.offset = 0 ∧ f1.offset = 1 ∧ f2.offset = 2 ∧ f3.offset = 3 :=
  ⟨_, _, _, _, (by rfl), rfl, rfl, rfl, rfl, rfl, rfl, rfl, rfl⟩
def CnV.cs (v : CnV) : Array Value := #[.int .u64 (v.st : Int), .string v.cl, .string v.cc, .string v.ct]
theorem cn_self (v : CnV) : ∀ f ∈ (Tryz.prog.fieldsOf 78).toList, SelfF v.cs f := by
  obtain ⟨f0, f1, f2, f3, hl, t0, t1, t2, t3, o0, o1, o2, o3⟩ := Tryz.cnF
  rw [hl]
  intro f hf
  simp only [List.mem_cons, List.not_mem_nil, or_false] at hf
  rcases hf with rfl | rfl | rfl | rfl
  · exact self_int (v.st : Int) (by rw [t0]; exact Tryz.underlying29) (fun w => by rw [t0, o0]; rfl)
  · exact self_str v.cl (by rw [t1]; exact Tryz.underlying9) (fun w => by rw [t1, o1]; rfl)
  · exact self_str v.cc (by rw [t2]; exact Tryz.underlying9) (fun w => by rw [t2, o2]; rfl)
  · exact self_str v.ct (by rw [t3]; exact Tryz.underlying9) (fun w => by rw [t3, o3]; rfl)
theorem eqIn_selfC {t : TypeId} {cs : Array Value} (ht : Tryz.prog.underlying t = some (.struct (Tryz.prog.fieldsOf t))) (hp : Tryz.prog.stoodInHeld t = false) (h : ∀ f ∈ (Tryz.prog.fieldsOf t).toList, SelfF cs f) (W : World) :
    (Op.equalIn 10000 t (.agg cs) (.agg cs)).run Tryz.prog W = .ok true W := by
  rw [run_equalIn_struct W 9999 t cs cs ht hp, eqFields_self h]
set_option maxHeartbeats 16000000 in
theorem cnfixed_any (w : World) (fr : TypeId × Nat × Nat) (hk : w.heap[0]? = some (.cells kVals fr.1 fr.2)) : Calls Tryz.prog 28 #[] w fun e w' => e = .returned (.bool true) ∧ Below w.heap.size w w' := by
  have HKT := Lib.hid (And.intro (blk_lt hk) hk)
  have HNW := Lib.hid (new_any w (.slice none 0 0) [] ⟨none, 0, rfl, Nat.le_refl _, Nat.zero_le _, fun h => absurd h (by simp)⟩ (by simp))
  clear hk
  go_enter Tryz.func28, Tryz.ntmps28
  go_wp2_with fail
  refine HNW.out.mono ?_
  rintro e w1 ⟨h1' | ⟨-, y, rfl, hyb, hym, hyn, hly, hri, hp1⟩, hb1⟩
  · exact absurd h1'.1 (by decide)
  have A1 := At.made hp1 hly hri (by simp)
  obtain ⟨yb, ym, yn, yf⟩ := y
  dsimp only at hym hyn ⊢
  have hyn' : yn = 0 := hyn
  subst hyn'
  have HA1 := Lib.hid A1
  have HB1 := Lib.hid (And.intro hb1 hym)
  clear HNW hyb hyn hly hri hp1 hb1 hym A1
  go_wp2_with fail
  have hmk := make32X
  refine wp_region_held_drew (S := fun _ => True) (by kernel_rfl) trivial (fun _ => ?_)
  refine wpAnyH_mid 1 #[true, true, true, true, true, false] (R := fun a0 w0 a' W => ∃ g0 g1 g2 gh, a' = (((((a0.put (some 18) (.slice (some ⟨g0, 0, none⟩) 32 32)).put (some 19) (.slice (some ⟨g1, 0, none⟩) 32 32)).put (some 20) (.slice (some ⟨g2, 0, none⟩) 32 32)).put (some 3) (.pointer (some ⟨gh, 0, none⟩))).put (some 21) (.agg #[.string ⟨#[116, 119, 111]⟩, .int .u64 5, .int .u64 50, .slice (some ⟨g0, 0, none⟩) 32 32, .slice (some ⟨g1, 0, none⟩) 32 32, .slice (some ⟨g2, 0, none⟩) 32 32])) ∧ Zr W g0 ∧ Zr W g1 ∧ Zr W g2 ∧ Sx 34 #[.string ⟨#[]⟩, .int .u64 0, .int .u64 0, .slice none 0 0, .slice none 0 0, .slice none 0 0] W gh ∧ Below w0.heap.size w0 W ∧ w0.heap.size ≤ gh) ?_ (fun HN => ?_)
  · rintro a' W0 ⟨g0, g1, g2, gh, rfl, f0, f1, f2, f4, hbr0, hg4⟩
    simp only [Act.put, List.setIfInBounds_toArray, List.set_cons_zero, List.set_cons_succ, List.getElem_toArray, List.getElem_cons_zero, List.getElem_cons_succ]
    refine wpAnyH_ready (rs := [5]) (by kernel_rfl) (by simp) ?_
    refine AllReadyH.cons rfl (fun K hK => ?_) AllReadyH.nil
    have r0 := blk_cell f4 0
    have q0 := blk_free f4 0
    have r1 := blk_cell f4 1
    have q1 := blk_free f4 1
    have r2 := blk_cell f4 2
    have q2 := blk_free f4 2
    have r3 := blk_cell f4 3
    have q3 := blk_free f4 3
    have r4 := blk_cell f4 4
    have q4 := blk_free f4 4
    have r5 := blk_cell f4 5
    have q5 := blk_free f4 5
    have e0 := Zr.ne f0 f4 rfl
    have e1 := Zr.ne f1 f4 rfl
    have e2 := Zr.ne f2 f4 rfl
    have HF := Lib.hid (And.intro (Zr.set6 f0 e0 (.string ⟨#[116, 119, 111]⟩) (.int .u64 5) (.int .u64 50) (.slice (some ⟨g0, 0, none⟩) 32 32) (.slice (some ⟨g1, 0, none⟩) 32 32) (.slice (some ⟨g2, 0, none⟩) 32 32)) (And.intro (Zr.set6 f1 e1 (.string ⟨#[116, 119, 111]⟩) (.int .u64 5) (.int .u64 50) (.slice (some ⟨g0, 0, none⟩) 32 32) (.slice (some ⟨g1, 0, none⟩) 32 32) (.slice (some ⟨g2, 0, none⟩) 32 32)) (And.intro (Zr.set6 f2 e2 (.string ⟨#[116, 119, 111]⟩) (.int .u64 5) (.int .u64 50) (.slice (some ⟨g0, 0, none⟩) 32 32) (.slice (some ⟨g1, 0, none⟩) 32 32) (.slice (some ⟨g2, 0, none⟩) 32 32)) (And.intro (set6P f4 (.string ⟨#[116, 119, 111]⟩) (.int .u64 5) (.int .u64 50) (.slice (some ⟨g0, 0, none⟩) 32 32) (.slice (some ⟨g1, 0, none⟩) 32 32) (.slice (some ⟨g2, 0, none⟩) 32 32)) (below_set6P hbr0 hg4 (.string ⟨#[116, 119, 111]⟩) (.int .u64 5) (.int .u64 50) (.slice (some ⟨g0, 0, none⟩) 32 32) (.slice (some ⟨g1, 0, none⟩) 32 32) (.slice (some ⟨g2, 0, none⟩) 32 32))))))
    clear e0 e1 e2 f0 f1 f2 f4 hbr0 hg4
    go_simp
    refine hK.out _ _ trivial (fun _ => ?_)
    clear hK K
    refine wpAnyH_done (by kernel_rfl) ?_ _
    obtain ⟨z0, z1, z2, zh0, hbr⟩ := HF.out
    have zh : Sx 34 #[.string ⟨#[116, 119, 111]⟩, .int .u64 5, .int .u64 50, .slice (some ⟨g0, 0, none⟩) 32 32, .slice (some ⟨g1, 0, none⟩) 32 32, .slice (some ⟨g2, 0, none⟩) 32 32] _ gh := zh0
    clear HF zh0 r0 r1 r2 r3 r4 r5 q0 q1 q2 q3 q4 q5
    generalize (((((W0.setCell ⟨gh, 0, none⟩ (.string ⟨#[116, 119, 111]⟩)).setCell ⟨gh, 1, none⟩ (.int .u64 5)).setCell ⟨gh, 2, none⟩ (.int .u64 50)).setCell ⟨gh, 3, none⟩ (.slice (some ⟨g0, 0, none⟩) 32 32)).setCell ⟨gh, 4, none⟩ (.slice (some ⟨g1, 0, none⟩) 32 32)).setCell ⟨gh, 5, none⟩ (.slice (some ⟨g2, 0, none⟩) 32 32) = W at *
    have A2 := (HA1.out.up (Below.drew (Below.refl _ _))).up hbr
    have HC := Lib.hid (clcreate_any A2 (show 0 + 0 + 3 ≤ maxLen by unfold maxLen; decide) fxC0 fixHd 9 50 (.slice (some ⟨g0, 0, none⟩) 32 32) (.slice (some ⟨g1, 0, none⟩) 32 32) (.slice (some ⟨g2, 0, none⟩) 32 32) z0.rd z1.rd z2.rd (by decide +kernel) (by show 5 < _; decide) (by show 50 < _; decide) (by decide))
    rw [fxC1, fxC2, if_pos rfl, if_pos rfl, show createR [] fixHd 9 = fixC1 from rfl] at HC
    have c0 := blk_cell zh 0
    have c1 := blk_cell zh 1
    have c2 := blk_cell zh 2
    have c3 := blk_cell zh 3
    have c4 := blk_cell zh 4
    have c5 := blk_cell zh 5
    clear HA1 A2 hbr z0 z1 z2 zh
    unfold fixHd at HC
    dsimp only at HC
    unfold sCl0 at HC
    go_wp2_with fail
    refine HC.out.mono ?_
    rintro e w3 ⟨rfl, A3, hk3⟩
    have HG3 := Lib.hid (cnbegin_any A3 (show 0 + (0 + 3) + 2 ≤ maxLen by unfold maxLen; decide) fxC3 sCl0 sClient3 (by decide +kernel) (by decide +kernel))
    rw [fxC4, fxC5, if_pos rfl, if_pos rfl, show madeCn fixC1 ⟨1, sCl0, sClient3, ⟨#[]⟩⟩ = fixC2 from rfl] at HG3
    clear HC c0 c1 c2 c3 c4 c5 A3 hk3
    unfold sCl0 sClient3 sCo0 at HG3
    go_wp2_with fail
    refine HG3.out.mono ?_
    rintro e w4 ⟨rfl, A4, -⟩
    have HG4 := Lib.hid (cnbegin_any A4 (show 0 + (0 + 3 + 2) + 2 ≤ maxLen by unfold maxLen; decide) fxC7 sClient7 sClient3 (by decide +kernel) (by decide +kernel))
    rw [fxC6, if_neg (by decide), if_neg (by decide)] at HG4
    clear HG3 A4
    unfold sClient7 sClient3 at HG4
    go_wp2_with fail
    refine HG4.out.mono ?_
    rintro e w5 ⟨rfl, A5, -⟩
    have HG5 := Lib.hid (cnget_any A5 sCo0 (by decide +kernel))
    rw [fxC8] at HG5
    unfold cnV CnV.val sCl0 sClient3 sCo0 at HG5
    dsimp only at HG5
    have HA5 := Lib.hid A5
    have hq1 := fun W => eql_self (by kernel_rfl) (by kernel_rfl) (cn_self ⟨1, sCl0, sClient3, ⟨#[]⟩⟩) W
    have hq2 := fun W => eqIn_selfC (by kernel_rfl) (by kernel_rfl) (cn_self ⟨1, sCl0, sClient3, ⟨#[]⟩⟩) W
    unfold CnV.cs sCl0 sClient3 at hq1 hq2
    dsimp only at hq1 hq2
    clear HG4 A5
    go_wp2_with fail
    refine HG5.out.mono ?_
    rintro e w6 ⟨rfl, hb6⟩
    have m6 := heap_alloc_new w6 (.cells #[.int .u64 1, .string ⟨#[99, 108, 105, 101, 110, 116, 45, 48]⟩, .string ⟨#[99, 108, 105, 101, 110, 116, 45, 51]⟩, .string ⟨#[]⟩] 78)
    have ha6 := hb6.alloc hb6.size (.cells #[.int .u64 1, .string ⟨#[99, 108, 105, 101, 110, 116, 45, 48]⟩, .string ⟨#[99, 108, 105, 101, 110, 116, 45, 51]⟩, .string ⟨#[]⟩] 78)
    have A6 := HA5.out.up ha6
    have d0 := blk_cell m6 0
    have d1 := blk_cell m6 1
    have d2 := blk_cell m6 2
    have d3 := blk_cell m6 3
    have hbw : Below w.heap.size w (w6.alloc (.cells #[.int .u64 1, .string ⟨#[99, 108, 105, 101, 110, 116, 45, 48]⟩, .string ⟨#[99, 108, 105, 101, 110, 116, 45, 51]⟩, .string ⟨#[]⟩] 78)) := HB1.out.1.trans (A6.below HB1.out.2 HB1.out.1.size)
    have HG7 := Lib.hid (cnack_no A6 sCo0 sConn1 (by decide +kernel) (by decide +kernel) ⟨1, sCl0, sClient3, ⟨#[]⟩⟩ fxC8 rfl (by decide +kernel) (by decide +kernel) (by decide +kernel) 5 50 (by decide) (by decide) 0 none 0 0 ⟨0, []⟩ (fun Z _ => ⟨.slice none 0 0, rfl, ⟨none, 0, rfl, by simp, by simp [maxLen], fun h => absurd h (by simp)⟩, by decide, by decide⟩) fr ((hbw.block _ HKT.out.1).trans HKT.out.2) 61 fxC9 (by decide))
    unfold sCo0 sConn1 at HG7
    have HA6 := Lib.hid A6
    clear HG5 HA5 A6 m6 ha6 hb6
    go_wp2_with fail
    refine HG7.out.mono ?_
    rintro e w7 ⟨rfl, hb7⟩
    have hq := hbw.trans (hb7.mono hbw.size)
    go_wp2_with fail
    go_ret
    exact ⟨rfl, hq⟩
  have hb_0 : Below w1.drew.heap.size w1.drew w1.drew := Below.refl _ _
  refine wpAnyH_ready (rs := [0, 1, 2, 4]) (by kernel_rfl) (by simp) ?_
  refine AllReadyH.cons rfl (fun K hK => ?_) ?_
  · go_simp
    have f0_1 := Zr.new (w1.drew)
    have hs_0 : (w1.drew).heap.size = w1.heap.size := by simp
    rw [hs_0] at f0_1
    have hb_1 := hb_0.alloc hb_0.size (.cells (bcells (List.replicate 32 0)).toArray 5)
    refine hK.out _ _ trivial (fun _ => ?_)
    clear hK K
    refine wpAnyH_ready (rs := [1, 2, 4]) (by kernel_rfl) (by simp) ?_
    refine AllReadyH.cons rfl (fun K hK => ?_) ?_
    · go_simp
      have f0_2 := Zr.alloc f0_1 (.cells (bcells (List.replicate 32 0)).toArray 5)
      have f1_2 := Zr.new ((w1.drew).alloc (.cells (bcells (List.replicate 32 0)).toArray 5))
      have hs_1 : ((w1.drew).alloc (.cells (bcells (List.replicate 32 0)).toArray 5)).heap.size = w1.heap.size + 1 := by simp
      rw [hs_1] at f1_2
      have hb_2 := hb_1.alloc hb_1.size (.cells (bcells (List.replicate 32 0)).toArray 5)
      refine hK.out _ _ trivial (fun _ => ?_)
      clear hK K
      refine wpAnyH_ready (rs := [2, 4]) (by kernel_rfl) (by simp) ?_
      refine AllReadyH.cons rfl (fun K hK => ?_) ?_
      · go_simp
        have f0_3 := Zr.alloc f0_2 (.cells (bcells (List.replicate 32 0)).toArray 5)
        have f1_3 := Zr.alloc f1_2 (.cells (bcells (List.replicate 32 0)).toArray 5)
        have f2_3 := Zr.new (((w1.drew).alloc (.cells (bcells (List.replicate 32 0)).toArray 5)).alloc (.cells (bcells (List.replicate 32 0)).toArray 5))
        have hs_2 : (((w1.drew).alloc (.cells (bcells (List.replicate 32 0)).toArray 5)).alloc (.cells (bcells (List.replicate 32 0)).toArray 5)).heap.size = w1.heap.size + 1 + 1 := by simp
        rw [hs_2] at f2_3
        have hb_3 := hb_2.alloc hb_2.size (.cells (bcells (List.replicate 32 0)).toArray 5)
        refine hK.out _ _ trivial (fun _ => ?_)
        clear hK K
        refine wpAnyH_take (i := 3) (oi := _) (v := ?_) rfl (by kernel_rfl) (by kernel_rfl) (by kernel_rfl) (fun _ _ _ h => h) (Or.inl ⟨by rfl, ?_⟩) trivial ?_
        rotate_left
        · intro W hSW
          try go_simp
          all_goals with_reducible rfl
        simp only [Act.put, List.setIfInBounds_toArray, List.set_cons_zero, List.set_cons_succ, List.getElem_toArray, List.getElem_cons_zero, List.getElem_cons_succ]
        refine wpAnyH_ready (rs := [4]) (by kernel_rfl) (by simp) ?_
        refine AllReadyH.cons rfl (fun K hK => ?_) ?_
        · go_simp
          have f0_4 := Zr.alloc f0_3 (.cells #[.string ⟨#[]⟩, .int .u64 0, .int .u64 0, .slice none 0 0, .slice none 0 0, .slice none 0 0] 34)
          have f1_4 := Zr.alloc f1_3 (.cells #[.string ⟨#[]⟩, .int .u64 0, .int .u64 0, .slice none 0 0, .slice none 0 0, .slice none 0 0] 34)
          have f2_4 := Zr.alloc f2_3 (.cells #[.string ⟨#[]⟩, .int .u64 0, .int .u64 0, .slice none 0 0, .slice none 0 0, .slice none 0 0] 34)
          have f4_4 : Sx 34 #[.string ⟨#[]⟩, .int .u64 0, .int .u64 0, .slice none 0 0, .slice none 0 0, .slice none 0 0] (((((w1.drew).alloc (.cells (bcells (List.replicate 32 0)).toArray 5)).alloc (.cells (bcells (List.replicate 32 0)).toArray 5)).alloc (.cells (bcells (List.replicate 32 0)).toArray 5)).alloc (.cells #[.string ⟨#[]⟩, .int .u64 0, .int .u64 0, .slice none 0 0, .slice none 0 0, .slice none 0 0] 34)) ((((w1.drew).alloc (.cells (bcells (List.replicate 32 0)).toArray 5)).alloc (.cells (bcells (List.replicate 32 0)).toArray 5)).alloc (.cells (bcells (List.replicate 32 0)).toArray 5)).heap.size := heap_alloc_new ((((w1.drew).alloc (.cells (bcells (List.replicate 32 0)).toArray 5)).alloc (.cells (bcells (List.replicate 32 0)).toArray 5)).alloc (.cells (bcells (List.replicate 32 0)).toArray 5)) _
          have hs_3 : ((((w1.drew).alloc (.cells (bcells (List.replicate 32 0)).toArray 5)).alloc (.cells (bcells (List.replicate 32 0)).toArray 5)).alloc (.cells (bcells (List.replicate 32 0)).toArray 5)).heap.size = w1.heap.size + 1 + 1 + 1 := by simp
          rw [hs_3] at f4_4
          have hb_4 := hb_3.alloc hb_3.size (.cells #[.string ⟨#[]⟩, .int .u64 0, .int .u64 0, .slice none 0 0, .slice none 0 0, .slice none 0 0] 34)
          have hg4 := hb_3.size
          rw [hs_3] at hg4
          refine hK.out _ _ trivial (fun _ => ?_)
          clear hK K
          refine wpAnyH_listed (L' := #[true, true, true, true, true, false]) (by kernel_rfl) ?_
          refine HN _ _ ⟨w1.heap.size, w1.heap.size + 1, w1.heap.size + 1 + 1, w1.heap.size + 1 + 1 + 1, by kernel_rfl, f0_4, f1_4, f2_4, f4_4, hb_4, hg4⟩
        exact AllReadyH.nil
      refine AllReadyH.cons rfl (fun K hK => ?_) ?_
      · go_simp
        have f0_3 := Zr.alloc f0_2 (.cells #[.string ⟨#[]⟩, .int .u64 0, .int .u64 0, .slice none 0 0, .slice none 0 0, .slice none 0 0] 34)
        have f1_3 := Zr.alloc f1_2 (.cells #[.string ⟨#[]⟩, .int .u64 0, .int .u64 0, .slice none 0 0, .slice none 0 0, .slice none 0 0] 34)
        have f4_3 : Sx 34 #[.string ⟨#[]⟩, .int .u64 0, .int .u64 0, .slice none 0 0, .slice none 0 0, .slice none 0 0] ((((w1.drew).alloc (.cells (bcells (List.replicate 32 0)).toArray 5)).alloc (.cells (bcells (List.replicate 32 0)).toArray 5)).alloc (.cells #[.string ⟨#[]⟩, .int .u64 0, .int .u64 0, .slice none 0 0, .slice none 0 0, .slice none 0 0] 34)) (((w1.drew).alloc (.cells (bcells (List.replicate 32 0)).toArray 5)).alloc (.cells (bcells (List.replicate 32 0)).toArray 5)).heap.size := heap_alloc_new (((w1.drew).alloc (.cells (bcells (List.replicate 32 0)).toArray 5)).alloc (.cells (bcells (List.replicate 32 0)).toArray 5)) _
        have hs_2 : (((w1.drew).alloc (.cells (bcells (List.replicate 32 0)).toArray 5)).alloc (.cells (bcells (List.replicate 32 0)).toArray 5)).heap.size = w1.heap.size + 1 + 1 := by simp
        rw [hs_2] at f4_3
        have hb_3 := hb_2.alloc hb_2.size (.cells #[.string ⟨#[]⟩, .int .u64 0, .int .u64 0, .slice none 0 0, .slice none 0 0, .slice none 0 0] 34)
        have hg4 := hb_2.size
        rw [hs_2] at hg4
        refine hK.out _ _ trivial (fun _ => ?_)
        clear hK K
        refine wpAnyH_ready (rs := [2]) (by kernel_rfl) (by simp) ?_
        refine AllReadyH.cons rfl (fun K hK => ?_) ?_
        · go_simp
          have f0_4 := Zr.alloc f0_3 (.cells (bcells (List.replicate 32 0)).toArray 5)
          have f1_4 := Zr.alloc f1_3 (.cells (bcells (List.replicate 32 0)).toArray 5)
          have f4_4 := Sx.alloc f4_3 (.cells (bcells (List.replicate 32 0)).toArray 5)
          have f2_4 := Zr.new ((((w1.drew).alloc (.cells (bcells (List.replicate 32 0)).toArray 5)).alloc (.cells (bcells (List.replicate 32 0)).toArray 5)).alloc (.cells #[.string ⟨#[]⟩, .int .u64 0, .int .u64 0, .slice none 0 0, .slice none 0 0, .slice none 0 0] 34))
          have hs_3 : ((((w1.drew).alloc (.cells (bcells (List.replicate 32 0)).toArray 5)).alloc (.cells (bcells (List.replicate 32 0)).toArray 5)).alloc (.cells #[.string ⟨#[]⟩, .int .u64 0, .int .u64 0, .slice none 0 0, .slice none 0 0, .slice none 0 0] 34)).heap.size = w1.heap.size + 1 + 1 + 1 := by simp
          rw [hs_3] at f2_4
          have hb_4 := hb_3.alloc hb_3.size (.cells (bcells (List.replicate 32 0)).toArray 5)
          refine hK.out _ _ trivial (fun _ => ?_)
          clear hK K
          refine wpAnyH_take (i := 3) (oi := _) (v := ?_) rfl (by kernel_rfl) (by kernel_rfl) (by kernel_rfl) (fun _ _ _ h => h) (Or.inl ⟨by rfl, ?_⟩) trivial ?_
          rotate_left
          · intro W hSW
            try go_simp
            all_goals with_reducible rfl
          simp only [Act.put, List.setIfInBounds_toArray, List.set_cons_zero, List.set_cons_succ, List.getElem_toArray, List.getElem_cons_zero, List.getElem_cons_succ]
          refine wpAnyH_listed (L' := #[true, true, true, true, true, false]) (by kernel_rfl) ?_
          refine HN _ _ ⟨w1.heap.size, w1.heap.size + 1, w1.heap.size + 1 + 1 + 1, w1.heap.size + 1 + 1, by kernel_rfl, f0_4, f1_4, f2_4, f4_4, hb_4, hg4⟩
        exact AllReadyH.nil
      exact AllReadyH.nil
    refine AllReadyH.cons rfl (fun K hK => ?_) ?_
    · go_simp
      have f0_2 := Zr.alloc f0_1 (.cells (bcells (List.replicate 32 0)).toArray 5)
      have f2_2 := Zr.new ((w1.drew).alloc (.cells (bcells (List.replicate 32 0)).toArray 5))
      have hs_1 : ((w1.drew).alloc (.cells (bcells (List.replicate 32 0)).toArray 5)).heap.size = w1.heap.size + 1 := by simp
      rw [hs_1] at f2_2
      have hb_2 := hb_1.alloc hb_1.size (.cells (bcells (List.replicate 32 0)).toArray 5)
      refine hK.out _ _ trivial (fun _ => ?_)
      clear hK K
      refine wpAnyH_ready (rs := [1, 4]) (by kernel_rfl) (by simp) ?_
      refine AllReadyH.cons rfl (fun K hK => ?_) ?_
      · go_simp
        have f0_3 := Zr.alloc f0_2 (.cells (bcells (List.replicate 32 0)).toArray 5)
        have f2_3 := Zr.alloc f2_2 (.cells (bcells (List.replicate 32 0)).toArray 5)
        have f1_3 := Zr.new (((w1.drew).alloc (.cells (bcells (List.replicate 32 0)).toArray 5)).alloc (.cells (bcells (List.replicate 32 0)).toArray 5))
        have hs_2 : (((w1.drew).alloc (.cells (bcells (List.replicate 32 0)).toArray 5)).alloc (.cells (bcells (List.replicate 32 0)).toArray 5)).heap.size = w1.heap.size + 1 + 1 := by simp
        rw [hs_2] at f1_3
        have hb_3 := hb_2.alloc hb_2.size (.cells (bcells (List.replicate 32 0)).toArray 5)
        refine hK.out _ _ trivial (fun _ => ?_)
        clear hK K
        refine wpAnyH_take (i := 3) (oi := _) (v := ?_) rfl (by kernel_rfl) (by kernel_rfl) (by kernel_rfl) (fun _ _ _ h => h) (Or.inl ⟨by rfl, ?_⟩) trivial ?_
        rotate_left
        · intro W hSW
          try go_simp
          all_goals with_reducible rfl
        simp only [Act.put, List.setIfInBounds_toArray, List.set_cons_zero, List.set_cons_succ, List.getElem_toArray, List.getElem_cons_zero, List.getElem_cons_succ]
        refine wpAnyH_ready (rs := [4]) (by kernel_rfl) (by simp) ?_
        refine AllReadyH.cons rfl (fun K hK => ?_) ?_
        · go_simp
          have f0_4 := Zr.alloc f0_3 (.cells #[.string ⟨#[]⟩, .int .u64 0, .int .u64 0, .slice none 0 0, .slice none 0 0, .slice none 0 0] 34)
          have f2_4 := Zr.alloc f2_3 (.cells #[.string ⟨#[]⟩, .int .u64 0, .int .u64 0, .slice none 0 0, .slice none 0 0, .slice none 0 0] 34)
          have f1_4 := Zr.alloc f1_3 (.cells #[.string ⟨#[]⟩, .int .u64 0, .int .u64 0, .slice none 0 0, .slice none 0 0, .slice none 0 0] 34)
          have f4_4 : Sx 34 #[.string ⟨#[]⟩, .int .u64 0, .int .u64 0, .slice none 0 0, .slice none 0 0, .slice none 0 0] (((((w1.drew).alloc (.cells (bcells (List.replicate 32 0)).toArray 5)).alloc (.cells (bcells (List.replicate 32 0)).toArray 5)).alloc (.cells (bcells (List.replicate 32 0)).toArray 5)).alloc (.cells #[.string ⟨#[]⟩, .int .u64 0, .int .u64 0, .slice none 0 0, .slice none 0 0, .slice none 0 0] 34)) ((((w1.drew).alloc (.cells (bcells (List.replicate 32 0)).toArray 5)).alloc (.cells (bcells (List.replicate 32 0)).toArray 5)).alloc (.cells (bcells (List.replicate 32 0)).toArray 5)).heap.size := heap_alloc_new ((((w1.drew).alloc (.cells (bcells (List.replicate 32 0)).toArray 5)).alloc (.cells (bcells (List.replicate 32 0)).toArray 5)).alloc (.cells (bcells (List.replicate 32 0)).toArray 5)) _
          have hs_3 : ((((w1.drew).alloc (.cells (bcells (List.replicate 32 0)).toArray 5)).alloc (.cells (bcells (List.replicate 32 0)).toArray 5)).alloc (.cells (bcells (List.replicate 32 0)).toArray 5)).heap.size = w1.heap.size + 1 + 1 + 1 := by simp
          rw [hs_3] at f4_4
          have hb_4 := hb_3.alloc hb_3.size (.cells #[.string ⟨#[]⟩, .int .u64 0, .int .u64 0, .slice none 0 0, .slice none 0 0, .slice none 0 0] 34)
          have hg4 := hb_3.size
          rw [hs_3] at hg4
          refine hK.out _ _ trivial (fun _ => ?_)
          clear hK K
          refine wpAnyH_listed (L' := #[true, true, true, true, true, false]) (by kernel_rfl) ?_
          refine HN _ _ ⟨w1.heap.size, w1.heap.size + 1 + 1, w1.heap.size + 1, w1.heap.size + 1 + 1 + 1, by kernel_rfl, f0_4, f1_4, f2_4, f4_4, hb_4, hg4⟩
        exact AllReadyH.nil
      refine AllReadyH.cons rfl (fun K hK => ?_) ?_
      · go_simp
        have f0_3 := Zr.alloc f0_2 (.cells #[.string ⟨#[]⟩, .int .u64 0, .int .u64 0, .slice none 0 0, .slice none 0 0, .slice none 0 0] 34)
        have f2_3 := Zr.alloc f2_2 (.cells #[.string ⟨#[]⟩, .int .u64 0, .int .u64 0, .slice none 0 0, .slice none 0 0, .slice none 0 0] 34)
        have f4_3 : Sx 34 #[.string ⟨#[]⟩, .int .u64 0, .int .u64 0, .slice none 0 0, .slice none 0 0, .slice none 0 0] ((((w1.drew).alloc (.cells (bcells (List.replicate 32 0)).toArray 5)).alloc (.cells (bcells (List.replicate 32 0)).toArray 5)).alloc (.cells #[.string ⟨#[]⟩, .int .u64 0, .int .u64 0, .slice none 0 0, .slice none 0 0, .slice none 0 0] 34)) (((w1.drew).alloc (.cells (bcells (List.replicate 32 0)).toArray 5)).alloc (.cells (bcells (List.replicate 32 0)).toArray 5)).heap.size := heap_alloc_new (((w1.drew).alloc (.cells (bcells (List.replicate 32 0)).toArray 5)).alloc (.cells (bcells (List.replicate 32 0)).toArray 5)) _
        have hs_2 : (((w1.drew).alloc (.cells (bcells (List.replicate 32 0)).toArray 5)).alloc (.cells (bcells (List.replicate 32 0)).toArray 5)).heap.size = w1.heap.size + 1 + 1 := by simp
        rw [hs_2] at f4_3
        have hb_3 := hb_2.alloc hb_2.size (.cells #[.string ⟨#[]⟩, .int .u64 0, .int .u64 0, .slice none 0 0, .slice none 0 0, .slice none 0 0] 34)
        have hg4 := hb_2.size
        rw [hs_2] at hg4
        refine hK.out _ _ trivial (fun _ => ?_)
        clear hK K
        refine wpAnyH_ready (rs := [1]) (by kernel_rfl) (by simp) ?_
        refine AllReadyH.cons rfl (fun K hK => ?_) ?_
        · go_simp
          have f0_4 := Zr.alloc f0_3 (.cells (bcells (List.replicate 32 0)).toArray 5)
          have f2_4 := Zr.alloc f2_3 (.cells (bcells (List.replicate 32 0)).toArray 5)
          have f4_4 := Sx.alloc f4_3 (.cells (bcells (List.replicate 32 0)).toArray 5)
          have f1_4 := Zr.new ((((w1.drew).alloc (.cells (bcells (List.replicate 32 0)).toArray 5)).alloc (.cells (bcells (List.replicate 32 0)).toArray 5)).alloc (.cells #[.string ⟨#[]⟩, .int .u64 0, .int .u64 0, .slice none 0 0, .slice none 0 0, .slice none 0 0] 34))
          have hs_3 : ((((w1.drew).alloc (.cells (bcells (List.replicate 32 0)).toArray 5)).alloc (.cells (bcells (List.replicate 32 0)).toArray 5)).alloc (.cells #[.string ⟨#[]⟩, .int .u64 0, .int .u64 0, .slice none 0 0, .slice none 0 0, .slice none 0 0] 34)).heap.size = w1.heap.size + 1 + 1 + 1 := by simp
          rw [hs_3] at f1_4
          have hb_4 := hb_3.alloc hb_3.size (.cells (bcells (List.replicate 32 0)).toArray 5)
          refine hK.out _ _ trivial (fun _ => ?_)
          clear hK K
          refine wpAnyH_take (i := 3) (oi := _) (v := ?_) rfl (by kernel_rfl) (by kernel_rfl) (by kernel_rfl) (fun _ _ _ h => h) (Or.inl ⟨by rfl, ?_⟩) trivial ?_
          rotate_left
          · intro W hSW
            try go_simp
            all_goals with_reducible rfl
          simp only [Act.put, List.setIfInBounds_toArray, List.set_cons_zero, List.set_cons_succ, List.getElem_toArray, List.getElem_cons_zero, List.getElem_cons_succ]
          refine wpAnyH_listed (L' := #[true, true, true, true, true, false]) (by kernel_rfl) ?_
          refine HN _ _ ⟨w1.heap.size, w1.heap.size + 1 + 1 + 1, w1.heap.size + 1, w1.heap.size + 1 + 1, by kernel_rfl, f0_4, f1_4, f2_4, f4_4, hb_4, hg4⟩
        exact AllReadyH.nil
      exact AllReadyH.nil
    refine AllReadyH.cons rfl (fun K hK => ?_) ?_
    · go_simp
      have f0_2 := Zr.alloc f0_1 (.cells #[.string ⟨#[]⟩, .int .u64 0, .int .u64 0, .slice none 0 0, .slice none 0 0, .slice none 0 0] 34)
      have f4_2 : Sx 34 #[.string ⟨#[]⟩, .int .u64 0, .int .u64 0, .slice none 0 0, .slice none 0 0, .slice none 0 0] (((w1.drew).alloc (.cells (bcells (List.replicate 32 0)).toArray 5)).alloc (.cells #[.string ⟨#[]⟩, .int .u64 0, .int .u64 0, .slice none 0 0, .slice none 0 0, .slice none 0 0] 34)) ((w1.drew).alloc (.cells (bcells (List.replicate 32 0)).toArray 5)).heap.size := heap_alloc_new ((w1.drew).alloc (.cells (bcells (List.replicate 32 0)).toArray 5)) _
      have hs_1 : ((w1.drew).alloc (.cells (bcells (List.replicate 32 0)).toArray 5)).heap.size = w1.heap.size + 1 := by simp
      rw [hs_1] at f4_2
      have hb_2 := hb_1.alloc hb_1.size (.cells #[.string ⟨#[]⟩, .int .u64 0, .int .u64 0, .slice none 0 0, .slice none 0 0, .slice none 0 0] 34)
      have hg4 := hb_1.size
      rw [hs_1] at hg4
      refine hK.out _ _ trivial (fun _ => ?_)
      clear hK K
      refine wpAnyH_ready (rs := [1, 2]) (by kernel_rfl) (by simp) ?_
      refine AllReadyH.cons rfl (fun K hK => ?_) ?_
      · go_simp
        have f0_3 := Zr.alloc f0_2 (.cells (bcells (List.replicate 32 0)).toArray 5)
        have f4_3 := Sx.alloc f4_2 (.cells (bcells (List.replicate 32 0)).toArray 5)
        have f1_3 := Zr.new (((w1.drew).alloc (.cells (bcells (List.replicate 32 0)).toArray 5)).alloc (.cells #[.string ⟨#[]⟩, .int .u64 0, .int .u64 0, .slice none 0 0, .slice none 0 0, .slice none 0 0] 34))
        have hs_2 : (((w1.drew).alloc (.cells (bcells (List.replicate 32 0)).toArray 5)).alloc (.cells #[.string ⟨#[]⟩, .int .u64 0, .int .u64 0, .slice none 0 0, .slice none 0 0, .slice none 0 0] 34)).heap.size = w1.heap.size + 1 + 1 := by simp
        rw [hs_2] at f1_3
        have hb_3 := hb_2.alloc hb_2.size (.cells (bcells (List.replicate 32 0)).toArray 5)
        refine hK.out _ _ trivial (fun _ => ?_)
        clear hK K
        refine wpAnyH_ready (rs := [2]) (by kernel_rfl) (by simp) ?_
        refine AllReadyH.cons rfl (fun K hK => ?_) ?_
        · go_simp
          have f0_4 := Zr.alloc f0_3 (.cells (bcells (List.replicate 32 0)).toArray 5)
          have f4_4 := Sx.alloc f4_3 (.cells (bcells (List.replicate 32 0)).toArray 5)
          have f1_4 := Zr.alloc f1_3 (.cells (bcells (List.replicate 32 0)).toArray 5)
          have f2_4 := Zr.new ((((w1.drew).alloc (.cells (bcells (List.replicate 32 0)).toArray 5)).alloc (.cells #[.string ⟨#[]⟩, .int .u64 0, .int .u64 0, .slice none 0 0, .slice none 0 0, .slice none 0 0] 34)).alloc (.cells (bcells (List.replicate 32 0)).toArray 5))
          have hs_3 : ((((w1.drew).alloc (.cells (bcells (List.replicate 32 0)).toArray 5)).alloc (.cells #[.string ⟨#[]⟩, .int .u64 0, .int .u64 0, .slice none 0 0, .slice none 0 0, .slice none 0 0] 34)).alloc (.cells (bcells (List.replicate 32 0)).toArray 5)).heap.size = w1.heap.size + 1 + 1 + 1 := by simp
          rw [hs_3] at f2_4
          have hb_4 := hb_3.alloc hb_3.size (.cells (bcells (List.replicate 32 0)).toArray 5)
          refine hK.out _ _ trivial (fun _ => ?_)
          clear hK K
          refine wpAnyH_take (i := 3) (oi := _) (v := ?_) rfl (by kernel_rfl) (by kernel_rfl) (by kernel_rfl) (fun _ _ _ h => h) (Or.inl ⟨by rfl, ?_⟩) trivial ?_
          rotate_left
          · intro W hSW
            try go_simp
            all_goals with_reducible rfl
          simp only [Act.put, List.setIfInBounds_toArray, List.set_cons_zero, List.set_cons_succ, List.getElem_toArray, List.getElem_cons_zero, List.getElem_cons_succ]
          refine wpAnyH_listed (L' := #[true, true, true, true, true, false]) (by kernel_rfl) ?_
          refine HN _ _ ⟨w1.heap.size, w1.heap.size + 1 + 1, w1.heap.size + 1 + 1 + 1, w1.heap.size + 1, by kernel_rfl, f0_4, f1_4, f2_4, f4_4, hb_4, hg4⟩
        exact AllReadyH.nil
      refine AllReadyH.cons rfl (fun K hK => ?_) ?_
      · go_simp
        have f0_3 := Zr.alloc f0_2 (.cells (bcells (List.replicate 32 0)).toArray 5)
        have f4_3 := Sx.alloc f4_2 (.cells (bcells (List.replicate 32 0)).toArray 5)
        have f2_3 := Zr.new (((w1.drew).alloc (.cells (bcells (List.replicate 32 0)).toArray 5)).alloc (.cells #[.string ⟨#[]⟩, .int .u64 0, .int .u64 0, .slice none 0 0, .slice none 0 0, .slice none 0 0] 34))
        have hs_2 : (((w1.drew).alloc (.cells (bcells (List.replicate 32 0)).toArray 5)).alloc (.cells #[.string ⟨#[]⟩, .int .u64 0, .int .u64 0, .slice none 0 0, .slice none 0 0, .slice none 0 0] 34)).heap.size = w1.heap.size + 1 + 1 := by simp
        rw [hs_2] at f2_3
        have hb_3 := hb_2.alloc hb_2.size (.cells (bcells (List.replicate 32 0)).toArray 5)
        refine hK.out _ _ trivial (fun _ => ?_)
        clear hK K
        refine wpAnyH_ready (rs := [1]) (by kernel_rfl) (by simp) ?_
        refine AllReadyH.cons rfl (fun K hK => ?_) ?_
        · go_simp
          have f0_4 := Zr.alloc f0_3 (.cells (bcells (List.replicate 32 0)).toArray 5)
          have f4_4 := Sx.alloc f4_3 (.cells (bcells (List.replicate 32 0)).toArray 5)
          have f2_4 := Zr.alloc f2_3 (.cells (bcells (List.replicate 32 0)).toArray 5)
          have f1_4 := Zr.new ((((w1.drew).alloc (.cells (bcells (List.replicate 32 0)).toArray 5)).alloc (.cells #[.string ⟨#[]⟩, .int .u64 0, .int .u64 0, .slice none 0 0, .slice none 0 0, .slice none 0 0] 34)).alloc (.cells (bcells (List.replicate 32 0)).toArray 5))
          have hs_3 : ((((w1.drew).alloc (.cells (bcells (List.replicate 32 0)).toArray 5)).alloc (.cells #[.string ⟨#[]⟩, .int .u64 0, .int .u64 0, .slice none 0 0, .slice none 0 0, .slice none 0 0] 34)).alloc (.cells (bcells (List.replicate 32 0)).toArray 5)).heap.size = w1.heap.size + 1 + 1 + 1 := by simp
          rw [hs_3] at f1_4
          have hb_4 := hb_3.alloc hb_3.size (.cells (bcells (List.replicate 32 0)).toArray 5)
          refine hK.out _ _ trivial (fun _ => ?_)
          clear hK K
          refine wpAnyH_take (i := 3) (oi := _) (v := ?_) rfl (by kernel_rfl) (by kernel_rfl) (by kernel_rfl) (fun _ _ _ h => h) (Or.inl ⟨by rfl, ?_⟩) trivial ?_
          rotate_left
          · intro W hSW
            try go_simp
            all_goals with_reducible rfl
          simp only [Act.put, List.setIfInBounds_toArray, List.set_cons_zero, List.set_cons_succ, List.getElem_toArray, List.getElem_cons_zero, List.getElem_cons_succ]
          refine wpAnyH_listed (L' := #[true, true, true, true, true, false]) (by kernel_rfl) ?_
          refine HN _ _ ⟨w1.heap.size, w1.heap.size + 1 + 1 + 1, w1.heap.size + 1 + 1, w1.heap.size + 1, by kernel_rfl, f0_4, f1_4, f2_4, f4_4, hb_4, hg4⟩
        exact AllReadyH.nil
      exact AllReadyH.nil
    exact AllReadyH.nil
  refine AllReadyH.cons rfl (fun K hK => ?_) ?_
  · go_simp
    have f1_1 := Zr.new (w1.drew)
    have hs_0 : (w1.drew).heap.size = w1.heap.size := by simp
    rw [hs_0] at f1_1
    have hb_1 := hb_0.alloc hb_0.size (.cells (bcells (List.replicate 32 0)).toArray 5)
    refine hK.out _ _ trivial (fun _ => ?_)
    clear hK K
    refine wpAnyH_ready (rs := [0, 2, 4]) (by kernel_rfl) (by simp) ?_
    refine AllReadyH.cons rfl (fun K hK => ?_) ?_
    · go_simp
      have f1_2 := Zr.alloc f1_1 (.cells (bcells (List.replicate 32 0)).toArray 5)
      have f0_2 := Zr.new ((w1.drew).alloc (.cells (bcells (List.replicate 32 0)).toArray 5))
      have hs_1 : ((w1.drew).alloc (.cells (bcells (List.replicate 32 0)).toArray 5)).heap.size = w1.heap.size + 1 := by simp
      rw [hs_1] at f0_2
      have hb_2 := hb_1.alloc hb_1.size (.cells (bcells (List.replicate 32 0)).toArray 5)
      refine hK.out _ _ trivial (fun _ => ?_)
      clear hK K
      refine wpAnyH_ready (rs := [2, 4]) (by kernel_rfl) (by simp) ?_
      refine AllReadyH.cons rfl (fun K hK => ?_) ?_
      · go_simp
        have f1_3 := Zr.alloc f1_2 (.cells (bcells (List.replicate 32 0)).toArray 5)
        have f0_3 := Zr.alloc f0_2 (.cells (bcells (List.replicate 32 0)).toArray 5)
        have f2_3 := Zr.new (((w1.drew).alloc (.cells (bcells (List.replicate 32 0)).toArray 5)).alloc (.cells (bcells (List.replicate 32 0)).toArray 5))
        have hs_2 : (((w1.drew).alloc (.cells (bcells (List.replicate 32 0)).toArray 5)).alloc (.cells (bcells (List.replicate 32 0)).toArray 5)).heap.size = w1.heap.size + 1 + 1 := by simp
        rw [hs_2] at f2_3
        have hb_3 := hb_2.alloc hb_2.size (.cells (bcells (List.replicate 32 0)).toArray 5)
        refine hK.out _ _ trivial (fun _ => ?_)
        clear hK K
        refine wpAnyH_take (i := 3) (oi := _) (v := ?_) rfl (by kernel_rfl) (by kernel_rfl) (by kernel_rfl) (fun _ _ _ h => h) (Or.inl ⟨by rfl, ?_⟩) trivial ?_
        rotate_left
        · intro W hSW
          try go_simp
          all_goals with_reducible rfl
        simp only [Act.put, List.setIfInBounds_toArray, List.set_cons_zero, List.set_cons_succ, List.getElem_toArray, List.getElem_cons_zero, List.getElem_cons_succ]
        refine wpAnyH_ready (rs := [4]) (by kernel_rfl) (by simp) ?_
        refine AllReadyH.cons rfl (fun K hK => ?_) ?_
        · go_simp
          have f1_4 := Zr.alloc f1_3 (.cells #[.string ⟨#[]⟩, .int .u64 0, .int .u64 0, .slice none 0 0, .slice none 0 0, .slice none 0 0] 34)
          have f0_4 := Zr.alloc f0_3 (.cells #[.string ⟨#[]⟩, .int .u64 0, .int .u64 0, .slice none 0 0, .slice none 0 0, .slice none 0 0] 34)
          have f2_4 := Zr.alloc f2_3 (.cells #[.string ⟨#[]⟩, .int .u64 0, .int .u64 0, .slice none 0 0, .slice none 0 0, .slice none 0 0] 34)
          have f4_4 : Sx 34 #[.string ⟨#[]⟩, .int .u64 0, .int .u64 0, .slice none 0 0, .slice none 0 0, .slice none 0 0] (((((w1.drew).alloc (.cells (bcells (List.replicate 32 0)).toArray 5)).alloc (.cells (bcells (List.replicate 32 0)).toArray 5)).alloc (.cells (bcells (List.replicate 32 0)).toArray 5)).alloc (.cells #[.string ⟨#[]⟩, .int .u64 0, .int .u64 0, .slice none 0 0, .slice none 0 0, .slice none 0 0] 34)) ((((w1.drew).alloc (.cells (bcells (List.replicate 32 0)).toArray 5)).alloc (.cells (bcells (List.replicate 32 0)).toArray 5)).alloc (.cells (bcells (List.replicate 32 0)).toArray 5)).heap.size := heap_alloc_new ((((w1.drew).alloc (.cells (bcells (List.replicate 32 0)).toArray 5)).alloc (.cells (bcells (List.replicate 32 0)).toArray 5)).alloc (.cells (bcells (List.replicate 32 0)).toArray 5)) _
          have hs_3 : ((((w1.drew).alloc (.cells (bcells (List.replicate 32 0)).toArray 5)).alloc (.cells (bcells (List.replicate 32 0)).toArray 5)).alloc (.cells (bcells (List.replicate 32 0)).toArray 5)).heap.size = w1.heap.size + 1 + 1 + 1 := by simp
          rw [hs_3] at f4_4
          have hb_4 := hb_3.alloc hb_3.size (.cells #[.string ⟨#[]⟩, .int .u64 0, .int .u64 0, .slice none 0 0, .slice none 0 0, .slice none 0 0] 34)
          have hg4 := hb_3.size
          rw [hs_3] at hg4
          refine hK.out _ _ trivial (fun _ => ?_)
          clear hK K
          refine wpAnyH_listed (L' := #[true, true, true, true, true, false]) (by kernel_rfl) ?_
          refine HN _ _ ⟨w1.heap.size + 1, w1.heap.size, w1.heap.size + 1 + 1, w1.heap.size + 1 + 1 + 1, by kernel_rfl, f0_4, f1_4, f2_4, f4_4, hb_4, hg4⟩
        exact AllReadyH.nil
      refine AllReadyH.cons rfl (fun K hK => ?_) ?_
      · go_simp
        have f1_3 := Zr.alloc f1_2 (.cells #[.string ⟨#[]⟩, .int .u64 0, .int .u64 0, .slice none 0 0, .slice none 0 0, .slice none 0 0] 34)
        have f0_3 := Zr.alloc f0_2 (.cells #[.string ⟨#[]⟩, .int .u64 0, .int .u64 0, .slice none 0 0, .slice none 0 0, .slice none 0 0] 34)
        have f4_3 : Sx 34 #[.string ⟨#[]⟩, .int .u64 0, .int .u64 0, .slice none 0 0, .slice none 0 0, .slice none 0 0] ((((w1.drew).alloc (.cells (bcells (List.replicate 32 0)).toArray 5)).alloc (.cells (bcells (List.replicate 32 0)).toArray 5)).alloc (.cells #[.string ⟨#[]⟩, .int .u64 0, .int .u64 0, .slice none 0 0, .slice none 0 0, .slice none 0 0] 34)) (((w1.drew).alloc (.cells (bcells (List.replicate 32 0)).toArray 5)).alloc (.cells (bcells (List.replicate 32 0)).toArray 5)).heap.size := heap_alloc_new (((w1.drew).alloc (.cells (bcells (List.replicate 32 0)).toArray 5)).alloc (.cells (bcells (List.replicate 32 0)).toArray 5)) _
        have hs_2 : (((w1.drew).alloc (.cells (bcells (List.replicate 32 0)).toArray 5)).alloc (.cells (bcells (List.replicate 32 0)).toArray 5)).heap.size = w1.heap.size + 1 + 1 := by simp
        rw [hs_2] at f4_3
        have hb_3 := hb_2.alloc hb_2.size (.cells #[.string ⟨#[]⟩, .int .u64 0, .int .u64 0, .slice none 0 0, .slice none 0 0, .slice none 0 0] 34)
        have hg4 := hb_2.size
        rw [hs_2] at hg4
        refine hK.out _ _ trivial (fun _ => ?_)
        clear hK K
        refine wpAnyH_ready (rs := [2]) (by kernel_rfl) (by simp) ?_
        refine AllReadyH.cons rfl (fun K hK => ?_) ?_
        · go_simp
          have f1_4 := Zr.alloc f1_3 (.cells (bcells (List.replicate 32 0)).toArray 5)
          have f0_4 := Zr.alloc f0_3 (.cells (bcells (List.replicate 32 0)).toArray 5)
          have f4_4 := Sx.alloc f4_3 (.cells (bcells (List.replicate 32 0)).toArray 5)
          have f2_4 := Zr.new ((((w1.drew).alloc (.cells (bcells (List.replicate 32 0)).toArray 5)).alloc (.cells (bcells (List.replicate 32 0)).toArray 5)).alloc (.cells #[.string ⟨#[]⟩, .int .u64 0, .int .u64 0, .slice none 0 0, .slice none 0 0, .slice none 0 0] 34))
          have hs_3 : ((((w1.drew).alloc (.cells (bcells (List.replicate 32 0)).toArray 5)).alloc (.cells (bcells (List.replicate 32 0)).toArray 5)).alloc (.cells #[.string ⟨#[]⟩, .int .u64 0, .int .u64 0, .slice none 0 0, .slice none 0 0, .slice none 0 0] 34)).heap.size = w1.heap.size + 1 + 1 + 1 := by simp
          rw [hs_3] at f2_4
          have hb_4 := hb_3.alloc hb_3.size (.cells (bcells (List.replicate 32 0)).toArray 5)
          refine hK.out _ _ trivial (fun _ => ?_)
          clear hK K
          refine wpAnyH_take (i := 3) (oi := _) (v := ?_) rfl (by kernel_rfl) (by kernel_rfl) (by kernel_rfl) (fun _ _ _ h => h) (Or.inl ⟨by rfl, ?_⟩) trivial ?_
          rotate_left
          · intro W hSW
            try go_simp
            all_goals with_reducible rfl
          simp only [Act.put, List.setIfInBounds_toArray, List.set_cons_zero, List.set_cons_succ, List.getElem_toArray, List.getElem_cons_zero, List.getElem_cons_succ]
          refine wpAnyH_listed (L' := #[true, true, true, true, true, false]) (by kernel_rfl) ?_
          refine HN _ _ ⟨w1.heap.size + 1, w1.heap.size, w1.heap.size + 1 + 1 + 1, w1.heap.size + 1 + 1, by kernel_rfl, f0_4, f1_4, f2_4, f4_4, hb_4, hg4⟩
        exact AllReadyH.nil
      exact AllReadyH.nil
    refine AllReadyH.cons rfl (fun K hK => ?_) ?_
    · go_simp
      have f1_2 := Zr.alloc f1_1 (.cells (bcells (List.replicate 32 0)).toArray 5)
      have f2_2 := Zr.new ((w1.drew).alloc (.cells (bcells (List.replicate 32 0)).toArray 5))
      have hs_1 : ((w1.drew).alloc (.cells (bcells (List.replicate 32 0)).toArray 5)).heap.size = w1.heap.size + 1 := by simp
      rw [hs_1] at f2_2
      have hb_2 := hb_1.alloc hb_1.size (.cells (bcells (List.replicate 32 0)).toArray 5)
      refine hK.out _ _ trivial (fun _ => ?_)
      clear hK K
      refine wpAnyH_ready (rs := [0, 4]) (by kernel_rfl) (by simp) ?_
      refine AllReadyH.cons rfl (fun K hK => ?_) ?_
      · go_simp
        have f1_3 := Zr.alloc f1_2 (.cells (bcells (List.replicate 32 0)).toArray 5)
        have f2_3 := Zr.alloc f2_2 (.cells (bcells (List.replicate 32 0)).toArray 5)
        have f0_3 := Zr.new (((w1.drew).alloc (.cells (bcells (List.replicate 32 0)).toArray 5)).alloc (.cells (bcells (List.replicate 32 0)).toArray 5))
        have hs_2 : (((w1.drew).alloc (.cells (bcells (List.replicate 32 0)).toArray 5)).alloc (.cells (bcells (List.replicate 32 0)).toArray 5)).heap.size = w1.heap.size + 1 + 1 := by simp
        rw [hs_2] at f0_3
        have hb_3 := hb_2.alloc hb_2.size (.cells (bcells (List.replicate 32 0)).toArray 5)
        refine hK.out _ _ trivial (fun _ => ?_)
        clear hK K
        refine wpAnyH_take (i := 3) (oi := _) (v := ?_) rfl (by kernel_rfl) (by kernel_rfl) (by kernel_rfl) (fun _ _ _ h => h) (Or.inl ⟨by rfl, ?_⟩) trivial ?_
        rotate_left
        · intro W hSW
          try go_simp
          all_goals with_reducible rfl
        simp only [Act.put, List.setIfInBounds_toArray, List.set_cons_zero, List.set_cons_succ, List.getElem_toArray, List.getElem_cons_zero, List.getElem_cons_succ]
        refine wpAnyH_ready (rs := [4]) (by kernel_rfl) (by simp) ?_
        refine AllReadyH.cons rfl (fun K hK => ?_) ?_
        · go_simp
          have f1_4 := Zr.alloc f1_3 (.cells #[.string ⟨#[]⟩, .int .u64 0, .int .u64 0, .slice none 0 0, .slice none 0 0, .slice none 0 0] 34)
          have f2_4 := Zr.alloc f2_3 (.cells #[.string ⟨#[]⟩, .int .u64 0, .int .u64 0, .slice none 0 0, .slice none 0 0, .slice none 0 0] 34)
          have f0_4 := Zr.alloc f0_3 (.cells #[.string ⟨#[]⟩, .int .u64 0, .int .u64 0, .slice none 0 0, .slice none 0 0, .slice none 0 0] 34)
          have f4_4 : Sx 34 #[.string ⟨#[]⟩, .int .u64 0, .int .u64 0, .slice none 0 0, .slice none 0 0, .slice none 0 0] (((((w1.drew).alloc (.cells (bcells (List.replicate 32 0)).toArray 5)).alloc (.cells (bcells (List.replicate 32 0)).toArray 5)).alloc (.cells (bcells (List.replicate 32 0)).toArray 5)).alloc (.cells #[.string ⟨#[]⟩, .int .u64 0, .int .u64 0, .slice none 0 0, .slice none 0 0, .slice none 0 0] 34)) ((((w1.drew).alloc (.cells (bcells (List.replicate 32 0)).toArray 5)).alloc (.cells (bcells (List.replicate 32 0)).toArray 5)).alloc (.cells (bcells (List.replicate 32 0)).toArray 5)).heap.size := heap_alloc_new ((((w1.drew).alloc (.cells (bcells (List.replicate 32 0)).toArray 5)).alloc (.cells (bcells (List.replicate 32 0)).toArray 5)).alloc (.cells (bcells (List.replicate 32 0)).toArray 5)) _
          have hs_3 : ((((w1.drew).alloc (.cells (bcells (List.replicate 32 0)).toArray 5)).alloc (.cells (bcells (List.replicate 32 0)).toArray 5)).alloc (.cells (bcells (List.replicate 32 0)).toArray 5)).heap.size = w1.heap.size + 1 + 1 + 1 := by simp
          rw [hs_3] at f4_4
          have hb_4 := hb_3.alloc hb_3.size (.cells #[.string ⟨#[]⟩, .int .u64 0, .int .u64 0, .slice none 0 0, .slice none 0 0, .slice none 0 0] 34)
          have hg4 := hb_3.size
          rw [hs_3] at hg4
          refine hK.out _ _ trivial (fun _ => ?_)
          clear hK K
          refine wpAnyH_listed (L' := #[true, true, true, true, true, false]) (by kernel_rfl) ?_
          refine HN _ _ ⟨w1.heap.size + 1 + 1, w1.heap.size, w1.heap.size + 1, w1.heap.size + 1 + 1 + 1, by kernel_rfl, f0_4, f1_4, f2_4, f4_4, hb_4, hg4⟩
        exact AllReadyH.nil
      refine AllReadyH.cons rfl (fun K hK => ?_) ?_
      · go_simp
        have f1_3 := Zr.alloc f1_2 (.cells #[.string ⟨#[]⟩, .int .u64 0, .int .u64 0, .slice none 0 0, .slice none 0 0, .slice none 0 0] 34)
        have f2_3 := Zr.alloc f2_2 (.cells #[.string ⟨#[]⟩, .int .u64 0, .int .u64 0, .slice none 0 0, .slice none 0 0, .slice none 0 0] 34)
        have f4_3 : Sx 34 #[.string ⟨#[]⟩, .int .u64 0, .int .u64 0, .slice none 0 0, .slice none 0 0, .slice none 0 0] ((((w1.drew).alloc (.cells (bcells (List.replicate 32 0)).toArray 5)).alloc (.cells (bcells (List.replicate 32 0)).toArray 5)).alloc (.cells #[.string ⟨#[]⟩, .int .u64 0, .int .u64 0, .slice none 0 0, .slice none 0 0, .slice none 0 0] 34)) (((w1.drew).alloc (.cells (bcells (List.replicate 32 0)).toArray 5)).alloc (.cells (bcells (List.replicate 32 0)).toArray 5)).heap.size := heap_alloc_new (((w1.drew).alloc (.cells (bcells (List.replicate 32 0)).toArray 5)).alloc (.cells (bcells (List.replicate 32 0)).toArray 5)) _
        have hs_2 : (((w1.drew).alloc (.cells (bcells (List.replicate 32 0)).toArray 5)).alloc (.cells (bcells (List.replicate 32 0)).toArray 5)).heap.size = w1.heap.size + 1 + 1 := by simp
        rw [hs_2] at f4_3
        have hb_3 := hb_2.alloc hb_2.size (.cells #[.string ⟨#[]⟩, .int .u64 0, .int .u64 0, .slice none 0 0, .slice none 0 0, .slice none 0 0] 34)
        have hg4 := hb_2.size
        rw [hs_2] at hg4
        refine hK.out _ _ trivial (fun _ => ?_)
        clear hK K
        refine wpAnyH_ready (rs := [0]) (by kernel_rfl) (by simp) ?_
        refine AllReadyH.cons rfl (fun K hK => ?_) ?_
        · go_simp
          have f1_4 := Zr.alloc f1_3 (.cells (bcells (List.replicate 32 0)).toArray 5)
          have f2_4 := Zr.alloc f2_3 (.cells (bcells (List.replicate 32 0)).toArray 5)
          have f4_4 := Sx.alloc f4_3 (.cells (bcells (List.replicate 32 0)).toArray 5)
          have f0_4 := Zr.new ((((w1.drew).alloc (.cells (bcells (List.replicate 32 0)).toArray 5)).alloc (.cells (bcells (List.replicate 32 0)).toArray 5)).alloc (.cells #[.string ⟨#[]⟩, .int .u64 0, .int .u64 0, .slice none 0 0, .slice none 0 0, .slice none 0 0] 34))
          have hs_3 : ((((w1.drew).alloc (.cells (bcells (List.replicate 32 0)).toArray 5)).alloc (.cells (bcells (List.replicate 32 0)).toArray 5)).alloc (.cells #[.string ⟨#[]⟩, .int .u64 0, .int .u64 0, .slice none 0 0, .slice none 0 0, .slice none 0 0] 34)).heap.size = w1.heap.size + 1 + 1 + 1 := by simp
          rw [hs_3] at f0_4
          have hb_4 := hb_3.alloc hb_3.size (.cells (bcells (List.replicate 32 0)).toArray 5)
          refine hK.out _ _ trivial (fun _ => ?_)
          clear hK K
          refine wpAnyH_take (i := 3) (oi := _) (v := ?_) rfl (by kernel_rfl) (by kernel_rfl) (by kernel_rfl) (fun _ _ _ h => h) (Or.inl ⟨by rfl, ?_⟩) trivial ?_
          rotate_left
          · intro W hSW
            try go_simp
            all_goals with_reducible rfl
          simp only [Act.put, List.setIfInBounds_toArray, List.set_cons_zero, List.set_cons_succ, List.getElem_toArray, List.getElem_cons_zero, List.getElem_cons_succ]
          refine wpAnyH_listed (L' := #[true, true, true, true, true, false]) (by kernel_rfl) ?_
          refine HN _ _ ⟨w1.heap.size + 1 + 1 + 1, w1.heap.size, w1.heap.size + 1, w1.heap.size + 1 + 1, by kernel_rfl, f0_4, f1_4, f2_4, f4_4, hb_4, hg4⟩
        exact AllReadyH.nil
      exact AllReadyH.nil
    refine AllReadyH.cons rfl (fun K hK => ?_) ?_
    · go_simp
      have f1_2 := Zr.alloc f1_1 (.cells #[.string ⟨#[]⟩, .int .u64 0, .int .u64 0, .slice none 0 0, .slice none 0 0, .slice none 0 0] 34)
      have f4_2 : Sx 34 #[.string ⟨#[]⟩, .int .u64 0, .int .u64 0, .slice none 0 0, .slice none 0 0, .slice none 0 0] (((w1.drew).alloc (.cells (bcells (List.replicate 32 0)).toArray 5)).alloc (.cells #[.string ⟨#[]⟩, .int .u64 0, .int .u64 0, .slice none 0 0, .slice none 0 0, .slice none 0 0] 34)) ((w1.drew).alloc (.cells (bcells (List.replicate 32 0)).toArray 5)).heap.size := heap_alloc_new ((w1.drew).alloc (.cells (bcells (List.replicate 32 0)).toArray 5)) _
      have hs_1 : ((w1.drew).alloc (.cells (bcells (List.replicate 32 0)).toArray 5)).heap.size = w1.heap.size + 1 := by simp
      rw [hs_1] at f4_2
      have hb_2 := hb_1.alloc hb_1.size (.cells #[.string ⟨#[]⟩, .int .u64 0, .int .u64 0, .slice none 0 0, .slice none 0 0, .slice none 0 0] 34)
      have hg4 := hb_1.size
      rw [hs_1] at hg4
      refine hK.out _ _ trivial (fun _ => ?_)
      clear hK K
      refine wpAnyH_ready (rs := [0, 2]) (by kernel_rfl) (by simp) ?_
      refine AllReadyH.cons rfl (fun K hK => ?_) ?_
      · go_simp
        have f1_3 := Zr.alloc f1_2 (.cells (bcells (List.replicate 32 0)).toArray 5)
        have f4_3 := Sx.alloc f4_2 (.cells (bcells (List.replicate 32 0)).toArray 5)
        have f0_3 := Zr.new (((w1.drew).alloc (.cells (bcells (List.replicate 32 0)).toArray 5)).alloc (.cells #[.string ⟨#[]⟩, .int .u64 0, .int .u64 0, .slice none 0 0, .slice none 0 0, .slice none 0 0] 34))
        have hs_2 : (((w1.drew).alloc (.cells (bcells (List.replicate 32 0)).toArray 5)).alloc (.cells #[.string ⟨#[]⟩, .int .u64 0, .int .u64 0, .slice none 0 0, .slice none 0 0, .slice none 0 0] 34)).heap.size = w1.heap.size + 1 + 1 := by simp
        rw [hs_2] at f0_3
        have hb_3 := hb_2.alloc hb_2.size (.cells (bcells (List.replicate 32 0)).toArray 5)
        refine hK.out _ _ trivial (fun _ => ?_)
        clear hK K
        refine wpAnyH_ready (rs := [2]) (by kernel_rfl) (by simp) ?_
        refine AllReadyH.cons rfl (fun K hK => ?_) ?_
        · go_simp
          have f1_4 := Zr.alloc f1_3 (.cells (bcells (List.replicate 32 0)).toArray 5)
          have f4_4 := Sx.alloc f4_3 (.cells (bcells (List.replicate 32 0)).toArray 5)
          have f0_4 := Zr.alloc f0_3 (.cells (bcells (List.replicate 32 0)).toArray 5)
          have f2_4 := Zr.new ((((w1.drew).alloc (.cells (bcells (List.replicate 32 0)).toArray 5)).alloc (.cells #[.string ⟨#[]⟩, .int .u64 0, .int .u64 0, .slice none 0 0, .slice none 0 0, .slice none 0 0] 34)).alloc (.cells (bcells (List.replicate 32 0)).toArray 5))
          have hs_3 : ((((w1.drew).alloc (.cells (bcells (List.replicate 32 0)).toArray 5)).alloc (.cells #[.string ⟨#[]⟩, .int .u64 0, .int .u64 0, .slice none 0 0, .slice none 0 0, .slice none 0 0] 34)).alloc (.cells (bcells (List.replicate 32 0)).toArray 5)).heap.size = w1.heap.size + 1 + 1 + 1 := by simp
          rw [hs_3] at f2_4
          have hb_4 := hb_3.alloc hb_3.size (.cells (bcells (List.replicate 32 0)).toArray 5)
          refine hK.out _ _ trivial (fun _ => ?_)
          clear hK K
          refine wpAnyH_take (i := 3) (oi := _) (v := ?_) rfl (by kernel_rfl) (by kernel_rfl) (by kernel_rfl) (fun _ _ _ h => h) (Or.inl ⟨by rfl, ?_⟩) trivial ?_
          rotate_left
          · intro W hSW
            try go_simp
            all_goals with_reducible rfl
          simp only [Act.put, List.setIfInBounds_toArray, List.set_cons_zero, List.set_cons_succ, List.getElem_toArray, List.getElem_cons_zero, List.getElem_cons_succ]
          refine wpAnyH_listed (L' := #[true, true, true, true, true, false]) (by kernel_rfl) ?_
          refine HN _ _ ⟨w1.heap.size + 1 + 1, w1.heap.size, w1.heap.size + 1 + 1 + 1, w1.heap.size + 1, by kernel_rfl, f0_4, f1_4, f2_4, f4_4, hb_4, hg4⟩
        exact AllReadyH.nil
      refine AllReadyH.cons rfl (fun K hK => ?_) ?_
      · go_simp
        have f1_3 := Zr.alloc f1_2 (.cells (bcells (List.replicate 32 0)).toArray 5)
        have f4_3 := Sx.alloc f4_2 (.cells (bcells (List.replicate 32 0)).toArray 5)
        have f2_3 := Zr.new (((w1.drew).alloc (.cells (bcells (List.replicate 32 0)).toArray 5)).alloc (.cells #[.string ⟨#[]⟩, .int .u64 0, .int .u64 0, .slice none 0 0, .slice none 0 0, .slice none 0 0] 34))
        have hs_2 : (((w1.drew).alloc (.cells (bcells (List.replicate 32 0)).toArray 5)).alloc (.cells #[.string ⟨#[]⟩, .int .u64 0, .int .u64 0, .slice none 0 0, .slice none 0 0, .slice none 0 0] 34)).heap.size = w1.heap.size + 1 + 1 := by simp
        rw [hs_2] at f2_3
        have hb_3 := hb_2.alloc hb_2.size (.cells (bcells (List.replicate 32 0)).toArray 5)
        refine hK.out _ _ trivial (fun _ => ?_)
        clear hK K
        refine wpAnyH_ready (rs := [0]) (by kernel_rfl) (by simp) ?_
        refine AllReadyH.cons rfl (fun K hK => ?_) ?_
        · go_simp
          have f1_4 := Zr.alloc f1_3 (.cells (bcells (List.replicate 32 0)).toArray 5)
          have f4_4 := Sx.alloc f4_3 (.cells (bcells (List.replicate 32 0)).toArray 5)
          have f2_4 := Zr.alloc f2_3 (.cells (bcells (List.replicate 32 0)).toArray 5)
          have f0_4 := Zr.new ((((w1.drew).alloc (.cells (bcells (List.replicate 32 0)).toArray 5)).alloc (.cells #[.string ⟨#[]⟩, .int .u64 0, .int .u64 0, .slice none 0 0, .slice none 0 0, .slice none 0 0] 34)).alloc (.cells (bcells (List.replicate 32 0)).toArray 5))
          have hs_3 : ((((w1.drew).alloc (.cells (bcells (List.replicate 32 0)).toArray 5)).alloc (.cells #[.string ⟨#[]⟩, .int .u64 0, .int .u64 0, .slice none 0 0, .slice none 0 0, .slice none 0 0] 34)).alloc (.cells (bcells (List.replicate 32 0)).toArray 5)).heap.size = w1.heap.size + 1 + 1 + 1 := by simp
          rw [hs_3] at f0_4
          have hb_4 := hb_3.alloc hb_3.size (.cells (bcells (List.replicate 32 0)).toArray 5)
          refine hK.out _ _ trivial (fun _ => ?_)
          clear hK K
          refine wpAnyH_take (i := 3) (oi := _) (v := ?_) rfl (by kernel_rfl) (by kernel_rfl) (by kernel_rfl) (fun _ _ _ h => h) (Or.inl ⟨by rfl, ?_⟩) trivial ?_
          rotate_left
          · intro W hSW
            try go_simp
            all_goals with_reducible rfl
          simp only [Act.put, List.setIfInBounds_toArray, List.set_cons_zero, List.set_cons_succ, List.getElem_toArray, List.getElem_cons_zero, List.getElem_cons_succ]
          refine wpAnyH_listed (L' := #[true, true, true, true, true, false]) (by kernel_rfl) ?_
          refine HN _ _ ⟨w1.heap.size + 1 + 1 + 1, w1.heap.size, w1.heap.size + 1 + 1, w1.heap.size + 1, by kernel_rfl, f0_4, f1_4, f2_4, f4_4, hb_4, hg4⟩
        exact AllReadyH.nil
      exact AllReadyH.nil
    exact AllReadyH.nil
  refine AllReadyH.cons rfl (fun K hK => ?_) ?_
  · go_simp
    have f2_1 := Zr.new (w1.drew)
    have hs_0 : (w1.drew).heap.size = w1.heap.size := by simp
    rw [hs_0] at f2_1
    have hb_1 := hb_0.alloc hb_0.size (.cells (bcells (List.replicate 32 0)).toArray 5)
    refine hK.out _ _ trivial (fun _ => ?_)
    clear hK K
    refine wpAnyH_ready (rs := [0, 1, 4]) (by kernel_rfl) (by simp) ?_
    refine AllReadyH.cons rfl (fun K hK => ?_) ?_
    · go_simp
      have f2_2 := Zr.alloc f2_1 (.cells (bcells (List.replicate 32 0)).toArray 5)
      have f0_2 := Zr.new ((w1.drew).alloc (.cells (bcells (List.replicate 32 0)).toArray 5))
      have hs_1 : ((w1.drew).alloc (.cells (bcells (List.replicate 32 0)).toArray 5)).heap.size = w1.heap.size + 1 := by simp
      rw [hs_1] at f0_2
      have hb_2 := hb_1.alloc hb_1.size (.cells (bcells (List.replicate 32 0)).toArray 5)
      refine hK.out _ _ trivial (fun _ => ?_)
      clear hK K
      refine wpAnyH_ready (rs := [1, 4]) (by kernel_rfl) (by simp) ?_
      refine AllReadyH.cons rfl (fun K hK => ?_) ?_
      · go_simp
        have f2_3 := Zr.alloc f2_2 (.cells (bcells (List.replicate 32 0)).toArray 5)
        have f0_3 := Zr.alloc f0_2 (.cells (bcells (List.replicate 32 0)).toArray 5)
        have f1_3 := Zr.new (((w1.drew).alloc (.cells (bcells (List.replicate 32 0)).toArray 5)).alloc (.cells (bcells (List.replicate 32 0)).toArray 5))
        have hs_2 : (((w1.drew).alloc (.cells (bcells (List.replicate 32 0)).toArray 5)).alloc (.cells (bcells (List.replicate 32 0)).toArray 5)).heap.size = w1.heap.size + 1 + 1 := by simp
        rw [hs_2] at f1_3
        have hb_3 := hb_2.alloc hb_2.size (.cells (bcells (List.replicate 32 0)).toArray 5)
        refine hK.out _ _ trivial (fun _ => ?_)
        clear hK K
        refine wpAnyH_take (i := 3) (oi := _) (v := ?_) rfl (by kernel_rfl) (by kernel_rfl) (by kernel_rfl) (fun _ _ _ h => h) (Or.inl ⟨by rfl, ?_⟩) trivial ?_
        rotate_left
        · intro W hSW
          try go_simp
          all_goals with_reducible rfl
        simp only [Act.put, List.setIfInBounds_toArray, List.set_cons_zero, List.set_cons_succ, List.getElem_toArray, List.getElem_cons_zero, List.getElem_cons_succ]
        refine wpAnyH_ready (rs := [4]) (by kernel_rfl) (by simp) ?_
        refine AllReadyH.cons rfl (fun K hK => ?_) ?_
        · go_simp
          have f2_4 := Zr.alloc f2_3 (.cells #[.string ⟨#[]⟩, .int .u64 0, .int .u64 0, .slice none 0 0, .slice none 0 0, .slice none 0 0] 34)
          have f0_4 := Zr.alloc f0_3 (.cells #[.string ⟨#[]⟩, .int .u64 0, .int .u64 0, .slice none 0 0, .slice none 0 0, .slice none 0 0] 34)
          have f1_4 := Zr.alloc f1_3 (.cells #[.string ⟨#[]⟩, .int .u64 0, .int .u64 0, .slice none 0 0, .slice none 0 0, .slice none 0 0] 34)
          have f4_4 : Sx 34 #[.string ⟨#[]⟩, .int .u64 0, .int .u64 0, .slice none 0 0, .slice none 0 0, .slice none 0 0] (((((w1.drew).alloc (.cells (bcells (List.replicate 32 0)).toArray 5)).alloc (.cells (bcells (List.replicate 32 0)).toArray 5)).alloc (.cells (bcells (List.replicate 32 0)).toArray 5)).alloc (.cells #[.string ⟨#[]⟩, .int .u64 0, .int .u64 0, .slice none 0 0, .slice none 0 0, .slice none 0 0] 34)) ((((w1.drew).alloc (.cells (bcells (List.replicate 32 0)).toArray 5)).alloc (.cells (bcells (List.replicate 32 0)).toArray 5)).alloc (.cells (bcells (List.replicate 32 0)).toArray 5)).heap.size := heap_alloc_new ((((w1.drew).alloc (.cells (bcells (List.replicate 32 0)).toArray 5)).alloc (.cells (bcells (List.replicate 32 0)).toArray 5)).alloc (.cells (bcells (List.replicate 32 0)).toArray 5)) _
          have hs_3 : ((((w1.drew).alloc (.cells (bcells (List.replicate 32 0)).toArray 5)).alloc (.cells (bcells (List.replicate 32 0)).toArray 5)).alloc (.cells (bcells (List.replicate 32 0)).toArray 5)).heap.size = w1.heap.size + 1 + 1 + 1 := by simp
          rw [hs_3] at f4_4
          have hb_4 := hb_3.alloc hb_3.size (.cells #[.string ⟨#[]⟩, .int .u64 0, .int .u64 0, .slice none 0 0, .slice none 0 0, .slice none 0 0] 34)
          have hg4 := hb_3.size
          rw [hs_3] at hg4
          refine hK.out _ _ trivial (fun _ => ?_)
          clear hK K
          refine wpAnyH_listed (L' := #[true, true, true, true, true, false]) (by kernel_rfl) ?_
          refine HN _ _ ⟨w1.heap.size + 1, w1.heap.size + 1 + 1, w1.heap.size, w1.heap.size + 1 + 1 + 1, by kernel_rfl, f0_4, f1_4, f2_4, f4_4, hb_4, hg4⟩
        exact AllReadyH.nil
      refine AllReadyH.cons rfl (fun K hK => ?_) ?_
      · go_simp
        have f2_3 := Zr.alloc f2_2 (.cells #[.string ⟨#[]⟩, .int .u64 0, .int .u64 0, .slice none 0 0, .slice none 0 0, .slice none 0 0] 34)
        have f0_3 := Zr.alloc f0_2 (.cells #[.string ⟨#[]⟩, .int .u64 0, .int .u64 0, .slice none 0 0, .slice none 0 0, .slice none 0 0] 34)
        have f4_3 : Sx 34 #[.string ⟨#[]⟩, .int .u64 0, .int .u64 0, .slice none 0 0, .slice none 0 0, .slice none 0 0] ((((w1.drew).alloc (.cells (bcells (List.replicate 32 0)).toArray 5)).alloc (.cells (bcells (List.replicate 32 0)).toArray 5)).alloc (.cells #[.string ⟨#[]⟩, .int .u64 0, .int .u64 0, .slice none 0 0, .slice none 0 0, .slice none 0 0] 34)) (((w1.drew).alloc (.cells (bcells (List.replicate 32 0)).toArray 5)).alloc (.cells (bcells (List.replicate 32 0)).toArray 5)).heap.size := heap_alloc_new (((w1.drew).alloc (.cells (bcells (List.replicate 32 0)).toArray 5)).alloc (.cells (bcells (List.replicate 32 0)).toArray 5)) _
        have hs_2 : (((w1.drew).alloc (.cells (bcells (List.replicate 32 0)).toArray 5)).alloc (.cells (bcells (List.replicate 32 0)).toArray 5)).heap.size = w1.heap.size + 1 + 1 := by simp
        rw [hs_2] at f4_3
        have hb_3 := hb_2.alloc hb_2.size (.cells #[.string ⟨#[]⟩, .int .u64 0, .int .u64 0, .slice none 0 0, .slice none 0 0, .slice none 0 0] 34)
        have hg4 := hb_2.size
        rw [hs_2] at hg4
        refine hK.out _ _ trivial (fun _ => ?_)
        clear hK K
        refine wpAnyH_ready (rs := [1]) (by kernel_rfl) (by simp) ?_
        refine AllReadyH.cons rfl (fun K hK => ?_) ?_
        · go_simp
          have f2_4 := Zr.alloc f2_3 (.cells (bcells (List.replicate 32 0)).toArray 5)
          have f0_4 := Zr.alloc f0_3 (.cells (bcells (List.replicate 32 0)).toArray 5)
          have f4_4 := Sx.alloc f4_3 (.cells (bcells (List.replicate 32 0)).toArray 5)
          have f1_4 := Zr.new ((((w1.drew).alloc (.cells (bcells (List.replicate 32 0)).toArray 5)).alloc (.cells (bcells (List.replicate 32 0)).toArray 5)).alloc (.cells #[.string ⟨#[]⟩, .int .u64 0, .int .u64 0, .slice none 0 0, .slice none 0 0, .slice none 0 0] 34))
          have hs_3 : ((((w1.drew).alloc (.cells (bcells (List.replicate 32 0)).toArray 5)).alloc (.cells (bcells (List.replicate 32 0)).toArray 5)).alloc (.cells #[.string ⟨#[]⟩, .int .u64 0, .int .u64 0, .slice none 0 0, .slice none 0 0, .slice none 0 0] 34)).heap.size = w1.heap.size + 1 + 1 + 1 := by simp
          rw [hs_3] at f1_4
          have hb_4 := hb_3.alloc hb_3.size (.cells (bcells (List.replicate 32 0)).toArray 5)
          refine hK.out _ _ trivial (fun _ => ?_)
          clear hK K
          refine wpAnyH_take (i := 3) (oi := _) (v := ?_) rfl (by kernel_rfl) (by kernel_rfl) (by kernel_rfl) (fun _ _ _ h => h) (Or.inl ⟨by rfl, ?_⟩) trivial ?_
          rotate_left
          · intro W hSW
            try go_simp
            all_goals with_reducible rfl
          simp only [Act.put, List.setIfInBounds_toArray, List.set_cons_zero, List.set_cons_succ, List.getElem_toArray, List.getElem_cons_zero, List.getElem_cons_succ]
          refine wpAnyH_listed (L' := #[true, true, true, true, true, false]) (by kernel_rfl) ?_
          refine HN _ _ ⟨w1.heap.size + 1, w1.heap.size + 1 + 1 + 1, w1.heap.size, w1.heap.size + 1 + 1, by kernel_rfl, f0_4, f1_4, f2_4, f4_4, hb_4, hg4⟩
        exact AllReadyH.nil
      exact AllReadyH.nil
    refine AllReadyH.cons rfl (fun K hK => ?_) ?_
    · go_simp
      have f2_2 := Zr.alloc f2_1 (.cells (bcells (List.replicate 32 0)).toArray 5)
      have f1_2 := Zr.new ((w1.drew).alloc (.cells (bcells (List.replicate 32 0)).toArray 5))
      have hs_1 : ((w1.drew).alloc (.cells (bcells (List.replicate 32 0)).toArray 5)).heap.size = w1.heap.size + 1 := by simp
      rw [hs_1] at f1_2
      have hb_2 := hb_1.alloc hb_1.size (.cells (bcells (List.replicate 32 0)).toArray 5)
      refine hK.out _ _ trivial (fun _ => ?_)
      clear hK K
      refine wpAnyH_ready (rs := [0, 4]) (by kernel_rfl) (by simp) ?_
      refine AllReadyH.cons rfl (fun K hK => ?_) ?_
      · go_simp
        have f2_3 := Zr.alloc f2_2 (.cells (bcells (List.replicate 32 0)).toArray 5)
        have f1_3 := Zr.alloc f1_2 (.cells (bcells (List.replicate 32 0)).toArray 5)
        have f0_3 := Zr.new (((w1.drew).alloc (.cells (bcells (List.replicate 32 0)).toArray 5)).alloc (.cells (bcells (List.replicate 32 0)).toArray 5))
        have hs_2 : (((w1.drew).alloc (.cells (bcells (List.replicate 32 0)).toArray 5)).alloc (.cells (bcells (List.replicate 32 0)).toArray 5)).heap.size = w1.heap.size + 1 + 1 := by simp
        rw [hs_2] at f0_3
        have hb_3 := hb_2.alloc hb_2.size (.cells (bcells (List.replicate 32 0)).toArray 5)
        refine hK.out _ _ trivial (fun _ => ?_)
        clear hK K
        refine wpAnyH_take (i := 3) (oi := _) (v := ?_) rfl (by kernel_rfl) (by kernel_rfl) (by kernel_rfl) (fun _ _ _ h => h) (Or.inl ⟨by rfl, ?_⟩) trivial ?_
        rotate_left
        · intro W hSW
          try go_simp
          all_goals with_reducible rfl
        simp only [Act.put, List.setIfInBounds_toArray, List.set_cons_zero, List.set_cons_succ, List.getElem_toArray, List.getElem_cons_zero, List.getElem_cons_succ]
        refine wpAnyH_ready (rs := [4]) (by kernel_rfl) (by simp) ?_
        refine AllReadyH.cons rfl (fun K hK => ?_) ?_
        · go_simp
          have f2_4 := Zr.alloc f2_3 (.cells #[.string ⟨#[]⟩, .int .u64 0, .int .u64 0, .slice none 0 0, .slice none 0 0, .slice none 0 0] 34)
          have f1_4 := Zr.alloc f1_3 (.cells #[.string ⟨#[]⟩, .int .u64 0, .int .u64 0, .slice none 0 0, .slice none 0 0, .slice none 0 0] 34)
          have f0_4 := Zr.alloc f0_3 (.cells #[.string ⟨#[]⟩, .int .u64 0, .int .u64 0, .slice none 0 0, .slice none 0 0, .slice none 0 0] 34)
          have f4_4 : Sx 34 #[.string ⟨#[]⟩, .int .u64 0, .int .u64 0, .slice none 0 0, .slice none 0 0, .slice none 0 0] (((((w1.drew).alloc (.cells (bcells (List.replicate 32 0)).toArray 5)).alloc (.cells (bcells (List.replicate 32 0)).toArray 5)).alloc (.cells (bcells (List.replicate 32 0)).toArray 5)).alloc (.cells #[.string ⟨#[]⟩, .int .u64 0, .int .u64 0, .slice none 0 0, .slice none 0 0, .slice none 0 0] 34)) ((((w1.drew).alloc (.cells (bcells (List.replicate 32 0)).toArray 5)).alloc (.cells (bcells (List.replicate 32 0)).toArray 5)).alloc (.cells (bcells (List.replicate 32 0)).toArray 5)).heap.size := heap_alloc_new ((((w1.drew).alloc (.cells (bcells (List.replicate 32 0)).toArray 5)).alloc (.cells (bcells (List.replicate 32 0)).toArray 5)).alloc (.cells (bcells (List.replicate 32 0)).toArray 5)) _
          have hs_3 : ((((w1.drew).alloc (.cells (bcells (List.replicate 32 0)).toArray 5)).alloc (.cells (bcells (List.replicate 32 0)).toArray 5)).alloc (.cells (bcells (List.replicate 32 0)).toArray 5)).heap.size = w1.heap.size + 1 + 1 + 1 := by simp
          rw [hs_3] at f4_4
          have hb_4 := hb_3.alloc hb_3.size (.cells #[.string ⟨#[]⟩, .int .u64 0, .int .u64 0, .slice none 0 0, .slice none 0 0, .slice none 0 0] 34)
          have hg4 := hb_3.size
          rw [hs_3] at hg4
          refine hK.out _ _ trivial (fun _ => ?_)
          clear hK K
          refine wpAnyH_listed (L' := #[true, true, true, true, true, false]) (by kernel_rfl) ?_
          refine HN _ _ ⟨w1.heap.size + 1 + 1, w1.heap.size + 1, w1.heap.size, w1.heap.size + 1 + 1 + 1, by kernel_rfl, f0_4, f1_4, f2_4, f4_4, hb_4, hg4⟩
        exact AllReadyH.nil
      refine AllReadyH.cons rfl (fun K hK => ?_) ?_
      · go_simp
        have f2_3 := Zr.alloc f2_2 (.cells #[.string ⟨#[]⟩, .int .u64 0, .int .u64 0, .slice none 0 0, .slice none 0 0, .slice none 0 0] 34)
        have f1_3 := Zr.alloc f1_2 (.cells #[.string ⟨#[]⟩, .int .u64 0, .int .u64 0, .slice none 0 0, .slice none 0 0, .slice none 0 0] 34)
        have f4_3 : Sx 34 #[.string ⟨#[]⟩, .int .u64 0, .int .u64 0, .slice none 0 0, .slice none 0 0, .slice none 0 0] ((((w1.drew).alloc (.cells (bcells (List.replicate 32 0)).toArray 5)).alloc (.cells (bcells (List.replicate 32 0)).toArray 5)).alloc (.cells #[.string ⟨#[]⟩, .int .u64 0, .int .u64 0, .slice none 0 0, .slice none 0 0, .slice none 0 0] 34)) (((w1.drew).alloc (.cells (bcells (List.replicate 32 0)).toArray 5)).alloc (.cells (bcells (List.replicate 32 0)).toArray 5)).heap.size := heap_alloc_new (((w1.drew).alloc (.cells (bcells (List.replicate 32 0)).toArray 5)).alloc (.cells (bcells (List.replicate 32 0)).toArray 5)) _
        have hs_2 : (((w1.drew).alloc (.cells (bcells (List.replicate 32 0)).toArray 5)).alloc (.cells (bcells (List.replicate 32 0)).toArray 5)).heap.size = w1.heap.size + 1 + 1 := by simp
        rw [hs_2] at f4_3
        have hb_3 := hb_2.alloc hb_2.size (.cells #[.string ⟨#[]⟩, .int .u64 0, .int .u64 0, .slice none 0 0, .slice none 0 0, .slice none 0 0] 34)
        have hg4 := hb_2.size
        rw [hs_2] at hg4
        refine hK.out _ _ trivial (fun _ => ?_)
        clear hK K
        refine wpAnyH_ready (rs := [0]) (by kernel_rfl) (by simp) ?_
        refine AllReadyH.cons rfl (fun K hK => ?_) ?_
        · go_simp
          have f2_4 := Zr.alloc f2_3 (.cells (bcells (List.replicate 32 0)).toArray 5)
          have f1_4 := Zr.alloc f1_3 (.cells (bcells (List.replicate 32 0)).toArray 5)
          have f4_4 := Sx.alloc f4_3 (.cells (bcells (List.replicate 32 0)).toArray 5)
          have f0_4 := Zr.new ((((w1.drew).alloc (.cells (bcells (List.replicate 32 0)).toArray 5)).alloc (.cells (bcells (List.replicate 32 0)).toArray 5)).alloc (.cells #[.string ⟨#[]⟩, .int .u64 0, .int .u64 0, .slice none 0 0, .slice none 0 0, .slice none 0 0] 34))
          have hs_3 : ((((w1.drew).alloc (.cells (bcells (List.replicate 32 0)).toArray 5)).alloc (.cells (bcells (List.replicate 32 0)).toArray 5)).alloc (.cells #[.string ⟨#[]⟩, .int .u64 0, .int .u64 0, .slice none 0 0, .slice none 0 0, .slice none 0 0] 34)).heap.size = w1.heap.size + 1 + 1 + 1 := by simp
          rw [hs_3] at f0_4
          have hb_4 := hb_3.alloc hb_3.size (.cells (bcells (List.replicate 32 0)).toArray 5)
          refine hK.out _ _ trivial (fun _ => ?_)
          clear hK K
          refine wpAnyH_take (i := 3) (oi := _) (v := ?_) rfl (by kernel_rfl) (by kernel_rfl) (by kernel_rfl) (fun _ _ _ h => h) (Or.inl ⟨by rfl, ?_⟩) trivial ?_
          rotate_left
          · intro W hSW
            try go_simp
            all_goals with_reducible rfl
          simp only [Act.put, List.setIfInBounds_toArray, List.set_cons_zero, List.set_cons_succ, List.getElem_toArray, List.getElem_cons_zero, List.getElem_cons_succ]
          refine wpAnyH_listed (L' := #[true, true, true, true, true, false]) (by kernel_rfl) ?_
          refine HN _ _ ⟨w1.heap.size + 1 + 1 + 1, w1.heap.size + 1, w1.heap.size, w1.heap.size + 1 + 1, by kernel_rfl, f0_4, f1_4, f2_4, f4_4, hb_4, hg4⟩
        exact AllReadyH.nil
      exact AllReadyH.nil
    refine AllReadyH.cons rfl (fun K hK => ?_) ?_
    · go_simp
      have f2_2 := Zr.alloc f2_1 (.cells #[.string ⟨#[]⟩, .int .u64 0, .int .u64 0, .slice none 0 0, .slice none 0 0, .slice none 0 0] 34)
      have f4_2 : Sx 34 #[.string ⟨#[]⟩, .int .u64 0, .int .u64 0, .slice none 0 0, .slice none 0 0, .slice none 0 0] (((w1.drew).alloc (.cells (bcells (List.replicate 32 0)).toArray 5)).alloc (.cells #[.string ⟨#[]⟩, .int .u64 0, .int .u64 0, .slice none 0 0, .slice none 0 0, .slice none 0 0] 34)) ((w1.drew).alloc (.cells (bcells (List.replicate 32 0)).toArray 5)).heap.size := heap_alloc_new ((w1.drew).alloc (.cells (bcells (List.replicate 32 0)).toArray 5)) _
      have hs_1 : ((w1.drew).alloc (.cells (bcells (List.replicate 32 0)).toArray 5)).heap.size = w1.heap.size + 1 := by simp
      rw [hs_1] at f4_2
      have hb_2 := hb_1.alloc hb_1.size (.cells #[.string ⟨#[]⟩, .int .u64 0, .int .u64 0, .slice none 0 0, .slice none 0 0, .slice none 0 0] 34)
      have hg4 := hb_1.size
      rw [hs_1] at hg4
      refine hK.out _ _ trivial (fun _ => ?_)
      clear hK K
      refine wpAnyH_ready (rs := [0, 1]) (by kernel_rfl) (by simp) ?_
      refine AllReadyH.cons rfl (fun K hK => ?_) ?_
      · go_simp
        have f2_3 := Zr.alloc f2_2 (.cells (bcells (List.replicate 32 0)).toArray 5)
        have f4_3 := Sx.alloc f4_2 (.cells (bcells (List.replicate 32 0)).toArray 5)
        have f0_3 := Zr.new (((w1.drew).alloc (.cells (bcells (List.replicate 32 0)).toArray 5)).alloc (.cells #[.string ⟨#[]⟩, .int .u64 0, .int .u64 0, .slice none 0 0, .slice none 0 0, .slice none 0 0] 34))
        have hs_2 : (((w1.drew).alloc (.cells (bcells (List.replicate 32 0)).toArray 5)).alloc (.cells #[.string ⟨#[]⟩, .int .u64 0, .int .u64 0, .slice none 0 0, .slice none 0 0, .slice none 0 0] 34)).heap.size = w1.heap.size + 1 + 1 := by simp
        rw [hs_2] at f0_3
        have hb_3 := hb_2.alloc hb_2.size (.cells (bcells (List.replicate 32 0)).toArray 5)
        refine hK.out _ _ trivial (fun _ => ?_)
        clear hK K
        refine wpAnyH_ready (rs := [1]) (by kernel_rfl) (by simp) ?_
        refine AllReadyH.cons rfl (fun K hK => ?_) ?_
        · go_simp
          have f2_4 := Zr.alloc f2_3 (.cells (bcells (List.replicate 32 0)).toArray 5)
          have f4_4 := Sx.alloc f4_3 (.cells (bcells (List.replicate 32 0)).toArray 5)
          have f0_4 := Zr.alloc f0_3 (.cells (bcells (List.replicate 32 0)).toArray 5)
          have f1_4 := Zr.new ((((w1.drew).alloc (.cells (bcells (List.replicate 32 0)).toArray 5)).alloc (.cells #[.string ⟨#[]⟩, .int .u64 0, .int .u64 0, .slice none 0 0, .slice none 0 0, .slice none 0 0] 34)).alloc (.cells (bcells (List.replicate 32 0)).toArray 5))
          have hs_3 : ((((w1.drew).alloc (.cells (bcells (List.replicate 32 0)).toArray 5)).alloc (.cells #[.string ⟨#[]⟩, .int .u64 0, .int .u64 0, .slice none 0 0, .slice none 0 0, .slice none 0 0] 34)).alloc (.cells (bcells (List.replicate 32 0)).toArray 5)).heap.size = w1.heap.size + 1 + 1 + 1 := by simp
          rw [hs_3] at f1_4
          have hb_4 := hb_3.alloc hb_3.size (.cells (bcells (List.replicate 32 0)).toArray 5)
          refine hK.out _ _ trivial (fun _ => ?_)
          clear hK K
          refine wpAnyH_take (i := 3) (oi := _) (v := ?_) rfl (by kernel_rfl) (by kernel_rfl) (by kernel_rfl) (fun _ _ _ h => h) (Or.inl ⟨by rfl, ?_⟩) trivial ?_
          rotate_left
          · intro W hSW
            try go_simp
            all_goals with_reducible rfl
          simp only [Act.put, List.setIfInBounds_toArray, List.set_cons_zero, List.set_cons_succ, List.getElem_toArray, List.getElem_cons_zero, List.getElem_cons_succ]
          refine wpAnyH_listed (L' := #[true, true, true, true, true, false]) (by kernel_rfl) ?_
          refine HN _ _ ⟨w1.heap.size + 1 + 1, w1.heap.size + 1 + 1 + 1, w1.heap.size, w1.heap.size + 1, by kernel_rfl, f0_4, f1_4, f2_4, f4_4, hb_4, hg4⟩
        exact AllReadyH.nil
      refine AllReadyH.cons rfl (fun K hK => ?_) ?_
      · go_simp
        have f2_3 := Zr.alloc f2_2 (.cells (bcells (List.replicate 32 0)).toArray 5)
        have f4_3 := Sx.alloc f4_2 (.cells (bcells (List.replicate 32 0)).toArray 5)
        have f1_3 := Zr.new (((w1.drew).alloc (.cells (bcells (List.replicate 32 0)).toArray 5)).alloc (.cells #[.string ⟨#[]⟩, .int .u64 0, .int .u64 0, .slice none 0 0, .slice none 0 0, .slice none 0 0] 34))
        have hs_2 : (((w1.drew).alloc (.cells (bcells (List.replicate 32 0)).toArray 5)).alloc (.cells #[.string ⟨#[]⟩, .int .u64 0, .int .u64 0, .slice none 0 0, .slice none 0 0, .slice none 0 0] 34)).heap.size = w1.heap.size + 1 + 1 := by simp
        rw [hs_2] at f1_3
        have hb_3 := hb_2.alloc hb_2.size (.cells (bcells (List.replicate 32 0)).toArray 5)
        refine hK.out _ _ trivial (fun _ => ?_)
        clear hK K
        refine wpAnyH_ready (rs := [0]) (by kernel_rfl) (by simp) ?_
        refine AllReadyH.cons rfl (fun K hK => ?_) ?_
        · go_simp
          have f2_4 := Zr.alloc f2_3 (.cells (bcells (List.replicate 32 0)).toArray 5)
          have f4_4 := Sx.alloc f4_3 (.cells (bcells (List.replicate 32 0)).toArray 5)
          have f1_4 := Zr.alloc f1_3 (.cells (bcells (List.replicate 32 0)).toArray 5)
          have f0_4 := Zr.new ((((w1.drew).alloc (.cells (bcells (List.replicate 32 0)).toArray 5)).alloc (.cells #[.string ⟨#[]⟩, .int .u64 0, .int .u64 0, .slice none 0 0, .slice none 0 0, .slice none 0 0] 34)).alloc (.cells (bcells (List.replicate 32 0)).toArray 5))
          have hs_3 : ((((w1.drew).alloc (.cells (bcells (List.replicate 32 0)).toArray 5)).alloc (.cells #[.string ⟨#[]⟩, .int .u64 0, .int .u64 0, .slice none 0 0, .slice none 0 0, .slice none 0 0] 34)).alloc (.cells (bcells (List.replicate 32 0)).toArray 5)).heap.size = w1.heap.size + 1 + 1 + 1 := by simp
          rw [hs_3] at f0_4
          have hb_4 := hb_3.alloc hb_3.size (.cells (bcells (List.replicate 32 0)).toArray 5)
          refine hK.out _ _ trivial (fun _ => ?_)
          clear hK K
          refine wpAnyH_take (i := 3) (oi := _) (v := ?_) rfl (by kernel_rfl) (by kernel_rfl) (by kernel_rfl) (fun _ _ _ h => h) (Or.inl ⟨by rfl, ?_⟩) trivial ?_
          rotate_left
          · intro W hSW
            try go_simp
            all_goals with_reducible rfl
          simp only [Act.put, List.setIfInBounds_toArray, List.set_cons_zero, List.set_cons_succ, List.getElem_toArray, List.getElem_cons_zero, List.getElem_cons_succ]
          refine wpAnyH_listed (L' := #[true, true, true, true, true, false]) (by kernel_rfl) ?_
          refine HN _ _ ⟨w1.heap.size + 1 + 1 + 1, w1.heap.size + 1 + 1, w1.heap.size, w1.heap.size + 1, by kernel_rfl, f0_4, f1_4, f2_4, f4_4, hb_4, hg4⟩
        exact AllReadyH.nil
      exact AllReadyH.nil
    exact AllReadyH.nil
  refine AllReadyH.cons rfl (fun K hK => ?_) ?_
  · go_simp
    have f4_1 : Sx 34 #[.string ⟨#[]⟩, .int .u64 0, .int .u64 0, .slice none 0 0, .slice none 0 0, .slice none 0 0] ((w1.drew).alloc (.cells #[.string ⟨#[]⟩, .int .u64 0, .int .u64 0, .slice none 0 0, .slice none 0 0, .slice none 0 0] 34)) (w1.drew).heap.size := heap_alloc_new (w1.drew) _
    have hs_0 : (w1.drew).heap.size = w1.heap.size := by simp
    rw [hs_0] at f4_1
    have hb_1 := hb_0.alloc hb_0.size (.cells #[.string ⟨#[]⟩, .int .u64 0, .int .u64 0, .slice none 0 0, .slice none 0 0, .slice none 0 0] 34)
    have hg4 := hb_0.size
    rw [hs_0] at hg4
    refine hK.out _ _ trivial (fun _ => ?_)
    clear hK K
    refine wpAnyH_ready (rs := [0, 1, 2]) (by kernel_rfl) (by simp) ?_
    refine AllReadyH.cons rfl (fun K hK => ?_) ?_
    · go_simp
      have f4_2 := Sx.alloc f4_1 (.cells (bcells (List.replicate 32 0)).toArray 5)
      have f0_2 := Zr.new ((w1.drew).alloc (.cells #[.string ⟨#[]⟩, .int .u64 0, .int .u64 0, .slice none 0 0, .slice none 0 0, .slice none 0 0] 34))
      have hs_1 : ((w1.drew).alloc (.cells #[.string ⟨#[]⟩, .int .u64 0, .int .u64 0, .slice none 0 0, .slice none 0 0, .slice none 0 0] 34)).heap.size = w1.heap.size + 1 := by simp
      rw [hs_1] at f0_2
      have hb_2 := hb_1.alloc hb_1.size (.cells (bcells (List.replicate 32 0)).toArray 5)
      refine hK.out _ _ trivial (fun _ => ?_)
      clear hK K
      refine wpAnyH_ready (rs := [1, 2]) (by kernel_rfl) (by simp) ?_
      refine AllReadyH.cons rfl (fun K hK => ?_) ?_
      · go_simp
        have f4_3 := Sx.alloc f4_2 (.cells (bcells (List.replicate 32 0)).toArray 5)
        have f0_3 := Zr.alloc f0_2 (.cells (bcells (List.replicate 32 0)).toArray 5)
        have f1_3 := Zr.new (((w1.drew).alloc (.cells #[.string ⟨#[]⟩, .int .u64 0, .int .u64 0, .slice none 0 0, .slice none 0 0, .slice none 0 0] 34)).alloc (.cells (bcells (List.replicate 32 0)).toArray 5))
        have hs_2 : (((w1.drew).alloc (.cells #[.string ⟨#[]⟩, .int .u64 0, .int .u64 0, .slice none 0 0, .slice none 0 0, .slice none 0 0] 34)).alloc (.cells (bcells (List.replicate 32 0)).toArray 5)).heap.size = w1.heap.size + 1 + 1 := by simp
        rw [hs_2] at f1_3
        have hb_3 := hb_2.alloc hb_2.size (.cells (bcells (List.replicate 32 0)).toArray 5)
        refine hK.out _ _ trivial (fun _ => ?_)
        clear hK K
        refine wpAnyH_ready (rs := [2]) (by kernel_rfl) (by simp) ?_
        refine AllReadyH.cons rfl (fun K hK => ?_) ?_
        · go_simp
          have f4_4 := Sx.alloc f4_3 (.cells (bcells (List.replicate 32 0)).toArray 5)
          have f0_4 := Zr.alloc f0_3 (.cells (bcells (List.replicate 32 0)).toArray 5)
          have f1_4 := Zr.alloc f1_3 (.cells (bcells (List.replicate 32 0)).toArray 5)
          have f2_4 := Zr.new ((((w1.drew).alloc (.cells #[.string ⟨#[]⟩, .int .u64 0, .int .u64 0, .slice none 0 0, .slice none 0 0, .slice none 0 0] 34)).alloc (.cells (bcells (List.replicate 32 0)).toArray 5)).alloc (.cells (bcells (List.replicate 32 0)).toArray 5))
          have hs_3 : ((((w1.drew).alloc (.cells #[.string ⟨#[]⟩, .int .u64 0, .int .u64 0, .slice none 0 0, .slice none 0 0, .slice none 0 0] 34)).alloc (.cells (bcells (List.replicate 32 0)).toArray 5)).alloc (.cells (bcells (List.replicate 32 0)).toArray 5)).heap.size = w1.heap.size + 1 + 1 + 1 := by simp
          rw [hs_3] at f2_4
          have hb_4 := hb_3.alloc hb_3.size (.cells (bcells (List.replicate 32 0)).toArray 5)
          refine hK.out _ _ trivial (fun _ => ?_)
          clear hK K
          refine wpAnyH_take (i := 3) (oi := _) (v := ?_) rfl (by kernel_rfl) (by kernel_rfl) (by kernel_rfl) (fun _ _ _ h => h) (Or.inl ⟨by rfl, ?_⟩) trivial ?_
          rotate_left
          · intro W hSW
            try go_simp
            all_goals with_reducible rfl
          simp only [Act.put, List.setIfInBounds_toArray, List.set_cons_zero, List.set_cons_succ, List.getElem_toArray, List.getElem_cons_zero, List.getElem_cons_succ]
          refine wpAnyH_listed (L' := #[true, true, true, true, true, false]) (by kernel_rfl) ?_
          refine HN _ _ ⟨w1.heap.size + 1, w1.heap.size + 1 + 1, w1.heap.size + 1 + 1 + 1, w1.heap.size, by kernel_rfl, f0_4, f1_4, f2_4, f4_4, hb_4, hg4⟩
        exact AllReadyH.nil
      refine AllReadyH.cons rfl (fun K hK => ?_) ?_
      · go_simp
        have f4_3 := Sx.alloc f4_2 (.cells (bcells (List.replicate 32 0)).toArray 5)
        have f0_3 := Zr.alloc f0_2 (.cells (bcells (List.replicate 32 0)).toArray 5)
        have f2_3 := Zr.new (((w1.drew).alloc (.cells #[.string ⟨#[]⟩, .int .u64 0, .int .u64 0, .slice none 0 0, .slice none 0 0, .slice none 0 0] 34)).alloc (.cells (bcells (List.replicate 32 0)).toArray 5))
        have hs_2 : (((w1.drew).alloc (.cells #[.string ⟨#[]⟩, .int .u64 0, .int .u64 0, .slice none 0 0, .slice none 0 0, .slice none 0 0] 34)).alloc (.cells (bcells (List.replicate 32 0)).toArray 5)).heap.size = w1.heap.size + 1 + 1 := by simp
        rw [hs_2] at f2_3
        have hb_3 := hb_2.alloc hb_2.size (.cells (bcells (List.replicate 32 0)).toArray 5)
        refine hK.out _ _ trivial (fun _ => ?_)
        clear hK K
        refine wpAnyH_ready (rs := [1]) (by kernel_rfl) (by simp) ?_
        refine AllReadyH.cons rfl (fun K hK => ?_) ?_
        · go_simp
          have f4_4 := Sx.alloc f4_3 (.cells (bcells (List.replicate 32 0)).toArray 5)
          have f0_4 := Zr.alloc f0_3 (.cells (bcells (List.replicate 32 0)).toArray 5)
          have f2_4 := Zr.alloc f2_3 (.cells (bcells (List.replicate 32 0)).toArray 5)
          have f1_4 := Zr.new ((((w1.drew).alloc (.cells #[.string ⟨#[]⟩, .int .u64 0, .int .u64 0, .slice none 0 0, .slice none 0 0, .slice none 0 0] 34)).alloc (.cells (bcells (List.replicate 32 0)).toArray 5)).alloc (.cells (bcells (List.replicate 32 0)).toArray 5))
          have hs_3 : ((((w1.drew).alloc (.cells #[.string ⟨#[]⟩, .int .u64 0, .int .u64 0, .slice none 0 0, .slice none 0 0, .slice none 0 0] 34)).alloc (.cells (bcells (List.replicate 32 0)).toArray 5)).alloc (.cells (bcells (List.replicate 32 0)).toArray 5)).heap.size = w1.heap.size + 1 + 1 + 1 := by simp
          rw [hs_3] at f1_4
          have hb_4 := hb_3.alloc hb_3.size (.cells (bcells (List.replicate 32 0)).toArray 5)
          refine hK.out _ _ trivial (fun _ => ?_)
          clear hK K
          refine wpAnyH_take (i := 3) (oi := _) (v := ?_) rfl (by kernel_rfl) (by kernel_rfl) (by kernel_rfl) (fun _ _ _ h => h) (Or.inl ⟨by rfl, ?_⟩) trivial ?_
          rotate_left
          · intro W hSW
            try go_simp
            all_goals with_reducible rfl
          simp only [Act.put, List.setIfInBounds_toArray, List.set_cons_zero, List.set_cons_succ, List.getElem_toArray, List.getElem_cons_zero, List.getElem_cons_succ]
          refine wpAnyH_listed (L' := #[true, true, true, true, true, false]) (by kernel_rfl) ?_
          refine HN _ _ ⟨w1.heap.size + 1, w1.heap.size + 1 + 1 + 1, w1.heap.size + 1 + 1, w1.heap.size, by kernel_rfl, f0_4, f1_4, f2_4, f4_4, hb_4, hg4⟩
        exact AllReadyH.nil
      exact AllReadyH.nil
    refine AllReadyH.cons rfl (fun K hK => ?_) ?_
    · go_simp
      have f4_2 := Sx.alloc f4_1 (.cells (bcells (List.replicate 32 0)).toArray 5)
      have f1_2 := Zr.new ((w1.drew).alloc (.cells #[.string ⟨#[]⟩, .int .u64 0, .int .u64 0, .slice none 0 0, .slice none 0 0, .slice none 0 0] 34))
      have hs_1 : ((w1.drew).alloc (.cells #[.string ⟨#[]⟩, .int .u64 0, .int .u64 0, .slice none 0 0, .slice none 0 0, .slice none 0 0] 34)).heap.size = w1.heap.size + 1 := by simp
      rw [hs_1] at f1_2
      have hb_2 := hb_1.alloc hb_1.size (.cells (bcells (List.replicate 32 0)).toArray 5)
      refine hK.out _ _ trivial (fun _ => ?_)
      clear hK K
      refine wpAnyH_ready (rs := [0, 2]) (by kernel_rfl) (by simp) ?_
      refine AllReadyH.cons rfl (fun K hK => ?_) ?_
      · go_simp
        have f4_3 := Sx.alloc f4_2 (.cells (bcells (List.replicate 32 0)).toArray 5)
        have f1_3 := Zr.alloc f1_2 (.cells (bcells (List.replicate 32 0)).toArray 5)
        have f0_3 := Zr.new (((w1.drew).alloc (.cells #[.string ⟨#[]⟩, .int .u64 0, .int .u64 0, .slice none 0 0, .slice none 0 0, .slice none 0 0] 34)).alloc (.cells (bcells (List.replicate 32 0)).toArray 5))
        have hs_2 : (((w1.drew).alloc (.cells #[.string ⟨#[]⟩, .int .u64 0, .int .u64 0, .slice none 0 0, .slice none 0 0, .slice none 0 0] 34)).alloc (.cells (bcells (List.replicate 32 0)).toArray 5)).heap.size = w1.heap.size + 1 + 1 := by simp
        rw [hs_2] at f0_3
        have hb_3 := hb_2.alloc hb_2.size (.cells (bcells (List.replicate 32 0)).toArray 5)
        refine hK.out _ _ trivial (fun _ => ?_)
        clear hK K
        refine wpAnyH_ready (rs := [2]) (by kernel_rfl) (by simp) ?_
        refine AllReadyH.cons rfl (fun K hK => ?_) ?_
        · go_simp
          have f4_4 := Sx.alloc f4_3 (.cells (bcells (List.replicate 32 0)).toArray 5)
          have f1_4 := Zr.alloc f1_3 (.cells (bcells (List.replicate 32 0)).toArray 5)
          have f0_4 := Zr.alloc f0_3 (.cells (bcells (List.replicate 32 0)).toArray 5)
          have f2_4 := Zr.new ((((w1.drew).alloc (.cells #[.string ⟨#[]⟩, .int .u64 0, .int .u64 0, .slice none 0 0, .slice none 0 0, .slice none 0 0] 34)).alloc (.cells (bcells (List.replicate 32 0)).toArray 5)).alloc (.cells (bcells (List.replicate 32 0)).toArray 5))
          have hs_3 : ((((w1.drew).alloc (.cells #[.string ⟨#[]⟩, .int .u64 0, .int .u64 0, .slice none 0 0, .slice none 0 0, .slice none 0 0] 34)).alloc (.cells (bcells (List.replicate 32 0)).toArray 5)).alloc (.cells (bcells (List.replicate 32 0)).toArray 5)).heap.size = w1.heap.size + 1 + 1 + 1 := by simp
          rw [hs_3] at f2_4
          have hb_4 := hb_3.alloc hb_3.size (.cells (bcells (List.replicate 32 0)).toArray 5)
          refine hK.out _ _ trivial (fun _ => ?_)
          clear hK K
          refine wpAnyH_take (i := 3) (oi := _) (v := ?_) rfl (by kernel_rfl) (by kernel_rfl) (by kernel_rfl) (fun _ _ _ h => h) (Or.inl ⟨by rfl, ?_⟩) trivial ?_
          rotate_left
          · intro W hSW
            try go_simp
            all_goals with_reducible rfl
          simp only [Act.put, List.setIfInBounds_toArray, List.set_cons_zero, List.set_cons_succ, List.getElem_toArray, List.getElem_cons_zero, List.getElem_cons_succ]
          refine wpAnyH_listed (L' := #[true, true, true, true, true, false]) (by kernel_rfl) ?_
          refine HN _ _ ⟨w1.heap.size + 1 + 1, w1.heap.size + 1, w1.heap.size + 1 + 1 + 1, w1.heap.size, by kernel_rfl, f0_4, f1_4, f2_4, f4_4, hb_4, hg4⟩
        exact AllReadyH.nil
      refine AllReadyH.cons rfl (fun K hK => ?_) ?_
      · go_simp
        have f4_3 := Sx.alloc f4_2 (.cells (bcells (List.replicate 32 0)).toArray 5)
        have f1_3 := Zr.alloc f1_2 (.cells (bcells (List.replicate 32 0)).toArray 5)
        have f2_3 := Zr.new (((w1.drew).alloc (.cells #[.string ⟨#[]⟩, .int .u64 0, .int .u64 0, .slice none 0 0, .slice none 0 0, .slice none 0 0] 34)).alloc (.cells (bcells (List.replicate 32 0)).toArray 5))
        have hs_2 : (((w1.drew).alloc (.cells #[.string ⟨#[]⟩, .int .u64 0, .int .u64 0, .slice none 0 0, .slice none 0 0, .slice none 0 0] 34)).alloc (.cells (bcells (List.replicate 32 0)).toArray 5)).heap.size = w1.heap.size + 1 + 1 := by simp
        rw [hs_2] at f2_3
        have hb_3 := hb_2.alloc hb_2.size (.cells (bcells (List.replicate 32 0)).toArray 5)
        refine hK.out _ _ trivial (fun _ => ?_)
        clear hK K
        refine wpAnyH_ready (rs := [0]) (by kernel_rfl) (by simp) ?_
        refine AllReadyH.cons rfl (fun K hK => ?_) ?_
        · go_simp
          have f4_4 := Sx.alloc f4_3 (.cells (bcells (List.replicate 32 0)).toArray 5)
          have f1_4 := Zr.alloc f1_3 (.cells (bcells (List.replicate 32 0)).toArray 5)
          have f2_4 := Zr.alloc f2_3 (.cells (bcells (List.replicate 32 0)).toArray 5)
          have f0_4 := Zr.new ((((w1.drew).alloc (.cells #[.string ⟨#[]⟩, .int .u64 0, .int .u64 0, .slice none 0 0, .slice none 0 0, .slice none 0 0] 34)).alloc (.cells (bcells (List.replicate 32 0)).toArray 5)).alloc (.cells (bcells (List.replicate 32 0)).toArray 5))
          have hs_3 : ((((w1.drew).alloc (.cells #[.string ⟨#[]⟩, .int .u64 0, .int .u64 0, .slice none 0 0, .slice none 0 0, .slice none 0 0] 34)).alloc (.cells (bcells (List.replicate 32 0)).toArray 5)).alloc (.cells (bcells (List.replicate 32 0)).toArray 5)).heap.size = w1.heap.size + 1 + 1 + 1 := by simp
          rw [hs_3] at f0_4
          have hb_4 := hb_3.alloc hb_3.size (.cells (bcells (List.replicate 32 0)).toArray 5)
          refine hK.out _ _ trivial (fun _ => ?_)
          clear hK K
          refine wpAnyH_take (i := 3) (oi := _) (v := ?_) rfl (by kernel_rfl) (by kernel_rfl) (by kernel_rfl) (fun _ _ _ h => h) (Or.inl ⟨by rfl, ?_⟩) trivial ?_
          rotate_left
          · intro W hSW
            try go_simp
            all_goals with_reducible rfl
          simp only [Act.put, List.setIfInBounds_toArray, List.set_cons_zero, List.set_cons_succ, List.getElem_toArray, List.getElem_cons_zero, List.getElem_cons_succ]
          refine wpAnyH_listed (L' := #[true, true, true, true, true, false]) (by kernel_rfl) ?_
          refine HN _ _ ⟨w1.heap.size + 1 + 1 + 1, w1.heap.size + 1, w1.heap.size + 1 + 1, w1.heap.size, by kernel_rfl, f0_4, f1_4, f2_4, f4_4, hb_4, hg4⟩
        exact AllReadyH.nil
      exact AllReadyH.nil
    refine AllReadyH.cons rfl (fun K hK => ?_) ?_
    · go_simp
      have f4_2 := Sx.alloc f4_1 (.cells (bcells (List.replicate 32 0)).toArray 5)
      have f2_2 := Zr.new ((w1.drew).alloc (.cells #[.string ⟨#[]⟩, .int .u64 0, .int .u64 0, .slice none 0 0, .slice none 0 0, .slice none 0 0] 34))
      have hs_1 : ((w1.drew).alloc (.cells #[.string ⟨#[]⟩, .int .u64 0, .int .u64 0, .slice none 0 0, .slice none 0 0, .slice none 0 0] 34)).heap.size = w1.heap.size + 1 := by simp
      rw [hs_1] at f2_2
      have hb_2 := hb_1.alloc hb_1.size (.cells (bcells (List.replicate 32 0)).toArray 5)
      refine hK.out _ _ trivial (fun _ => ?_)
      clear hK K
      refine wpAnyH_ready (rs := [0, 1]) (by kernel_rfl) (by simp) ?_
      refine AllReadyH.cons rfl (fun K hK => ?_) ?_
      · go_simp
        have f4_3 := Sx.alloc f4_2 (.cells (bcells (List.replicate 32 0)).toArray 5)
        have f2_3 := Zr.alloc f2_2 (.cells (bcells (List.replicate 32 0)).toArray 5)
        have f0_3 := Zr.new (((w1.drew).alloc (.cells #[.string ⟨#[]⟩, .int .u64 0, .int .u64 0, .slice none 0 0, .slice none 0 0, .slice none 0 0] 34)).alloc (.cells (bcells (List.replicate 32 0)).toArray 5))
        have hs_2 : (((w1.drew).alloc (.cells #[.string ⟨#[]⟩, .int .u64 0, .int .u64 0, .slice none 0 0, .slice none 0 0, .slice none 0 0] 34)).alloc (.cells (bcells (List.replicate 32 0)).toArray 5)).heap.size = w1.heap.size + 1 + 1 := by simp
        rw [hs_2] at f0_3
        have hb_3 := hb_2.alloc hb_2.size (.cells (bcells (List.replicate 32 0)).toArray 5)
        refine hK.out _ _ trivial (fun _ => ?_)
        clear hK K
        refine wpAnyH_ready (rs := [1]) (by kernel_rfl) (by simp) ?_
        refine AllReadyH.cons rfl (fun K hK => ?_) ?_
        · go_simp
          have f4_4 := Sx.alloc f4_3 (.cells (bcells (List.replicate 32 0)).toArray 5)
          have f2_4 := Zr.alloc f2_3 (.cells (bcells (List.replicate 32 0)).toArray 5)
          have f0_4 := Zr.alloc f0_3 (.cells (bcells (List.replicate 32 0)).toArray 5)
          have f1_4 := Zr.new ((((w1.drew).alloc (.cells #[.string ⟨#[]⟩, .int .u64 0, .int .u64 0, .slice none 0 0, .slice none 0 0, .slice none 0 0] 34)).alloc (.cells (bcells (List.replicate 32 0)).toArray 5)).alloc (.cells (bcells (List.replicate 32 0)).toArray 5))
          have hs_3 : ((((w1.drew).alloc (.cells #[.string ⟨#[]⟩, .int .u64 0, .int .u64 0, .slice none 0 0, .slice none 0 0, .slice none 0 0] 34)).alloc (.cells (bcells (List.replicate 32 0)).toArray 5)).alloc (.cells (bcells (List.replicate 32 0)).toArray 5)).heap.size = w1.heap.size + 1 + 1 + 1 := by simp
          rw [hs_3] at f1_4
          have hb_4 := hb_3.alloc hb_3.size (.cells (bcells (List.replicate 32 0)).toArray 5)
          refine hK.out _ _ trivial (fun _ => ?_)
          clear hK K
          refine wpAnyH_take (i := 3) (oi := _) (v := ?_) rfl (by kernel_rfl) (by kernel_rfl) (by kernel_rfl) (fun _ _ _ h => h) (Or.inl ⟨by rfl, ?_⟩) trivial ?_
          rotate_left
          · intro W hSW
            try go_simp
            all_goals with_reducible rfl
          simp only [Act.put, List.setIfInBounds_toArray, List.set_cons_zero, List.set_cons_succ, List.getElem_toArray, List.getElem_cons_zero, List.getElem_cons_succ]
          refine wpAnyH_listed (L' := #[true, true, true, true, true, false]) (by kernel_rfl) ?_
          refine HN _ _ ⟨w1.heap.size + 1 + 1, w1.heap.size + 1 + 1 + 1, w1.heap.size + 1, w1.heap.size, by kernel_rfl, f0_4, f1_4, f2_4, f4_4, hb_4, hg4⟩
        exact AllReadyH.nil
      refine AllReadyH.cons rfl (fun K hK => ?_) ?_
      · go_simp
        have f4_3 := Sx.alloc f4_2 (.cells (bcells (List.replicate 32 0)).toArray 5)
        have f2_3 := Zr.alloc f2_2 (.cells (bcells (List.replicate 32 0)).toArray 5)
        have f1_3 := Zr.new (((w1.drew).alloc (.cells #[.string ⟨#[]⟩, .int .u64 0, .int .u64 0, .slice none 0 0, .slice none 0 0, .slice none 0 0] 34)).alloc (.cells (bcells (List.replicate 32 0)).toArray 5))
        have hs_2 : (((w1.drew).alloc (.cells #[.string ⟨#[]⟩, .int .u64 0, .int .u64 0, .slice none 0 0, .slice none 0 0, .slice none 0 0] 34)).alloc (.cells (bcells (List.replicate 32 0)).toArray 5)).heap.size = w1.heap.size + 1 + 1 := by simp
        rw [hs_2] at f1_3
        have hb_3 := hb_2.alloc hb_2.size (.cells (bcells (List.replicate 32 0)).toArray 5)
        refine hK.out _ _ trivial (fun _ => ?_)
        clear hK K
        refine wpAnyH_ready (rs := [0]) (by kernel_rfl) (by simp) ?_
        refine AllReadyH.cons rfl (fun K hK => ?_) ?_
        · go_simp
          have f4_4 := Sx.alloc f4_3 (.cells (bcells (List.replicate 32 0)).toArray 5)
          have f2_4 := Zr.alloc f2_3 (.cells (bcells (List.replicate 32 0)).toArray 5)
          have f1_4 := Zr.alloc f1_3 (.cells (bcells (List.replicate 32 0)).toArray 5)
          have f0_4 := Zr.new ((((w1.drew).alloc (.cells #[.string ⟨#[]⟩, .int .u64 0, .int .u64 0, .slice none 0 0, .slice none 0 0, .slice none 0 0] 34)).alloc (.cells (bcells (List.replicate 32 0)).toArray 5)).alloc (.cells (bcells (List.replicate 32 0)).toArray 5))
          have hs_3 : ((((w1.drew).alloc (.cells #[.string ⟨#[]⟩, .int .u64 0, .int .u64 0, .slice none 0 0, .slice none 0 0, .slice none 0 0] 34)).alloc (.cells (bcells (List.replicate 32 0)).toArray 5)).alloc (.cells (bcells (List.replicate 32 0)).toArray 5)).heap.size = w1.heap.size + 1 + 1 + 1 := by simp
          rw [hs_3] at f0_4
          have hb_4 := hb_3.alloc hb_3.size (.cells (bcells (List.replicate 32 0)).toArray 5)
          refine hK.out _ _ trivial (fun _ => ?_)
          clear hK K
          refine wpAnyH_take (i := 3) (oi := _) (v := ?_) rfl (by kernel_rfl) (by kernel_rfl) (by kernel_rfl) (fun _ _ _ h => h) (Or.inl ⟨by rfl, ?_⟩) trivial ?_
          rotate_left
          · intro W hSW
            try go_simp
            all_goals with_reducible rfl
          simp only [Act.put, List.setIfInBounds_toArray, List.set_cons_zero, List.set_cons_succ, List.getElem_toArray, List.getElem_cons_zero, List.getElem_cons_succ]
          refine wpAnyH_listed (L' := #[true, true, true, true, true, false]) (by kernel_rfl) ?_
          refine HN _ _ ⟨w1.heap.size + 1 + 1 + 1, w1.heap.size + 1 + 1, w1.heap.size + 1, w1.heap.size, by kernel_rfl, f0_4, f1_4, f2_4, f4_4, hb_4, hg4⟩
        exact AllReadyH.nil
      exact AllReadyH.nil
    exact AllReadyH.nil
  exact AllReadyH.nil
end Go.Proofs.YtmphegeiclgjbaaGreatDoor
