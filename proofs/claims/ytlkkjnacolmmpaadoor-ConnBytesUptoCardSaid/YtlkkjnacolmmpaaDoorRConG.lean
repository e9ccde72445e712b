
/- The walks of connections and channels, the document's being read. -/
import Derived.Test.YtlkkjnacolmmpaaDoorCliM
import Derived.Test.YtlkkjnacolmmpaaDoorRStoG
import Derived.Test.YtlkkjnacolmmpaaDoorWireDoc0
import Derived.Test.YtlkkjnacolmmpaaDoorNameG0
namespace Go.Proofs.YtlkkjnacolmmpaaDoor
set_option maxRecDepth 100000
open Go Go.RowKit
set_option linter.unusedVariables false

/-- a document's store that can be read -/
structure RGet (w : World) (b : Nat) (R : List Pr) : Prop where
  get : ∀ Z, Below w.heap.size w Z → ∀ key : ByteArray, key.size ≤ maxLen → Calls Tryd.prog 51 #[.pointer (some ⟨b, 0, none⟩), .string key] Z fun e w' => ∃ v, e = .returned (.tuple #[v, .bool (getL R key).isSome]) ∧ Own w' Z.heap.size v ((getL R key).getD []) ∧ Below Z.heap.size Z w'
  short : ∀ key v, getL R key = some v → v.length ≤ 2000000
theorem RdP.keptX {w w' : World} {v : Value} {ps : List Pr} (h : RdP w w.heap.size v ps) (hk : Kept w w') : RdP w' w'.heap.size v ps := by
  have hsz : w.heap.size ≤ w'.heap.size := by obtain ⟨F, h1, _⟩ := hk; exact h1.size
  obtain ⟨A, c, hv, h1, h2, hp⟩ := h
  refine ⟨A, c, hv, h1, h2, fun h0 => ?_⟩
  obtain ⟨b, o, hA, hb, hcell⟩ := hp h0
  refine ⟨b, o, hA, by omega, fun j hj => ?_⟩
  obtain ⟨q1, x, q2, q3⟩ := hcell j hj
  exact ⟨hk.cell q1, x, hk.cell q2, hk.rd q3⟩
theorem DocS.upX {w w' : World} {b : Nat} {R : List Pr} (h : DocS w b R) (hb : Below w.heap.size w w') : DocS w' b R := by
  obtain ⟨v, h1, h2⟩ := h
  exact ⟨v, (hb.block _ (blk_lt h1)).trans h1, h2.keptX (Kept.of_belowX hb)⟩
theorem RGet.of {w : World} {b : Nat} {R : List Pr} (h : DocS w b R) (hn : R.length ≤ 100000000) (hv : ∀ p ∈ R, p.2.length ≤ 2000000) : RGet w b R where
  get := fun Z hz key _ => rget_any (h.upX hz) hn hv key
  short := fun key v e => hv _ (getL_mem e)
theorem RGet.up {w w' : World} {b : Nat} {R : List Pr} (h : RGet w b R) (hb : Below w.heap.size w w') : RGet w' b R where
  get := fun Z hz key hk => h.get Z (below_chain hb hb.size hz) key hk
  short := h.short
theorem rcnkey_any (a : ByteArray) (w : World) (ha : a.size ≤ 100000000) : Calls Tryd.prog 12 #[.string a] w fun e w' => e = .returned (.string (kConn a)) ∧ w = w' := by
  have s1 : connP.size = 9 := rfl
  have h1 := fun W => txt_add connP a (by rw [s1]; omega) W
  unfold kConn
  unfold connP at *
  go_enter Tryd.func12, Tryd.ntmps12
  go_wp2
  go_ret
  exact ⟨rfl, rfl⟩
theorem rchkey_any (a : ByteArray) (w : World) (ha : a.size ≤ 100000000) : Calls Tryd.prog 65 #[.string a] w fun e w' => e = .returned (.string (kChn a)) ∧ w = w' := by
  have s1 : chanP.size = 9 := rfl
  have h1 := fun W => txt_add chanP a (by rw [s1]; omega) W
  unfold kChn
  unfold chanP at *
  go_enter Tryd.func65, Tryd.ntmps65
  go_wp2
  go_ret
  exact ⟨rfl, rfl⟩
set_option maxHeartbeats 8000000 in
theorem rcnget_any {w : World} {b : Nat} {R : List Pr} (h : RGet w b R) (a : ByteArray) (ha : a.size ≤ 100000000) :
    Calls Tryd.prog 14 #[.pointer (some ⟨b, 0, none⟩), .string a] w fun e w' => e = .returned (cnV (getCn R a)) ∧ Below w.heap.size w w' := by
  have HG := Lib.hid (fun (Z : World) (hz : Below w.heap.size w Z) => h.get Z hz (kConn a) (by rw [kConn_size]; unfold maxLen; omega))
  have HFT : Hid (∀ v, getL R (kConn a) = some v → v.length ≤ 2000000) := Lib.hid (fun v e => h.short _ v e)
  obtain ⟨B, hB⟩ : ∃ B : Addr, B = ⟨b, 0, none⟩ := ⟨_, rfl⟩
  rw [← hB] at HG ⊢
  clear hB h
  have HK := Lib.hid (fun W => (rcnkey_any a W ha).mono fun e w' ⟨h1, h2⟩ => (⟨h1, h2.symm⟩ : _ ∧ w' = W))
  have HI : Hid (∀ Z : World, Calls Tryd.prog 52 #[.string a] Z fun e w' => e = .returned (.bool (identB a)) ∧ Z = w') := Lib.hid fun Z => rident_any a Z (by unfold maxLen; omega)
  obtain ⟨V, hV⟩ : ∃ V, V = cnV (getCn R a) := ⟨_, rfl⟩
  rw [← hV]
  unfold getCn at hV
  generalize getL R (kConn a) = o at *
  generalize kConn a = key at *
  generalize identB a = bi at *
  have hk0 := heap_alloc_new w (.cells #[.int .u64 0, .string ⟨#[]⟩, .string ⟨#[]⟩, .string ⟨#[]⟩] 37)
  have ha0 : Below w.heap.size w (w.alloc (.cells #[.int .u64 0, .string ⟨#[]⟩, .string ⟨#[]⟩, .string ⟨#[]⟩] 37)) := (Below.refl _ _).alloc (Nat.le_refl _) _
  go_enter Tryd.func14, Tryd.ntmps14
  go_wp2_with fail
  generalize w.alloc (.cells #[.int .u64 0, .string ⟨#[]⟩, .string ⟨#[]⟩, .string ⟨#[]⟩] 37) = w0 at *
  refine (HK.out _).mono ?_
  rintro e w9 ⟨rfl, rfl⟩
  go_wp2_with fail
  refine (HG.out _ ha0).mono ?_
  rintro e w1 ⟨v, rfl, hov, hb1⟩
  have hq1 := below_chain ha0 ha0.size hb1
  have hk1 := (hb1.block _ (blk_lt hk0)).trans hk0
  have hl0 := blk_lt hk0
  obtain ⟨gr, hgr⟩ : ∃ gr, gr = w.heap.size := ⟨_, rfl⟩
  rw [← hgr] at hk1
  clear HG HK ha0 hk0 hb1
  cases o with
  | none =>
    have hv : V = .tuple #[CnV.none.val, .bool false] := by rw [hV]; cases bi <;> rfl
    obtain ⟨A, c, rfl⟩ := hov.form
    have r0 := blk_cell hk1 0
    have q0 := blk_free hk1 0
    have r1 := blk_cell hk1 1
    have q1 := blk_free hk1 1
    have r2 := blk_cell hk1 2
    have q2 := blk_free hk1 2
    have r3 := blk_cell hk1 3
    have q3 := blk_free hk1 3
    clear hov HFT hV HI
    subst hgr
    have hk7 := set4P hk1 (.int .u64 0) (.string ⟨#[]⟩) (.string ⟨#[]⟩) (.string ⟨#[]⟩)
    have hb7 := below_set4P hq1 (Nat.le_refl _) (.int .u64 0) (.string ⟨#[]⟩) (.string ⟨#[]⟩) (.string ⟨#[]⟩)
    have HD := Lib.hid (And.intro (blk_cell hk7 0) (And.intro (blk_cell hk7 1) (And.intro (blk_cell hk7 2) (blk_cell hk7 3))))
    have HVV := Lib.hid hv
    clear hk7 hv
    go_wp2_with fail
    obtain ⟨d0, d1, d2, d3⟩ := HD.out
    refine bodyPost_ret (v := V) ?_ rfl ⟨rfl, hb7⟩
    rw [HVV.out]
    simp at d0 d1 d2 d3
    simp [results, Tryd.results14, go_sem, d0, d1, d2, d3, CnV.val, CnV.none]
  | some l =>
    have hll := HFT.out l rfl
    have HO := Lib.hid (open_dd v l w1 hov.rd (by omega))
    obtain ⟨A, c, rfl⟩ := hov.form
    clear hov HFT
    go_wp2_with fail
    refine (HI.out _).mono ?_
    rintro e w9 ⟨rfl, rfl⟩
    clear HI
    cases bi with
    | false =>
      have hv : V = .tuple #[CnV.none.val, .bool false] := by rw [hV]; rfl
      have r0 := blk_cell hk1 0
      have q0 := blk_free hk1 0
      have r1 := blk_cell hk1 1
      have q1 := blk_free hk1 1
      have r2 := blk_cell hk1 2
      have q2 := blk_free hk1 2
      have r3 := blk_cell hk1 3
      have q3 := blk_free hk1 3
      clear hV HO
      subst hgr
      have hk7 := set4P hk1 (.int .u64 0) (.string ⟨#[]⟩) (.string ⟨#[]⟩) (.string ⟨#[]⟩)
      have hb7 := below_set4P hq1 (Nat.le_refl _) (.int .u64 0) (.string ⟨#[]⟩) (.string ⟨#[]⟩) (.string ⟨#[]⟩)
      have HD := Lib.hid (And.intro (blk_cell hk7 0) (And.intro (blk_cell hk7 1) (And.intro (blk_cell hk7 2) (blk_cell hk7 3))))
      have HVV := Lib.hid hv
      clear hk7 hv
      go_wp2_with fail
      obtain ⟨d0, d1, d2, d3⟩ := HD.out
      refine bodyPost_ret (v := V) ?_ rfl ⟨rfl, hb7⟩
      rw [HVV.out]
      simp at d0 d1 d2 d3
      simp [results, Tryd.results14, go_sem, d0, d1, d2, d3, CnV.val, CnV.none]
    | true =>
      have HV := Lib.hid (show V = cnV (readCn l) from hV)
      unfold cnV readCn at HV
      clear hV
      go_wp2_with fail
      refine HO.out.mono ?_
      rintro e w2 ⟨g, rfl, hr2, hb2⟩
      have hq2 := below_chain hq1 hq1.size hb2
      have hk2 := (hb2.block _ (blk_lt hk1)).trans hk1
      have hgl := hr2.lt
      have hlo := blk_lt hk1
      generalize w1.heap.size = lo at *
      clear HO hb2 hk1 hq1
      have hgi := hr2.from_
      obtain ⟨gd, hgd⟩ : ∃ gd, gd = w2.heap.size := ⟨_, rfl⟩
      have P1 : PZ 123 w gr gd lo g 37 37 #[.int .u64 0, .string ⟨#[]⟩, .string ⟨#[]⟩, .string ⟨#[]⟩] #[.int .u64 0, .string ⟨#[]⟩, .string ⟨#[]⟩, .string ⟨#[]⟩] l 0 (w2.alloc (.cells #[.int .u64 0, .string ⟨#[]⟩, .string ⟨#[]⟩, .string ⟨#[]⟩] 37)) :=
        ⟨hq2.alloc hq2.size _, by omega, by have := hq2.size; omega, (Below.heap_alloc w2 _ _ (blk_lt hk2)).trans hk2, by rw [hgd]; exact heap_alloc_new w2 _, hr2.below ((Below.refl _ _).alloc (Nat.le_refl _) _), by omega, by omega⟩
      clear hq2 hk2 hr2 hgl hlo hgi
      go_wp2_with fail
      rw [← hgd]
      generalize w2.alloc (.cells #[.int .u64 0, .string ⟨#[]⟩, .string ⟨#[]⟩, .string ⟨#[]⟩] 37) = wz at *
      clear hgd
      refine (dN_any P1.rd).mono ?_
      rintro e wa1 ⟨rfl, hr, hg⟩
      replace P1 := P1.call hg hr
      clear hr hg
      have b_xa := rN_ltP l 0
      generalize rN l 0 = Q at *
      obtain ⟨xa, l_xa, f_xa⟩ := Q
      dsimp only at P1 HV b_xa ⊢
      have z0 := blk_cell P1.loc 0
      have f0 := blk_free P1.loc 0
      have P2 : PZ 123 w gr gd lo g _ 37 _ #[.int .u64 (xa : Int), .string ⟨#[]⟩, .string ⟨#[]⟩, .string ⟨#[]⟩] l_xa f_xa ((wa1).setCell ⟨gd, 0, none⟩ (.int .u64 (xa : Int))) := (P1.set 0 (.int .u64 (xa : Int)))
      clear P1
      go_wp2_with fail
      generalize (wa1).setCell ⟨gd, 0, none⟩ (.int .u64 (xa : Int)) = wb1 at *
      refine (dT_any P2.rd).mono ?_
      rintro e wa2 ⟨rfl, hr, hg⟩
      replace P2 := P2.call hg hr
      clear hr hg
      have b_xb := rB_le l_xa f_xa
      generalize rB l_xa f_xa = Q at *
      obtain ⟨xb, l_xb, f_xb⟩ := Q
      dsimp only at P2 HV b_xb ⊢
      have z0 := blk_cell P2.loc 1
      have f0 := blk_free P2.loc 1
      have P3 : PZ 123 w gr gd lo g _ 37 _ #[.int .u64 (xa : Int), .string ⟨xb.toArray⟩, .string ⟨#[]⟩, .string ⟨#[]⟩] l_xb f_xb ((wa2).setCell ⟨gd, 1, none⟩ (.string ⟨xb.toArray⟩)) := (P2.set 1 (.string ⟨xb.toArray⟩))
      clear P2
      go_wp2_with fail
      generalize (wa2).setCell ⟨gd, 1, none⟩ (.string ⟨xb.toArray⟩) = wb2 at *
      refine (dT_any P3.rd).mono ?_
      rintro e wa3 ⟨rfl, hr, hg⟩
      replace P3 := P3.call hg hr
      clear hr hg
      have b_xc := rB_le l_xb f_xb
      generalize rB l_xb f_xb = Q at *
      obtain ⟨xc, l_xc, f_xc⟩ := Q
      dsimp only at P3 HV b_xc ⊢
      have z0 := blk_cell P3.loc 2
      have f0 := blk_free P3.loc 2
      have P4 : PZ 123 w gr gd lo g _ 37 _ #[.int .u64 (xa : Int), .string ⟨xb.toArray⟩, .string ⟨xc.toArray⟩, .string ⟨#[]⟩] l_xc f_xc ((wa3).setCell ⟨gd, 2, none⟩ (.string ⟨xc.toArray⟩)) := (P3.set 2 (.string ⟨xc.toArray⟩))
      clear P3
      go_wp2_with fail
      generalize (wa3).setCell ⟨gd, 2, none⟩ (.string ⟨xc.toArray⟩) = wb3 at *
      refine (dT_any P4.rd).mono ?_
      rintro e wa4 ⟨rfl, hr, hg⟩
      replace P4 := P4.call hg hr
      clear hr hg
      have b_xd := rB_le l_xc f_xc
      generalize rB l_xc f_xc = Q at *
      obtain ⟨xd, l_xd, f_xd⟩ := Q
      dsimp only at P4 HV b_xd ⊢
      have z0 := blk_cell P4.loc 3
      have f0 := blk_free P4.loc 3
      have P5 : PZ 123 w gr gd lo g _ 37 _ #[.int .u64 (xa : Int), .string ⟨xb.toArray⟩, .string ⟨xc.toArray⟩, .string ⟨xd.toArray⟩] l_xd f_xd ((wa4).setCell ⟨gd, 3, none⟩ (.string ⟨xd.toArray⟩)) := (P4.set 3 (.string ⟨xd.toArray⟩))
      clear P4
      go_wp2_with fail
      generalize (wa4).setCell ⟨gd, 3, none⟩ (.string ⟨xd.toArray⟩) = wb4 at *
      refine (dEnd_any P5.rd).mono ?_
      rintro e w7 ⟨rfl, rfl⟩
      generalize rEnd l_xd f_xd = E at *
      subst hgr
      by_cases hE : E = 0
      · subst hE
        have hv := HV.out
        rw [if_pos rfl] at hv
        (try dsimp only at hv)
        clear HV
        have r0 := blk_cell P5.res 0
        have q0 := blk_free P5.res 0
        have r1 := blk_cell P5.res 1
        have q1 := blk_free P5.res 1
        have r2 := blk_cell P5.res 2
        have q2 := blk_free P5.res 2
        have r3 := blk_cell P5.res 3
        have q3 := blk_free P5.res 3
        have s0 := blk_cell P5.loc 0
        have s1 := blk_cell P5.loc 1
        have s2 := blk_cell P5.loc 2
        have s3 := blk_cell P5.loc 3
        have hk7 := set4P P5.res (.int .u64 (xa : Int)) (.string ⟨xb.toArray⟩) (.string ⟨xc.toArray⟩) (.string ⟨xd.toArray⟩)
        have hb7 := below_set4P P5.below P5.hr (.int .u64 (xa : Int)) (.string ⟨xb.toArray⟩) (.string ⟨xc.toArray⟩) (.string ⟨xd.toArray⟩)
        have HD := Lib.hid (And.intro (blk_cell hk7 0) (And.intro (blk_cell hk7 1) (And.intro (blk_cell hk7 2) (blk_cell hk7 3))))
        have HVV := Lib.hid hv
        clear hk7 hv
        go_wp2_with fail
        obtain ⟨d0, d1, d2, d3⟩ := HD.out
        refine bodyPost_ret (v := V) ?_ rfl ⟨rfl, hb7⟩
        rw [HVV.out]
        simp at d0 d1 d2 d3
        simp [results, Tryd.results14, go_sem, d0, d1, d2, d3, CnV.val, CnV.none]
      · have hne : (E != 0) = true := by simpa using hE
        have hv := HV.out
        rw [if_neg hE] at hv
        (try dsimp only at hv)
        clear HV
        have r0 := blk_cell P5.res 0
        have q0 := blk_free P5.res 0
        have r1 := blk_cell P5.res 1
        have q1 := blk_free P5.res 1
        have r2 := blk_cell P5.res 2
        have q2 := blk_free P5.res 2
        have r3 := blk_cell P5.res 3
        have q3 := blk_free P5.res 3
        have hk7 := set4P P5.res (.int .u64 0) (.string ⟨#[]⟩) (.string ⟨#[]⟩) (.string ⟨#[]⟩)
        have hb7 := below_set4P P5.below P5.hr (.int .u64 0) (.string ⟨#[]⟩) (.string ⟨#[]⟩) (.string ⟨#[]⟩)
        have HD := Lib.hid (And.intro (blk_cell hk7 0) (And.intro (blk_cell hk7 1) (And.intro (blk_cell hk7 2) (blk_cell hk7 3))))
        have HVV := Lib.hid hv
        clear hk7 hv
        go_wp2_with fail
        obtain ⟨d0, d1, d2, d3⟩ := HD.out
        refine bodyPost_ret (v := V) ?_ rfl ⟨rfl, hb7⟩
        rw [HVV.out]
        simp at d0 d1 d2 d3
        simp [results, Tryd.results14, go_sem, d0, d1, d2, d3, CnV.val, CnV.none]
set_option maxHeartbeats 8000000 in
theorem rchget_any {w : World} {b : Nat} {R : List Pr} (h : RGet w b R) (a : ByteArray) (ha : a.size ≤ 100000000) :
    Calls Tryd.prog 19 #[.pointer (some ⟨b, 0, none⟩), .string a] w fun e w' => e = .returned (chV (getCh R a)) ∧ Below w.heap.size w w' := by
  have HG := Lib.hid (fun (Z : World) (hz : Below w.heap.size w Z) => h.get Z hz (kChn a) (by rw [kChn_size]; unfold maxLen; omega))
  have HFT : Hid (∀ v, getL R (kChn a) = some v → v.length ≤ 2000000) := Lib.hid (fun v e => h.short _ v e)
  obtain ⟨B, hB⟩ : ∃ B : Addr, B = ⟨b, 0, none⟩ := ⟨_, rfl⟩
  rw [← hB] at HG ⊢
  clear hB h
  have HK := Lib.hid (fun W => (rchkey_any a W ha).mono fun e w' ⟨h1, h2⟩ => (⟨h1, h2.symm⟩ : _ ∧ w' = W))
  have HI : Hid (∀ Z : World, Calls Tryd.prog 52 #[.string a] Z fun e w' => e = .returned (.bool (identB a)) ∧ Z = w') := Lib.hid fun Z => rident_any a Z (by unfold maxLen; omega)
  obtain ⟨V, hV⟩ : ∃ V, V = chV (getCh R a) := ⟨_, rfl⟩
  rw [← hV]
  unfold getCh at hV
  generalize getL R (kChn a) = o at *
  generalize kChn a = key at *
  generalize identB a = bi at *
  have hk0 := heap_alloc_new w (.cells #[.int .u64 0, .bool false, .string ⟨#[]⟩, .string ⟨#[]⟩, .string ⟨#[]⟩, .string ⟨#[]⟩, .string ⟨#[]⟩] 49)
  have ha0 : Below w.heap.size w (w.alloc (.cells #[.int .u64 0, .bool false, .string ⟨#[]⟩, .string ⟨#[]⟩, .string ⟨#[]⟩, .string ⟨#[]⟩, .string ⟨#[]⟩] 49)) := (Below.refl _ _).alloc (Nat.le_refl _) _
  go_enter Tryd.func19, Tryd.ntmps19
  go_wp2_with fail
  generalize w.alloc (.cells #[.int .u64 0, .bool false, .string ⟨#[]⟩, .string ⟨#[]⟩, .string ⟨#[]⟩, .string ⟨#[]⟩, .string ⟨#[]⟩] 49) = w0 at *
  refine (HK.out _).mono ?_
  rintro e w9 ⟨rfl, rfl⟩
  go_wp2_with fail
  refine (HG.out _ ha0).mono ?_
  rintro e w1 ⟨v, rfl, hov, hb1⟩
  have hq1 := below_chain ha0 ha0.size hb1
  have hk1 := (hb1.block _ (blk_lt hk0)).trans hk0
  have hl0 := blk_lt hk0
  obtain ⟨gr, hgr⟩ : ∃ gr, gr = w.heap.size := ⟨_, rfl⟩
  rw [← hgr] at hk1
  clear HG HK ha0 hk0 hb1
  cases o with
  | none =>
    have hv : V = .tuple #[ChV.none.val, .bool false] := by rw [hV]; cases bi <;> rfl
    obtain ⟨A, c, rfl⟩ := hov.form
    have r0 := blk_cell hk1 0
    have q0 := blk_free hk1 0
    have r1 := blk_cell hk1 1
    have q1 := blk_free hk1 1
    have r2 := blk_cell hk1 2
    have q2 := blk_free hk1 2
    have r3 := blk_cell hk1 3
    have q3 := blk_free hk1 3
    have r4 := blk_cell hk1 4
    have q4 := blk_free hk1 4
    have r5 := blk_cell hk1 5
    have q5 := blk_free hk1 5
    have r6 := blk_cell hk1 6
    have q6 := blk_free hk1 6
    clear hov HFT hV HI
    subst hgr
    have hk7 := set7P hk1 (.int .u64 0) (.bool false) (.string ⟨#[]⟩) (.string ⟨#[]⟩) (.string ⟨#[]⟩) (.string ⟨#[]⟩) (.string ⟨#[]⟩)
    have hb7 := below_set7P hq1 (Nat.le_refl _) (.int .u64 0) (.bool false) (.string ⟨#[]⟩) (.string ⟨#[]⟩) (.string ⟨#[]⟩) (.string ⟨#[]⟩) (.string ⟨#[]⟩)
    have HD := Lib.hid (And.intro (blk_cell hk7 0) (And.intro (blk_cell hk7 1) (And.intro (blk_cell hk7 2) (And.intro (blk_cell hk7 3) (And.intro (blk_cell hk7 4) (And.intro (blk_cell hk7 5) (blk_cell hk7 6)))))))
    have HVV := Lib.hid hv
    clear hk7 hv
    go_wp2_with fail
    obtain ⟨d0, d1, d2, d3, d4, d5, d6⟩ := HD.out
    refine bodyPost_ret (v := V) ?_ rfl ⟨rfl, hb7⟩
    rw [HVV.out]
    simp at d0 d1 d2 d3 d4 d5 d6
    simp [results, Tryd.results19, go_sem, d0, d1, d2, d3, d4, d5, d6, ChV.val, ChV.none]
  | some l =>
    have hll := HFT.out l rfl
    have HO := Lib.hid (open_dd v l w1 hov.rd (by omega))
    obtain ⟨A, c, rfl⟩ := hov.form
    clear hov HFT
    go_wp2_with fail
    refine (HI.out _).mono ?_
    rintro e w9 ⟨rfl, rfl⟩
    clear HI
    cases bi with
    | false =>
      have hv : V = .tuple #[ChV.none.val, .bool false] := by rw [hV]; rfl
      have r0 := blk_cell hk1 0
      have q0 := blk_free hk1 0
      have r1 := blk_cell hk1 1
      have q1 := blk_free hk1 1
      have r2 := blk_cell hk1 2
      have q2 := blk_free hk1 2
      have r3 := blk_cell hk1 3
      have q3 := blk_free hk1 3
      have r4 := blk_cell hk1 4
      have q4 := blk_free hk1 4
      have r5 := blk_cell hk1 5
      have q5 := blk_free hk1 5
      have r6 := blk_cell hk1 6
      have q6 := blk_free hk1 6
      clear hV HO
      subst hgr
      have hk7 := set7P hk1 (.int .u64 0) (.bool false) (.string ⟨#[]⟩) (.string ⟨#[]⟩) (.string ⟨#[]⟩) (.string ⟨#[]⟩) (.string ⟨#[]⟩)
      have hb7 := below_set7P hq1 (Nat.le_refl _) (.int .u64 0) (.bool false) (.string ⟨#[]⟩) (.string ⟨#[]⟩) (.string ⟨#[]⟩) (.string ⟨#[]⟩) (.string ⟨#[]⟩)
      have HD := Lib.hid (And.intro (blk_cell hk7 0) (And.intro (blk_cell hk7 1) (And.intro (blk_cell hk7 2) (And.intro (blk_cell hk7 3) (And.intro (blk_cell hk7 4) (And.intro (blk_cell hk7 5) (blk_cell hk7 6)))))))
      have HVV := Lib.hid hv
      clear hk7 hv
      go_wp2_with fail
      obtain ⟨d0, d1, d2, d3, d4, d5, d6⟩ := HD.out
      refine bodyPost_ret (v := V) ?_ rfl ⟨rfl, hb7⟩
      rw [HVV.out]
      simp at d0 d1 d2 d3 d4 d5 d6
      simp [results, Tryd.results19, go_sem, d0, d1, d2, d3, d4, d5, d6, ChV.val, ChV.none]
    | true =>
      have HV := Lib.hid (show V = chV (readCh l) from hV)
      unfold chV readCh at HV
      clear hV
      go_wp2_with fail
      refine HO.out.mono ?_
      rintro e w2 ⟨g, rfl, hr2, hb2⟩
      have hq2 := below_chain hq1 hq1.size hb2
      have hk2 := (hb2.block _ (blk_lt hk1)).trans hk1
      have hgl := hr2.lt
      have hlo := blk_lt hk1
      generalize w1.heap.size = lo at *
      clear HO hb2 hk1 hq1
      have hgi := hr2.from_
      obtain ⟨gd, hgd⟩ : ∃ gd, gd = w2.heap.size := ⟨_, rfl⟩
      have P1 : PZ 123 w gr gd lo g 49 49 #[.int .u64 0, .bool false, .string ⟨#[]⟩, .string ⟨#[]⟩, .string ⟨#[]⟩, .string ⟨#[]⟩, .string ⟨#[]⟩] #[.int .u64 0, .bool false, .string ⟨#[]⟩, .string ⟨#[]⟩, .string ⟨#[]⟩, .string ⟨#[]⟩, .string ⟨#[]⟩] l 0 (w2.alloc (.cells #[.int .u64 0, .bool false, .string ⟨#[]⟩, .string ⟨#[]⟩, .string ⟨#[]⟩, .string ⟨#[]⟩, .string ⟨#[]⟩] 49)) :=
        ⟨hq2.alloc hq2.size _, by omega, by have := hq2.size; omega, (Below.heap_alloc w2 _ _ (blk_lt hk2)).trans hk2, by rw [hgd]; exact heap_alloc_new w2 _, hr2.below ((Below.refl _ _).alloc (Nat.le_refl _) _), by omega, by omega⟩
      clear hq2 hk2 hr2 hgl hlo hgi
      go_wp2_with fail
      rw [← hgd]
      generalize w2.alloc (.cells #[.int .u64 0, .bool false, .string ⟨#[]⟩, .string ⟨#[]⟩, .string ⟨#[]⟩, .string ⟨#[]⟩, .string ⟨#[]⟩] 49) = wz at *
      clear hgd
      refine (dN_any P1.rd).mono ?_
      rintro e wa1 ⟨rfl, hr, hg⟩
      replace P1 := P1.call hg hr
      clear hr hg
      have b_xa := rN_ltP l 0
      generalize rN l 0 = Q at *
      obtain ⟨xa, l_xa, f_xa⟩ := Q
      dsimp only at P1 HV b_xa ⊢
      have z0 := blk_cell P1.loc 0
      have f0 := blk_free P1.loc 0
      have P2 : PZ 123 w gr gd lo g _ 49 _ #[.int .u64 (xa : Int), .bool false, .string ⟨#[]⟩, .string ⟨#[]⟩, .string ⟨#[]⟩, .string ⟨#[]⟩, .string ⟨#[]⟩] l_xa f_xa ((wa1).setCell ⟨gd, 0, none⟩ (.int .u64 (xa : Int))) := (P1.set 0 (.int .u64 (xa : Int)))
      clear P1
      go_wp2_with fail
      generalize (wa1).setCell ⟨gd, 0, none⟩ (.int .u64 (xa : Int)) = wb1 at *
      refine (dF_any P2.rd).mono ?_
      rintro e wa2 ⟨rfl, hr, hg⟩
      replace P2 := P2.call hg hr
      clear hr hg
      generalize rF l_xa f_xa = Q at *
      obtain ⟨xb, l_xb, f_xb⟩ := Q
      dsimp only at P2 HV ⊢
      have z0 := blk_cell P2.loc 1
      have f0 := blk_free P2.loc 1
      have P3 : PZ 123 w gr gd lo g _ 49 _ #[.int .u64 (xa : Int), .bool xb, .string ⟨#[]⟩, .string ⟨#[]⟩, .string ⟨#[]⟩, .string ⟨#[]⟩, .string ⟨#[]⟩] l_xb f_xb ((wa2).setCell ⟨gd, 1, none⟩ (.bool xb)) := (P2.set 1 (.bool xb))
      clear P2
      go_wp2_with fail
      generalize (wa2).setCell ⟨gd, 1, none⟩ (.bool xb) = wb2 at *
      refine (dT_any P3.rd).mono ?_
      rintro e wa3 ⟨rfl, hr, hg⟩
      replace P3 := P3.call hg hr
      clear hr hg
      have b_xc := rB_le l_xb f_xb
      generalize rB l_xb f_xb = Q at *
      obtain ⟨xc, l_xc, f_xc⟩ := Q
      dsimp only at P3 HV b_xc ⊢
      have z0 := blk_cell P3.loc 2
      have f0 := blk_free P3.loc 2
      have P4 : PZ 123 w gr gd lo g _ 49 _ #[.int .u64 (xa : Int), .bool xb, .string ⟨xc.toArray⟩, .string ⟨#[]⟩, .string ⟨#[]⟩, .string ⟨#[]⟩, .string ⟨#[]⟩] l_xc f_xc ((wa3).setCell ⟨gd, 2, none⟩ (.string ⟨xc.toArray⟩)) := (P3.set 2 (.string ⟨xc.toArray⟩))
      clear P3
      go_wp2_with fail
      generalize (wa3).setCell ⟨gd, 2, none⟩ (.string ⟨xc.toArray⟩) = wb3 at *
      refine (dT_any P4.rd).mono ?_
      rintro e wa4 ⟨rfl, hr, hg⟩
      replace P4 := P4.call hg hr
      clear hr hg
      have b_xd := rB_le l_xc f_xc
      generalize rB l_xc f_xc = Q at *
      obtain ⟨xd, l_xd, f_xd⟩ := Q
      dsimp only at P4 HV b_xd ⊢
      have z0 := blk_cell P4.loc 3
      have f0 := blk_free P4.loc 3
      have P5 : PZ 123 w gr gd lo g _ 49 _ #[.int .u64 (xa : Int), .bool xb, .string ⟨xc.toArray⟩, .string ⟨xd.toArray⟩, .string ⟨#[]⟩, .string ⟨#[]⟩, .string ⟨#[]⟩] l_xd f_xd ((wa4).setCell ⟨gd, 3, none⟩ (.string ⟨xd.toArray⟩)) := (P4.set 3 (.string ⟨xd.toArray⟩))
      clear P4
      go_wp2_with fail
      generalize (wa4).setCell ⟨gd, 3, none⟩ (.string ⟨xd.toArray⟩) = wb4 at *
      refine (dT_any P5.rd).mono ?_
      rintro e wa5 ⟨rfl, hr, hg⟩
      replace P5 := P5.call hg hr
      clear hr hg
      have b_xe := rB_le l_xd f_xd
      generalize rB l_xd f_xd = Q at *
      obtain ⟨xe, l_xe, f_xe⟩ := Q
      dsimp only at P5 HV b_xe ⊢
      have z0 := blk_cell P5.loc 4
      have f0 := blk_free P5.loc 4
      have P6 : PZ 123 w gr gd lo g _ 49 _ #[.int .u64 (xa : Int), .bool xb, .string ⟨xc.toArray⟩, .string ⟨xd.toArray⟩, .string ⟨xe.toArray⟩, .string ⟨#[]⟩, .string ⟨#[]⟩] l_xe f_xe ((wa5).setCell ⟨gd, 4, none⟩ (.string ⟨xe.toArray⟩)) := (P5.set 4 (.string ⟨xe.toArray⟩))
      clear P5
      go_wp2_with fail
      generalize (wa5).setCell ⟨gd, 4, none⟩ (.string ⟨xe.toArray⟩) = wb5 at *
      refine (dT_any P6.rd).mono ?_
      rintro e wa6 ⟨rfl, hr, hg⟩
      replace P6 := P6.call hg hr
      clear hr hg
      have b_xf := rB_le l_xe f_xe
      generalize rB l_xe f_xe = Q at *
      obtain ⟨xf, l_xf, f_xf⟩ := Q
      dsimp only at P6 HV b_xf ⊢
      have z0 := blk_cell P6.loc 5
      have f0 := blk_free P6.loc 5
      have P7 : PZ 123 w gr gd lo g _ 49 _ #[.int .u64 (xa : Int), .bool xb, .string ⟨xc.toArray⟩, .string ⟨xd.toArray⟩, .string ⟨xe.toArray⟩, .string ⟨xf.toArray⟩, .string ⟨#[]⟩] l_xf f_xf ((wa6).setCell ⟨gd, 5, none⟩ (.string ⟨xf.toArray⟩)) := (P6.set 5 (.string ⟨xf.toArray⟩))
      clear P6
      go_wp2_with fail
      generalize (wa6).setCell ⟨gd, 5, none⟩ (.string ⟨xf.toArray⟩) = wb6 at *
      refine (dT_any P7.rd).mono ?_
      rintro e wa7 ⟨rfl, hr, hg⟩
      replace P7 := P7.call hg hr
      clear hr hg
      have b_xg := rB_le l_xf f_xf
      generalize rB l_xf f_xf = Q at *
      obtain ⟨xg, l_xg, f_xg⟩ := Q
      dsimp only at P7 HV b_xg ⊢
      have z0 := blk_cell P7.loc 6
      have f0 := blk_free P7.loc 6
      have P8 : PZ 123 w gr gd lo g _ 49 _ #[.int .u64 (xa : Int), .bool xb, .string ⟨xc.toArray⟩, .string ⟨xd.toArray⟩, .string ⟨xe.toArray⟩, .string ⟨xf.toArray⟩, .string ⟨xg.toArray⟩] l_xg f_xg ((wa7).setCell ⟨gd, 6, none⟩ (.string ⟨xg.toArray⟩)) := (P7.set 6 (.string ⟨xg.toArray⟩))
      clear P7
      go_wp2_with fail
      generalize (wa7).setCell ⟨gd, 6, none⟩ (.string ⟨xg.toArray⟩) = wb7 at *
      refine (dEnd_any P8.rd).mono ?_
      rintro e w7 ⟨rfl, rfl⟩
      generalize rEnd l_xg f_xg = E at *
      subst hgr
      by_cases hE : E = 0
      · subst hE
        have hv := HV.out
        rw [if_pos rfl] at hv
        (try dsimp only at hv)
        clear HV
        have r0 := blk_cell P8.res 0
        have q0 := blk_free P8.res 0
        have r1 := blk_cell P8.res 1
        have q1 := blk_free P8.res 1
        have r2 := blk_cell P8.res 2
        have q2 := blk_free P8.res 2
        have r3 := blk_cell P8.res 3
        have q3 := blk_free P8.res 3
        have r4 := blk_cell P8.res 4
        have q4 := blk_free P8.res 4
        have r5 := blk_cell P8.res 5
        have q5 := blk_free P8.res 5
        have r6 := blk_cell P8.res 6
        have q6 := blk_free P8.res 6
        have s0 := blk_cell P8.loc 0
        have s1 := blk_cell P8.loc 1
        have s2 := blk_cell P8.loc 2
        have s3 := blk_cell P8.loc 3
        have s4 := blk_cell P8.loc 4
        have s5 := blk_cell P8.loc 5
        have s6 := blk_cell P8.loc 6
        have hk7 := set7P P8.res (.int .u64 (xa : Int)) (.bool xb) (.string ⟨xc.toArray⟩) (.string ⟨xd.toArray⟩) (.string ⟨xe.toArray⟩) (.string ⟨xf.toArray⟩) (.string ⟨xg.toArray⟩)
        have hb7 := below_set7P P8.below P8.hr (.int .u64 (xa : Int)) (.bool xb) (.string ⟨xc.toArray⟩) (.string ⟨xd.toArray⟩) (.string ⟨xe.toArray⟩) (.string ⟨xf.toArray⟩) (.string ⟨xg.toArray⟩)
        have HD := Lib.hid (And.intro (blk_cell hk7 0) (And.intro (blk_cell hk7 1) (And.intro (blk_cell hk7 2) (And.intro (blk_cell hk7 3) (And.intro (blk_cell hk7 4) (And.intro (blk_cell hk7 5) (blk_cell hk7 6)))))))
        have HVV := Lib.hid hv
        clear hk7 hv
        go_wp2_with fail
        obtain ⟨d0, d1, d2, d3, d4, d5, d6⟩ := HD.out
        refine bodyPost_ret (v := V) ?_ rfl ⟨rfl, hb7⟩
        rw [HVV.out]
        simp at d0 d1 d2 d3 d4 d5 d6
        simp [results, Tryd.results19, go_sem, d0, d1, d2, d3, d4, d5, d6, ChV.val, ChV.none]
      · have hne : (E != 0) = true := by simpa using hE
        have hv := HV.out
        rw [if_neg hE] at hv
        (try dsimp only at hv)
        clear HV
        have r0 := blk_cell P8.res 0
        have q0 := blk_free P8.res 0
        have r1 := blk_cell P8.res 1
        have q1 := blk_free P8.res 1
        have r2 := blk_cell P8.res 2
        have q2 := blk_free P8.res 2
        have r3 := blk_cell P8.res 3
        have q3 := blk_free P8.res 3
        have r4 := blk_cell P8.res 4
        have q4 := blk_free P8.res 4
        have r5 := blk_cell P8.res 5
        have q5 := blk_free P8.res 5
        have r6 := blk_cell P8.res 6
        have q6 := blk_free P8.res 6
        have hk7 := set7P P8.res (.int .u64 0) (.bool false) (.string ⟨#[]⟩) (.string ⟨#[]⟩) (.string ⟨#[]⟩) (.string ⟨#[]⟩) (.string ⟨#[]⟩)
        have hb7 := below_set7P P8.below P8.hr (.int .u64 0) (.bool false) (.string ⟨#[]⟩) (.string ⟨#[]⟩) (.string ⟨#[]⟩) (.string ⟨#[]⟩) (.string ⟨#[]⟩)
        have HD := Lib.hid (And.intro (blk_cell hk7 0) (And.intro (blk_cell hk7 1) (And.intro (blk_cell hk7 2) (And.intro (blk_cell hk7 3) (And.intro (blk_cell hk7 4) (And.intro (blk_cell hk7 5) (blk_cell hk7 6)))))))
        have HVV := Lib.hid hv
        clear hk7 hv
        go_wp2_with fail
        obtain ⟨d0, d1, d2, d3, d4, d5, d6⟩ := HD.out
        refine bodyPost_ret (v := V) ?_ rfl ⟨rfl, hb7⟩
        rw [HVV.out]
        simp at d0 d1 d2 d3 d4 d5 d6
        simp [results, Tryd.results19, go_sem, d0, d1, d2, d3, d4, d5, d6, ChV.val, ChV.none]
end Go.Proofs.YtlkkjnacolmmpaaDoor
