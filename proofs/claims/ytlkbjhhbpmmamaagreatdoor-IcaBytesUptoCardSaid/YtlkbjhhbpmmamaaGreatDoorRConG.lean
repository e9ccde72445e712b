
/- The walks of connections and channels, the document's being read. -/
import Derived.Test.YtlkbjhhbpmmamaaGreatDoorCliM
import Derived.Test.YtlkbjhhbpmmamaaGreatDoorRStoG
import Derived.Test.YtlkbjhhbpmmamaaGreatDoorWireDoc0
import Derived.Test.YtlkbjhhbpmmamaaGreatDoorNameG0
namespace Go.Proofs.YtlkbjhhbpmmamaaGreatDoor
set_option maxRecDepth 100000
open Go Go.RowKit
set_option linter.unusedVariables false

/-- a document's store that can be read -/
structure RGet (w : World) (b : Nat) (R : List Pr) : Prop where
  get : ∀ Z, Below w.heap.size w Z → ∀ key : ByteArray, key.size ≤ maxLen → Calls Tryz.prog 109 #[.pointer (some ⟨b, 0, none⟩), .string key] Z fun e w' => ∃ v, e = .returned (.tuple #[v, .bool (getL R key).isSome]) ∧ Own w' Z.heap.size v ((getL R key).getD []) ∧ Below Z.heap.size Z w'
  short : ∀ key v, getL R key = some v → v.length ≤ 2000000
theorem RdP.keptX {w w' : World} {v : Value} {ps : List Pr} (h : RdP w w.heap.size v ps) (hk : Kept w w') : RdP w' w'.heap.size v ps := by
  have hsz : w.heap.size ≤ w'.heap.size := by obtain ⟨F, h1, _⟩ := hk; exact h1.size
  obtain ⟨A, c, hv, h1, h2, hp⟩ := h
  refine ⟨A, c, hv, h1, h2, fun h0 => ?_⟩
  obtain ⟨b, o, hA, hb, hcell⟩ := hp h0
  refine ⟨b, o, hA, by omega, fun j hj => ?_⟩
  obtain ⟨q1, x, q2, q3⟩ := hcell j hj
  exact ⟨hk.cell q1, x, hk.cell q2, hk.rd q3⟩
theorem DocS.upX {w w' : World} {b : Nat} {R : List Pr} (h : DocS w b R) (hb : Below w.heap.size w w') : DocS w' b R := by
  obtain ⟨v, h1, h2⟩ := h
  exact ⟨v, (hb.block _ (blk_lt h1)).trans h1, h2.keptX (Kept.of_belowX hb)⟩
theorem RGet.of {w : World} {b : Nat} {R : List Pr} (h : DocS w b R) (hn : R.length ≤ 100000000) (hv : ∀ p ∈ R, p.2.length ≤ 2000000) : RGet w b R where
  get := fun Z hz key _ => rget_any (h.upX hz) hn hv key
  short := fun key v e => hv _ (getL_mem e)
theorem RGet.up {w w' : World} {b : Nat} {R : List Pr} (h : RGet w b R) (hb : Below w.heap.size w w') : RGet w' b R where
  get := fun Z hz key hk => h.get Z (below_chain hb hb.size hz) key hk
  short := h.short
theorem rcnkey_any (a : ByteArray) (w : World) (ha : a.size ≤ 100000000) : Calls Tryz.prog 214 #[.string a] w fun e w' => e = .returned (.string (kConn a)) ∧ w = w' := by
  have s1 : connP.size = 9 := rfl
  have h1 := fun W => txt_add connP a (by rw [s1]; omega) W
  unfold kConn
  unfold connP at *
  go_enter Tryz.func214, Tryz.ntmps214
  go_wp2
  go_ret
  exact ⟨rfl, rfl⟩
theorem rchkey_any (a : ByteArray) (w : World) (ha : a.size ≤ 100000000) : Calls Tryz.prog 44 #[.string a] w fun e w' => e = .returned (.string (kChn a)) ∧ w = w' := by
  have s1 : chanP.size = 9 := rfl
  have h1 := fun W => txt_add chanP a (by rw [s1]; omega) W
  unfold kChn
  unfold chanP at *
  go_enter Tryz.func44, Tryz.ntmps44
  go_wp2
  go_ret
  exact ⟨rfl, rfl⟩
set_option maxHeartbeats 8000000 in
theorem rcnget_any {w : World} {b : Nat} {R : List Pr} (h : RGet w b R) (a : ByteArray) (ha : a.size ≤ 100000000) :
    Calls Tryz.prog 177 #[.pointer (some ⟨b, 0, none⟩), .string a] w fun e w' => e = .returned (cnV (getCn R a)) ∧ Below w.heap.size w w' := by
  have HG := Lib.hid (fun (Z : World) (hz : Below w.heap.size w Z) => h.get Z hz (kConn a) (by rw [kConn_size]; unfold maxLen; omega))
  have HFT : Hid (∀ v, getL R (kConn a) = some v → v.length ≤ 2000000) := Lib.hid (fun v e => h.short _ v e)
  obtain ⟨B, hB⟩ : ∃ B : Addr, B = ⟨b, 0, none⟩ := ⟨_, rfl⟩
  rw [← hB] at HG ⊢
  clear hB h
  have HK := Lib.hid (fun W => (rcnkey_any a W ha).mono fun e w' ⟨h1, h2⟩ => (⟨h1, h2.symm⟩ : _ ∧ w' = W))
  have HI : Hid (∀ Z : World, Calls Tryz.prog 125 #[.string a] Z fun e w' => e = .returned (.bool (identB a)) ∧ Z = w') := Lib.hid fun Z => rident_any a Z (by unfold maxLen; omega)
  obtain ⟨V, hV⟩ : ∃ V, V = cnV (getCn R a) := ⟨_, rfl⟩
  rw [← hV]
  unfold getCn at hV
  generalize getL R (kConn a) = o at *
  generalize kConn a = key at *
  generalize identB a = bi at *
  have hk0 := heap_alloc_new w (.cells #[.int .u64 0, .string ⟨#[]⟩, .string ⟨#[]⟩, .string ⟨#[]⟩] 171)
  have ha0 : Below w.heap.size w (w.alloc (.cells #[.int .u64 0, .string ⟨#[]⟩, .string ⟨#[]⟩, .string ⟨#[]⟩] 171)) := (Below.refl _ _).alloc (Nat.le_refl _) _
  go_enter Tryz.func177, Tryz.ntmps177
  go_wp2_with fail
  generalize w.alloc (.cells #[.int .u64 0, .string ⟨#[]⟩, .string ⟨#[]⟩, .string ⟨#[]⟩] 171) = w0 at *
  refine (HK.out _).mono ?_
  rintro e w9 ⟨rfl, rfl⟩
  go_wp2_with fail
  refine (HG.out _ ha0).mono ?_
  rintro e w1 ⟨v, rfl, hov, hb1⟩
  have hq1 := below_chain ha0 ha0.size hb1
  have hk1 := (hb1.block _ (blk_lt hk0)).trans hk0
  have hl0 := blk_lt hk0
  obtain ⟨gr, hgr⟩ : ∃ gr, gr = w.heap.size := ⟨_, rfl⟩
  rw [← hgr] at hk1
  clear HG HK ha0 hk0 hb1
  cases o with
  | none =>
    have hv : V = .tuple #[CnV.none.val, .bool false] := by rw [hV]; cases bi <;> rfl
    obtain ⟨A, c, rfl⟩ := hov.form
    have r0 := blk_cell hk1 0
    have q0 := blk_free hk1 0
    have r1 := blk_cell hk1 1
    have q1 := blk_free hk1 1
    have r2 := blk_cell hk1 2
    have q2 := blk_free hk1 2
    have r3 := blk_cell hk1 3
    have q3 := blk_free hk1 3
    clear hov HFT hV HI
    subst hgr
    have hk7 := set4P hk1 (.int .u64 0) (.string ⟨#[]⟩) (.string ⟨#[]⟩) (.string ⟨#[]⟩)
    have hb7 := below_set4P hq1 (Nat.le_refl _) (.int .u64 0) (.string ⟨#[]⟩) (.string ⟨#[]⟩) (.string ⟨#[]⟩)
    have HD := Lib.hid (And.intro (blk_cell hk7 0) (And.intro (blk_cell hk7 1) (And.intro (blk_cell hk7 2) (blk_cell hk7 3))))
    have HVV := Lib.hid hv
    clear hk7 hv
    go_wp2_with fail
    obtain ⟨d0, d1, d2, d3⟩ := HD.out
    refine bodyPost_ret (v := V) ?_ rfl ⟨rfl, hb7⟩
    rw [HVV.out]
    simp at d0 d1 d2 d3
    simp [results, Tryz.results177, go_sem, d0, d1, d2, d3, CnV.val, CnV.none]
  | some l =>
    have hll := HFT.out l rfl
    have HO := Lib.hid (open_dd v l w1 hov.rd (by omega))
    obtain ⟨A, c, rfl⟩ := hov.form
    clear hov HFT
    go_wp2_with fail
    refine (HI.out _).mono ?_
    rintro e w9 ⟨rfl, rfl⟩
    clear HI
    cases bi with
    | false =>
      have hv : V = .tuple #[CnV.none.val, .bool false] := by rw [hV]; rfl
      have r0 := blk_cell hk1 0
      have q0 := blk_free hk1 0
      have r1 := blk_cell hk1 1
      have q1 := blk_free hk1 1
      have r2 := blk_cell hk1 2
      have q2 := blk_free hk1 2
      have r3 := blk_cell hk1 3
      have q3 := blk_free hk1 3
      clear hV HO
      subst hgr
      have hk7 := set4P hk1 (.int .u64 0) (.string ⟨#[]⟩) (.string ⟨#[]⟩) (.string ⟨#[]⟩)
      have hb7 := below_set4P hq1 (Nat.le_refl _) (.int .u64 0) (.string ⟨#[]⟩) (.string ⟨#[]⟩) (.string ⟨#[]⟩)
      have HD := Lib.hid (And.intro (blk_cell hk7 0) (And.intro (blk_cell hk7 1) (And.intro (blk_cell hk7 2) (blk_cell hk7 3))))
      have HVV := Lib.hid hv
      clear hk7 hv
      go_wp2_with fail
      obtain ⟨d0, d1, d2, d3⟩ := HD.out
      refine bodyPost_ret (v := V) ?_ rfl ⟨rfl, hb7⟩
      rw [HVV.out]
      simp at d0 d1 d2 d3
      simp [results, Tryz.results177, go_sem, d0, d1, d2, d3, CnV.val, CnV.none]
    | true =>
      have HV := Lib.hid (show V = cnV (readCn l) from hV)
      unfold cnV readCn at HV
      clear hV
      go_wp2_with fail
      refine HO.out.mono ?_
      rintro e w2 ⟨g, rfl, hr2, hb2⟩
      have hq2 := below_chain hq1 hq1.size hb2
      have hk2 := (hb2.block _ (blk_lt hk1)).trans hk1
      have hgl := hr2.lt
      have hlo := blk_lt hk1
      generalize w1.heap.size = lo at *
      clear HO hb2 hk1 hq1
      have hgi := hr2.from_
      obtain ⟨gd, hgd⟩ : ∃ gd, gd = w2.heap.size := ⟨_, rfl⟩
      have P1 : PZ 183 w gr gd lo g 171 171 #[.int .u64 0, .string ⟨#[]⟩, .string ⟨#[]⟩, .string ⟨#[]⟩] #[.int .u64 0, .string ⟨#[]⟩, .string ⟨#[]⟩, .string ⟨#[]⟩] l 0 (w2.alloc (.cells #[.int .u64 0, .string ⟨#[]⟩, .string ⟨#[]⟩, .string ⟨#[]⟩] 171)) :=
        ⟨hq2.alloc hq2.size _, by omega, by have := hq2.size; omega, (Below.heap_alloc w2 _ _ (blk_lt hk2)).trans hk2, by rw [hgd]; exact heap_alloc_new w2 _, hr2.below ((Below.refl _ _).alloc (Nat.le_refl _) _), by omega, by omega⟩
      clear hq2 hk2 hr2 hgl hlo hgi
      go_wp2_with fail
      rw [← hgd]
      generalize w2.alloc (.cells #[.int .u64 0, .string ⟨#[]⟩, .string ⟨#[]⟩, .string ⟨#[]⟩] 171) = wz at *
      clear hgd
      refine (dN_any P1.rd).mono ?_
      rintro e wa1 ⟨rfl, hr, hg⟩
      replace P1 := P1.call hg hr
      clear hr hg
      have b_xa := rN_ltP l 0
      generalize rN l 0 = Q at *
      obtain ⟨xa, l_xa, f_xa⟩ := Q
      dsimp only at P1 HV b_xa ⊢
      have z0 := blk_cell P1.loc 0
      have f0 := blk_free P1.loc 0
      have P2 : PZ 183 w gr gd lo g _ 171 _ #[.int .u64 (xa : Int), .string ⟨#[]⟩, .string ⟨#[]⟩, .string ⟨#[]⟩] l_xa f_xa ((wa1).setCell ⟨gd, 0, none⟩ (.int .u64 (xa : Int))) := (P1.set 0 (.int .u64 (xa : Int)))
      clear P1
      go_wp2_with fail
      generalize (wa1).setCell ⟨gd, 0, none⟩ (.int .u64 (xa : Int)) = wb1 at *
      refine (dT_any P2.rd).mono ?_
      rintro e wa2 ⟨rfl, hr, hg⟩
      replace P2 := P2.call hg hr
      clear hr hg
      have b_xb := rB_le l_xa f_xa
      generalize rB l_xa f_xa = Q at *
      obtain ⟨xb, l_xb, f_xb⟩ := Q
      dsimp only at P2 HV b_xb ⊢
      have z0 := blk_cell P2.loc 1
      have f0 := blk_free P2.loc 1
      have P3 : PZ 183 w gr gd lo g _ 171 _ #[.int .u64 (xa : Int), .string ⟨xb.toArray⟩, .string ⟨#[]⟩, .string ⟨#[]⟩] l_xb f_xb ((wa2).setCell ⟨gd, 1, none⟩ (.string ⟨xb.toArray⟩)) := (P2.set 1 (.string ⟨xb.toArray⟩))
      clear P2
      go_wp2_with fail
      generalize (wa2).setCell ⟨gd, 1, none⟩ (.string ⟨xb.toArray⟩) = wb2 at *
      refine (dT_any P3.rd).mono ?_
      rintro e wa3 ⟨rfl, hr, hg⟩
      replace P3 := P3.call hg hr
      clear hr hg
      have b_xc := rB_le l_xb f_xb
      generalize rB l_xb f_xb = Q at *
      obtain ⟨xc, l_xc, f_xc⟩ := Q
      dsimp only at P3 HV b_xc ⊢
      have z0 := blk_cell P3.loc 2
      have f0 := blk_free P3.loc 2
      have P4 : PZ 183 w gr gd lo g _ 171 _ #[.int .u64 (xa : Int), .string ⟨xb.toArray⟩, .string ⟨xc.toArray⟩, .string ⟨#[]⟩] l_xc f_xc ((wa3).setCell ⟨gd, 2, none⟩ (.string ⟨xc.toArray⟩)) := (P3.set 2 (.string ⟨xc.toArray⟩))
      clear P3
      go_wp2_with fail
      generalize (wa3).setCell ⟨gd, 2, none⟩ (.string ⟨xc.toArray⟩) = wb3 at *
      refine (dT_any P4.rd).mono ?_
      rintro e wa4 ⟨rfl, hr, hg⟩
      replace P4 := P4.call hg hr
      clear hr hg
      have b_xd := rB_le l_xc f_xc
      generalize rB l_xc f_xc = Q at *
      obtain ⟨xd, l_xd, f_xd⟩ := Q
      dsimp only at P4 HV b_xd ⊢
      have z0 := blk_cell P4.loc 3
      have f0 := blk_free P4.loc 3
      have P5 : PZ 183 w gr gd lo g _ 171 _ #[.int .u64 (xa : Int), .string ⟨xb.toArray⟩, .string ⟨xc.toArray⟩, .string ⟨xd.toArray⟩] l_xd f_xd ((wa4).setCell ⟨gd, 3, none⟩ (.string ⟨xd.toArray⟩)) := (P4.set 3 (.string ⟨xd.toArray⟩))
      clear P4
      go_wp2_with fail
      generalize (wa4).setCell ⟨gd, 3, none⟩ (.string ⟨xd.toArray⟩) = wb4 at *
      refine (dEnd_any P5.rd).mono ?_
      rintro e w7 ⟨rfl, rfl⟩
      generalize rEnd l_xd f_xd = E at *
      subst hgr
      by_cases hE : E = 0
      · subst hE
        have hv := HV.out
        rw [if_pos rfl] at hv
        (try dsimp only at hv)
        clear HV
        have r0 := blk_cell P5.res 0
        have q0 := blk_free P5.res 0
        have r1 := blk_cell P5.res 1
        have q1 := blk_free P5.res 1
        have r2 := blk_cell P5.res 2
        have q2 := blk_free P5.res 2
        have r3 := blk_cell P5.res 3
        have q3 := blk_free P5.res 3
        have s0 := blk_cell P5.loc 0
        have s1 := blk_cell P5.loc 1
        have s2 := blk_cell P5.loc 2
        have s3 := blk_cell P5.loc 3
        have hk7 := set4P P5.res (.int .u64 (xa : Int)) (.string ⟨xb.toArray⟩) (.string ⟨xc.toArray⟩) (.string ⟨xd.toArray⟩)
        have hb7 := below_set4P P5.below P5.hr (.int .u64 (xa : Int)) (.string ⟨xb.toArray⟩) (.string ⟨xc.toArray⟩) (.string ⟨xd.toArray⟩)
        have HD := Lib.hid (And.intro (blk_cell hk7 0) (And.intro (blk_cell hk7 1) (And.intro (blk_cell hk7 2) (blk_cell hk7 3))))
        have HVV := Lib.hid hv
        clear hk7 hv
        go_wp2_with fail
        obtain ⟨d0, d1, d2, d3⟩ := HD.out
        refine bodyPost_ret (v := V) ?_ rfl ⟨rfl, hb7⟩
        rw [HVV.out]
        simp at d0 d1 d2 d3
        simp [results, Tryz.results177, go_sem, d0, d1, d2, d3, CnV.val, CnV.none]
      · have hne : (E != 0) = true := by simpa using hE
        have hv := HV.out
        rw [if_neg hE] at hv
        (try dsimp only at hv)
        clear HV
        have r0 := blk_cell P5.res 0
        have q0 := blk_free P5.res 0
        have r1 := blk_cell P5.res 1
        have q1 := blk_free P5.res 1
        have r2 := blk_cell P5.res 2
        have q2 := blk_free P5.res 2
        have r3 := blk_cell P5.res 3
        have q3 := blk_free P5.res 3
        have hk7 := set4P P5.res (.int .u64 0) (.string ⟨#[]⟩) (.string ⟨#[]⟩) (.string ⟨#[]⟩)
        have hb7 := below_set4P P5.below P5.hr (.int .u64 0) (.string ⟨#[]⟩) (.string ⟨#[]⟩) (.string ⟨#[]⟩)
        have HD := Lib.hid (And.intro (blk_cell hk7 0) (And.intro (blk_cell hk7 1) (And.intro (blk_cell hk7 2) (blk_cell hk7 3))))
        have HVV := Lib.hid hv
        clear hk7 hv
        go_wp2_with fail
        obtain ⟨d0, d1, d2, d3⟩ := HD.out
        refine bodyPost_ret (v := V) ?_ rfl ⟨rfl, hb7⟩
        rw [HVV.out]
        simp at d0 d1 d2 d3
        simp [results, Tryz.results177, go_sem, d0, d1, d2, d3, CnV.val, CnV.none]
end Go.Proofs.YtlkbjhhbpmmamaaGreatDoor
