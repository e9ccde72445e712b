/- Texts joined: ClnA1. -/
import Derived.Test.YtpcoonnfaoakhaaGreatDoorM15
import Derived.Test.YtpcoonnfaoakhaaGreatDoorM08
import Derived.Test.YtpcoonnfaoakhaaGreatDoorM14
import Derived.Test.YtpcoonnfaoakhaaGreatDoorM20
namespace Go.Proofs.YtpcoonnfaoakhaaGreatDoor
set_option maxRecDepth 100000
open Go Go.RowKit
set_option linter.unusedVariables false

def aheadB (t now : Nat) : Bool := decide (now < t) && decide (10 < t - now)
def overB (t p now : Nat) : Bool := decide (t ≤ now) && decide (p ≤ now - t)
/-- a header -/
structure HdV where
  ch : ByteArray
  ht : Nat
  tm : Nat
  rt : List UInt8
  va : List UInt8
  nx : List UInt8
def HdV.formed (h : HdV) : Bool := decide (h.rt.length = 32) && (decide (h.va.length = 32) && decide (h.nx.length = 32))
def createE (h : HdV) (pe now : Nat) : Int :=
  if identB h.ch = true then (if h.ht = 0 then 104 else if aheadB h.tm now = true then 105 else if pe = 0 then 2 else if h.formed = true then 0 else 21) else 40
def createR (R : List Pr) (h : HdV) (pe : Nat) : List Pr :=
  setL (kCons (newID R sClient) h.ht) (csB ⟨h.tm, h.rt, h.nx⟩) (setL (kCli (newID R sClient)) (clB ⟨h.ch, h.ht, pe, false⟩) (newR R sClient))
/-- the root by which a client shows things of a height, or the error -/
def showM (R : List Pr) (id : ByteArray) (ht now : Nat) : List UInt8 × Int :=
  match getCl R id with
  | none => ([], 100)
  | some c => if c.fr = true then ([], 102) else match getCs R id c.la with
    | none => ([], 103)
    | some t => if overB t.tm c.pe now = true then ([], 103) else match getCs R id ht with
      | none => ([], 101)
      | some u => (u.rt, 0)
end Go.Proofs.YtpcoonnfaoakhaaGreatDoor
namespace Go.Proofs.YtpcoonnfaoakhaaGreatDoor
set_option maxRecDepth 100000
open Go Go.RowKit
set_option linter.unusedVariables false

theorem clkey_any (a : ByteArray) (w : World) (ha : a.size ≤ 100000000) : Calls Tryz.prog 135 #[.string a] w fun e w' => e = .returned (.string (kCli a)) ∧ w = w' := by
  have s1 : cliP.size = 11 := rfl
  have h1 := fun W => txt_add cliP a (by rw [s1]; omega) W
  unfold kCli
  unfold cliP at *
  go_enter Tryz.func135, Tryz.ntmps135
  go_wp2
  go_ret
  exact ⟨rfl, rfl⟩
theorem cskey_any (a : ByteArray) (n : Nat) (w : World) (hn : n < 18446744073709551616) (ha : a.size ≤ 100000000) : Calls Tryz.prog 181 #[.string a, .int .u64 (n : Int)] w fun e w' => e = .returned (.string (kCons a n)) ∧ Below w.heap.size w w' := by
  have s1 : consP.size = 9 := rfl
  have s2 : slB.size = 1 := rfl
  have s3 := hexN_size n
  have z3 : (consP ++ a).size = a.size + 9 := by rw [ByteArray.size_append, s1]; omega
  have z4 : ((consP ++ a) ++ slB).size = a.size + 9 + 1 := by rw [ByteArray.size_append, z3, s2]
  have h3 := fun W => txt_add consP a (by rw [s1]; omega) W
  have h4 := fun W => txt_add (consP ++ a) slB (by rw [z3, s2]; omega) W
  have h5 := fun W => txt_add ((consP ++ a) ++ slB) (hexN n) (by rw [z4, s3]; omega) W
  have HX := Lib.hid (chex_any n w hn)
  unfold kCons
  generalize hexN n = S at *
  generalize (consP ++ a) ++ slB = x4 at *
  generalize hx3 : consP ++ a = x3 at *
  clear hx3 z3 z4 s3
  unfold consP slB at *
  go_enter Tryz.func181, Tryz.ntmps181
  go_wp2_with fail
  refine HX.out.mono ?_
  rintro e w1 ⟨rfl, hb⟩
  go_wp2_with fail
  go_ret
  exact ⟨rfl, hb⟩
set_option maxHeartbeats 8000000 in
theorem clget_any {W w : World} {y : Lyr} {l : List Lyr} {R : List Pr} {k : Nat} (h : At W y l R k w) (a : ByteArray) (ha : a.size ≤ 100000000) :
    Calls Tryz.prog 69 #[.pointer (some ⟨y.b, 0, none⟩), .string a] w fun e w' => e = .returned (clV (getCl R a)) ∧ Below w.heap.size w w' := by
  have HG := Lib.hid (fun (Z : World) (hz : Below w.heap.size w Z) => (h.up hz).get (kCli a) (by rw [kCli_size]; unfold maxLen; omega))
  have HFT : Hid (∀ v, getL R (kCli a) = some v → v.length ≤ 2000000) := Lib.hid (fun v e => Nat.le_trans (h.fits (key := kCli a) (v := v) e).2 (by decide))
  obtain ⟨B, hB⟩ : ∃ B : Addr, B = ⟨y.b, 0, none⟩ := ⟨_, rfl⟩
  rw [← hB] at HG ⊢
  clear hB h
  have HK := Lib.hid (fun W => (clkey_any a W ha).mono fun e w' ⟨h1, h2⟩ => (⟨h1, h2.symm⟩ : _ ∧ w' = W))
  have HI : Hid (∀ Z : World, Calls Tryz.prog 59 #[.string a] Z fun e w' => e = .returned (.bool (identB a)) ∧ Z = w') := Lib.hid fun Z => ident_any a Z (by unfold maxLen; omega)
  obtain ⟨V, hV⟩ : ∃ V, V = clV (getCl R a) := ⟨_, rfl⟩
  rw [← hV]
  unfold getCl at hV
  generalize getL R (kCli a) = o at *
  generalize kCli a = key at *
  generalize identB a = bi at *
  have hk0 := heap_alloc_new w (.cells #[.string ⟨#[]⟩, .int .u64 0, .int .u64 0, .bool false] 112)
  have ha0 : Below w.heap.size w (w.alloc (.cells #[.string ⟨#[]⟩, .int .u64 0, .int .u64 0, .bool false] 112)) := (Below.refl _ _).alloc (Nat.le_refl _) _
  go_enter Tryz.func69, Tryz.ntmps69
  go_wp2_with fail
  generalize w.alloc (.cells #[.string ⟨#[]⟩, .int .u64 0, .int .u64 0, .bool false] 112) = w0 at *
  refine (HK.out _).mono ?_
  rintro e w9 ⟨rfl, rfl⟩
  go_wp2_with fail
  refine (HG.out _ ha0).mono ?_
  rintro e w1 ⟨v, rfl, hov, hb1⟩
  have hq1 := below_chain ha0 ha0.size hb1
  have hk1 := (hb1.block _ (blk_lt hk0)).trans hk0
  have hl0 := blk_lt hk0
  obtain ⟨gr, hgr⟩ : ∃ gr, gr = w.heap.size := ⟨_, rfl⟩
  rw [← hgr] at hk1
  clear HG HK ha0 hk0 hb1
  cases o with
  | none =>
    have hv : V = .tuple #[ClV.none.val, .bool false] := by rw [hV]; cases bi <;> rfl
    obtain ⟨A, c, rfl⟩ := hov.form
    have r0 := blk_cell hk1 0
    have q0 := blk_free hk1 0
    have r1 := blk_cell hk1 1
    have q1 := blk_free hk1 1
    have r2 := blk_cell hk1 2
    have q2 := blk_free hk1 2
    have r3 := blk_cell hk1 3
    have q3 := blk_free hk1 3
    clear hov HFT hV HI
    subst hgr
    have hk7 := set4P hk1 (.string ⟨#[]⟩) (.int .u64 0) (.int .u64 0) (.bool false)
    have hb7 := below_set4P hq1 (Nat.le_refl _) (.string ⟨#[]⟩) (.int .u64 0) (.int .u64 0) (.bool false)
    have HD := Lib.hid (And.intro (blk_cell hk7 0) (And.intro (blk_cell hk7 1) (And.intro (blk_cell hk7 2) (blk_cell hk7 3))))
    have HVV := Lib.hid hv
    clear hk7 hv
    go_wp2_with fail
    obtain ⟨d0, d1, d2, d3⟩ := HD.out
    refine bodyPost_ret (v := V) ?_ rfl ⟨rfl, hb7⟩
    rw [HVV.out]
    simp at d0 d1 d2 d3
    simp [results, Tryz.results69, go_sem, d0, d1, d2, d3, ClV.val, ClV.none]
  | some l =>
    have hll := HFT.out l rfl
    have HO := Lib.hid (open_rd v l w1 hov.rd (by omega))
    obtain ⟨A, c, rfl⟩ := hov.form
    clear hov HFT
    go_wp2_with fail
    refine (HI.out _).mono ?_
    rintro e w9 ⟨rfl, rfl⟩
    clear HI
    cases bi with
    | false =>
      have hv : V = .tuple #[ClV.none.val, .bool false] := by rw [hV]; rfl
      have r0 := blk_cell hk1 0
      have q0 := blk_free hk1 0
      have r1 := blk_cell hk1 1
      have q1 := blk_free hk1 1
      have r2 := blk_cell hk1 2
      have q2 := blk_free hk1 2
      have r3 := blk_cell hk1 3
      have q3 := blk_free hk1 3
      clear hV HO
      subst hgr
      have hk7 := set4P hk1 (.string ⟨#[]⟩) (.int .u64 0) (.int .u64 0) (.bool false)
      have hb7 := below_set4P hq1 (Nat.le_refl _) (.string ⟨#[]⟩) (.int .u64 0) (.int .u64 0) (.bool false)
      have HD := Lib.hid (And.intro (blk_cell hk7 0) (And.intro (blk_cell hk7 1) (And.intro (blk_cell hk7 2) (blk_cell hk7 3))))
      have HVV := Lib.hid hv
      clear hk7 hv
      go_wp2_with fail
      obtain ⟨d0, d1, d2, d3⟩ := HD.out
      refine bodyPost_ret (v := V) ?_ rfl ⟨rfl, hb7⟩
      rw [HVV.out]
      simp at d0 d1 d2 d3
      simp [results, Tryz.results69, go_sem, d0, d1, d2, d3, ClV.val, ClV.none]
    | true =>
      have HV := Lib.hid (show V = clV (readCl l) from hV)
      unfold clV readCl at HV
      clear hV
      go_wp2_with fail
      refine HO.out.mono ?_
      rintro e w2 ⟨g, rfl, hr2, hb2⟩
      have hq2 := below_chain hq1 hq1.size hb2
      have hk2 := (hb2.block _ (blk_lt hk1)).trans hk1
      have hgl := hr2.lt
      have hlo := blk_lt hk1
      generalize w1.heap.size = lo at *
      clear HO hb2 hk1 hq1
      have hgi := hr2.from_
      obtain ⟨gd, hgd⟩ : ∃ gd, gd = w2.heap.size := ⟨_, rfl⟩
      have P1 : PZ 170 w gr gd lo g 112 112 #[.string ⟨#[]⟩, .int .u64 0, .int .u64 0, .bool false] #[.string ⟨#[]⟩, .int .u64 0, .int .u64 0, .bool false] l 0 (w2.alloc (.cells #[.string ⟨#[]⟩, .int .u64 0, .int .u64 0, .bool false] 112)) :=
        ⟨hq2.alloc hq2.size _, by omega, by have := hq2.size; omega, (Below.heap_alloc w2 _ _ (blk_lt hk2)).trans hk2, by rw [hgd]; exact heap_alloc_new w2 _, hr2.below ((Below.refl _ _).alloc (Nat.le_refl _) _), by omega, by omega⟩
      clear hq2 hk2 hr2 hgl hlo hgi
      go_wp2_with fail
      rw [← hgd]
      generalize w2.alloc (.cells #[.string ⟨#[]⟩, .int .u64 0, .int .u64 0, .bool false] 112) = wz at *
      clear hgd
      refine (rdT_any P1.rd).mono ?_
      rintro e wa1 ⟨rfl, hr, hg⟩
      replace P1 := P1.call hg hr
      clear hr hg
      have b_xa := rB_le l 0
      generalize rB l 0 = Q at *
      obtain ⟨xa, l_xa, f_xa⟩ := Q
      dsimp only at P1 HV b_xa ⊢
      have z0 := blk_cell P1.loc 0
      have f0 := blk_free P1.loc 0
      have P2 : PZ 170 w gr gd lo g _ 112 _ #[.string ⟨xa.toArray⟩, .int .u64 0, .int .u64 0, .bool false] l_xa f_xa ((wa1).setCell ⟨gd, 0, none⟩ (.string ⟨xa.toArray⟩)) := (P1.set 0 (.string ⟨xa.toArray⟩))
      clear P1
      go_wp2_with fail
      generalize (wa1).setCell ⟨gd, 0, none⟩ (.string ⟨xa.toArray⟩) = wb1 at *
      refine (rN_any P2.rd).mono ?_
      rintro e wa2 ⟨rfl, hr, hg⟩
      replace P2 := P2.call hg hr
      clear hr hg
      have b_xb := rN_ltP l_xa f_xa
      generalize rN l_xa f_xa = Q at *
      obtain ⟨xb, l_xb, f_xb⟩ := Q
      dsimp only at P2 HV b_xb ⊢
      have z0 := blk_cell P2.loc 1
      have f0 := blk_free P2.loc 1
      have P3 : PZ 170 w gr gd lo g _ 112 _ #[.string ⟨xa.toArray⟩, .int .u64 (xb : Int), .int .u64 0, .bool false] l_xb f_xb ((wa2).setCell ⟨gd, 1, none⟩ (.int .u64 (xb : Int))) := (P2.set 1 (.int .u64 (xb : Int)))
      clear P2
      go_wp2_with fail
      generalize (wa2).setCell ⟨gd, 1, none⟩ (.int .u64 (xb : Int)) = wb2 at *
      refine (rN_any P3.rd).mono ?_
      rintro e wa3 ⟨rfl, hr, hg⟩
      replace P3 := P3.call hg hr
      clear hr hg
      have b_xc := rN_ltP l_xb f_xb
      generalize rN l_xb f_xb = Q at *
      obtain ⟨xc, l_xc, f_xc⟩ := Q
      dsimp only at P3 HV b_xc ⊢
      have z0 := blk_cell P3.loc 2
      have f0 := blk_free P3.loc 2
      have P4 : PZ 170 w gr gd lo g _ 112 _ #[.string ⟨xa.toArray⟩, .int .u64 (xb : Int), .int .u64 (xc : Int), .bool false] l_xc f_xc ((wa3).setCell ⟨gd, 2, none⟩ (.int .u64 (xc : Int))) := (P3.set 2 (.int .u64 (xc : Int)))
      clear P3
      go_wp2_with fail
      generalize (wa3).setCell ⟨gd, 2, none⟩ (.int .u64 (xc : Int)) = wb3 at *
      refine (rdF_any P4.rd).mono ?_
      rintro e wa4 ⟨rfl, hr, hg⟩
      replace P4 := P4.call hg hr
      clear hr hg
      generalize rF l_xc f_xc = Q at *
      obtain ⟨xd, l_xd, f_xd⟩ := Q
      dsimp only at P4 HV ⊢
      have z0 := blk_cell P4.loc 3
      have f0 := blk_free P4.loc 3
      have P5 : PZ 170 w gr gd lo g _ 112 _ #[.string ⟨xa.toArray⟩, .int .u64 (xb : Int), .int .u64 (xc : Int), .bool xd] l_xd f_xd ((wa4).setCell ⟨gd, 3, none⟩ (.bool xd)) := (P4.set 3 (.bool xd))
      clear P4
      go_wp2_with fail
      generalize (wa4).setCell ⟨gd, 3, none⟩ (.bool xd) = wb4 at *
      refine (rdEnd_any P5.rd).mono ?_
      rintro e w7 ⟨rfl, rfl⟩
      generalize rEnd l_xd f_xd = E at *
      subst hgr
      by_cases hE : E = 0
      · subst hE
        have hv := HV.out
        rw [if_pos rfl] at hv
        (try dsimp only at hv)
        clear HV
        have r0 := blk_cell P5.res 0
        have q0 := blk_free P5.res 0
        have r1 := blk_cell P5.res 1
        have q1 := blk_free P5.res 1
        have r2 := blk_cell P5.res 2
        have q2 := blk_free P5.res 2
        have r3 := blk_cell P5.res 3
        have q3 := blk_free P5.res 3
        have s0 := blk_cell P5.loc 0
        have s1 := blk_cell P5.loc 1
        have s2 := blk_cell P5.loc 2
        have s3 := blk_cell P5.loc 3
        have hk7 := set4P P5.res (.string ⟨xa.toArray⟩) (.int .u64 (xb : Int)) (.int .u64 (xc : Int)) (.bool xd)
        have hb7 := below_set4P P5.below P5.hr (.string ⟨xa.toArray⟩) (.int .u64 (xb : Int)) (.int .u64 (xc : Int)) (.bool xd)
        have HD := Lib.hid (And.intro (blk_cell hk7 0) (And.intro (blk_cell hk7 1) (And.intro (blk_cell hk7 2) (blk_cell hk7 3))))
        have HVV := Lib.hid hv
        clear hk7 hv
        go_wp2_with fail
        obtain ⟨d0, d1, d2, d3⟩ := HD.out
        refine bodyPost_ret (v := V) ?_ rfl ⟨rfl, hb7⟩
        rw [HVV.out]
        simp at d0 d1 d2 d3
        simp [results, Tryz.results69, go_sem, d0, d1, d2, d3, ClV.val, ClV.none]
      · have hne : (E != 0) = true := by simpa using hE
        have hv := HV.out
        rw [if_neg hE] at hv
        (try dsimp only at hv)
        clear HV
        have r0 := blk_cell P5.res 0
        have q0 := blk_free P5.res 0
        have r1 := blk_cell P5.res 1
        have q1 := blk_free P5.res 1
        have r2 := blk_cell P5.res 2
        have q2 := blk_free P5.res 2
        have r3 := blk_cell P5.res 3
        have q3 := blk_free P5.res 3
        have hk7 := set4P P5.res (.string ⟨#[]⟩) (.int .u64 0) (.int .u64 0) (.bool false)
        have hb7 := below_set4P P5.below P5.hr (.string ⟨#[]⟩) (.int .u64 0) (.int .u64 0) (.bool false)
        have HD := Lib.hid (And.intro (blk_cell hk7 0) (And.intro (blk_cell hk7 1) (And.intro (blk_cell hk7 2) (blk_cell hk7 3))))
        have HVV := Lib.hid hv
        clear hk7 hv
        go_wp2_with fail
        obtain ⟨d0, d1, d2, d3⟩ := HD.out
        refine bodyPost_ret (v := V) ?_ rfl ⟨rfl, hb7⟩
        rw [HVV.out]
        simp at d0 d1 d2 d3
        simp [results, Tryz.results69, go_sem, d0, d1, d2, d3, ClV.val, ClV.none]
set_option maxHeartbeats 8000000 in
theorem csget_any {W w : World} {y : Lyr} {l : List Lyr} {R : List Pr} {k : Nat} (h : At W y l R k w) (a : ByteArray) (n : Nat) (hn : n < 18446744073709551616) (ha : a.size ≤ 100000000) :
    Calls Tryz.prog 183 #[.pointer (some ⟨y.b, 0, none⟩), .string a, .int .u64 (n : Int)] w fun e w' => ((∃ (v : CsV) (vr vn : Value), getCs R a n = some v ∧ e = .returned (.tuple #[.agg #[.int .u64 (v.tm : Int), vr, vn], .bool true]) ∧ Own w' w.heap.size vr v.rt ∧ Own w' w.heap.size vn v.nx) ∨ (getCs R a n = none ∧ e = .returned (.tuple #[.agg #[.int .u64 0, .slice none 0 0, .slice none 0 0], .bool false]))) ∧ Below w.heap.size w w' := by
  have HG := Lib.hid (fun (Z : World) (hz : Below w.heap.size w Z) => (h.up hz).get (kCons a n) (by rw [kCons_size]; unfold maxLen; omega))
  have HFT : Hid (∀ v, getL R (kCons a n) = some v → v.length ≤ 2000000) := Lib.hid (fun v e => Nat.le_trans (h.fits (key := kCons a n) (v := v) e).2 (by decide))
  obtain ⟨B, hB⟩ : ∃ B : Addr, B = ⟨y.b, 0, none⟩ := ⟨_, rfl⟩
  rw [← hB] at HG ⊢
  clear hB h
  have HK := Lib.hid (fun W => cskey_any a n W hn ha)
  have HI : Hid (∀ Z : World, Calls Tryz.prog 59 #[.string a] Z fun e w' => e = .returned (.bool (identB a)) ∧ Z = w') := Lib.hid fun Z => ident_any a Z (by unfold maxLen; omega)
  obtain ⟨V, hV⟩ : ∃ V, V = getCs R a n := ⟨_, rfl⟩
  rw [← hV]
  unfold getCs at hV
  generalize getL R (kCons a n) = o at *
  generalize kCons a n = key at *
  generalize identB a = bi at *
  have hk0 := heap_alloc_new w (.cells #[.int .u64 0, .slice none 0 0, .slice none 0 0] 240)
  have ha0 : Below w.heap.size w (w.alloc (.cells #[.int .u64 0, .slice none 0 0, .slice none 0 0] 240)) := (Below.refl _ _).alloc (Nat.le_refl _) _
  go_enter Tryz.func183, Tryz.ntmps183
  go_wp2_with fail
  generalize w.alloc (.cells #[.int .u64 0, .slice none 0 0, .slice none 0 0] 240) = w0 at *
  refine (HK.out _).mono ?_
  rintro e w9 ⟨rfl, hb9⟩
  replace hk0 := (hb9.block _ (blk_lt hk0)).trans hk0
  replace ha0 := below_chain ha0 ha0.size hb9
  clear hb9
  go_wp2_with fail
  refine (HG.out _ ha0).mono ?_
  rintro e w1 ⟨v, rfl, hov, hb1⟩
  have hq1 := below_chain ha0 ha0.size hb1
  have hk1 := (hb1.block _ (blk_lt hk0)).trans hk0
  have hl0 := blk_lt hk0
  obtain ⟨gr, hgr⟩ : ∃ gr, gr = w.heap.size := ⟨_, rfl⟩
  rw [← hgr] at hk1
  clear HG HK ha0 hk0 hb1
  cases o with
  | none =>
    have hv : V = none := by rw [hV]; cases bi <;> rfl
    obtain ⟨A, c, rfl⟩ := hov.form
    have r0 := blk_cell hk1 0
    have q0 := blk_free hk1 0
    have r1 := blk_cell hk1 1
    have q1 := blk_free hk1 1
    have r2 := blk_cell hk1 2
    have q2 := blk_free hk1 2
    clear hov HFT hV HI
    subst hgr
    have hk7 := set3P hk1 (.int .u64 0) (.slice none 0 0) (.slice none 0 0)
    have hb7 := below_set3P hq1 (Nat.le_refl _) (.int .u64 0) (.slice none 0 0) (.slice none 0 0)
    have HD := Lib.hid (And.intro (blk_cell hk7 0) (And.intro (blk_cell hk7 1) (blk_cell hk7 2)))
    have HVV := Lib.hid hv
    clear hk7 hv
    go_wp2_with fail
    obtain ⟨d0, d1, d2⟩ := HD.out
    refine bodyPost_ret (v := .tuple #[.agg #[.int .u64 0, .slice none 0 0, .slice none 0 0], .bool false]) ?_ rfl ⟨Or.inr ⟨HVV.out, rfl⟩, hb7⟩
    simp at d0 d1 d2
    simp [results, Tryz.results183, go_sem, d0, d1, d2]
  | some l =>
    have hll := HFT.out l rfl
    have HO := Lib.hid (open_rd v l w1 hov.rd (by omega))
    obtain ⟨A, c, rfl⟩ := hov.form
    clear hov HFT
    go_wp2_with fail
    refine (HI.out _).mono ?_
    rintro e w9 ⟨rfl, rfl⟩
    clear HI
    cases bi with
    | false =>
      have hv : V = none := by rw [hV]; rfl
      have r0 := blk_cell hk1 0
      have q0 := blk_free hk1 0
      have r1 := blk_cell hk1 1
      have q1 := blk_free hk1 1
      have r2 := blk_cell hk1 2
      have q2 := blk_free hk1 2
      clear hV HO
      subst hgr
      have hk7 := set3P hk1 (.int .u64 0) (.slice none 0 0) (.slice none 0 0)
      have hb7 := below_set3P hq1 (Nat.le_refl _) (.int .u64 0) (.slice none 0 0) (.slice none 0 0)
      have HD := Lib.hid (And.intro (blk_cell hk7 0) (And.intro (blk_cell hk7 1) (blk_cell hk7 2)))
      have HVV := Lib.hid hv
      clear hk7 hv
      go_wp2_with fail
      obtain ⟨d0, d1, d2⟩ := HD.out
      refine bodyPost_ret (v := .tuple #[.agg #[.int .u64 0, .slice none 0 0, .slice none 0 0], .bool false]) ?_ rfl ⟨Or.inr ⟨HVV.out, rfl⟩, hb7⟩
      simp at d0 d1 d2
      simp [results, Tryz.results183, go_sem, d0, d1, d2]
    | true =>
      have HV := Lib.hid (show V = readCs l from hV)
      unfold readCs at HV
      clear hV
      go_wp2_with fail
      refine HO.out.mono ?_
      rintro e w2 ⟨g, rfl, hr2, hb2⟩
      have hq2 := below_chain hq1 hq1.size hb2
      have hk2 := (hb2.block _ (blk_lt hk1)).trans hk1
      have hgl := hr2.lt
      have hlo := blk_lt hk1
      generalize w1.heap.size = lo at *
      clear HO hb2 hk1 hq1
      have hgi := hr2.from_
      obtain ⟨gd, hgd⟩ : ∃ gd, gd = w2.heap.size := ⟨_, rfl⟩
      have P1 : PZ 170 w gr gd lo g 240 240 #[.int .u64 0, .slice none 0 0, .slice none 0 0] #[.int .u64 0, .slice none 0 0, .slice none 0 0] l 0 (w2.alloc (.cells #[.int .u64 0, .slice none 0 0, .slice none 0 0] 240)) :=
        ⟨hq2.alloc hq2.size _, by omega, by have := hq2.size; omega, (Below.heap_alloc w2 _ _ (blk_lt hk2)).trans hk2, by rw [hgd]; exact heap_alloc_new w2 _, hr2.below ((Below.refl _ _).alloc (Nat.le_refl _) _), by omega, by omega⟩
      clear hq2 hk2 hr2 hgl hlo hgi
      go_wp2_with fail
      rw [← hgd]
      generalize w2.alloc (.cells #[.int .u64 0, .slice none 0 0, .slice none 0 0] 240) = wz at *
      clear hgd
      refine (rN_any P1.rd).mono ?_
      rintro e wa1 ⟨rfl, hr, hg⟩
      replace P1 := P1.call hg hr
      clear hr hg
      have b_xa := rN_ltP l 0
      generalize rN l 0 = Q at *
      obtain ⟨xa, l_xa, f_xa⟩ := Q
      dsimp only at P1 HV b_xa ⊢
      have z0 := blk_cell P1.loc 0
      have f0 := blk_free P1.loc 0
      have P2 : PZ 170 w gr gd lo g _ 240 _ #[.int .u64 (xa : Int), .slice none 0 0, .slice none 0 0] l_xa f_xa ((wa1).setCell ⟨gd, 0, none⟩ (.int .u64 (xa : Int))) := (P1.set 0 (.int .u64 (xa : Int)))
      clear P1
      go_wp2_with fail
      generalize (wa1).setCell ⟨gd, 0, none⟩ (.int .u64 (xa : Int)) = wb1 at *
      refine (rdB_any P2.rd).mono ?_
      rintro e wa2 ⟨vxb, rfl, hoxb, hr, hg⟩
      have hoxb0 := P2.below.size
      have glxb := P2.rd.lt
      have dlxb := blk_lt P2.loc
      have rlxb := blk_lt P2.res
      have nxbg : vxb.ownBlock ≠ some g := fun e => by have := (hoxb.lt _ e).1; omega
      have nxbd : vxb.ownBlock ≠ some gd := fun e => by have := (hoxb.lt _ e).1; omega
      have nxbr : vxb.ownBlock ≠ some gr := fun e => by have := (hoxb.lt _ e).1; omega
      replace P2 := P2.call hg hr
      clear hr hg
      have b_xb := rB_le l_xa f_xa
      generalize rB l_xa f_xa = Q at *
      obtain ⟨xb, l_xb, f_xb⟩ := Q
      dsimp only at P2 HV b_xb hoxb ⊢
      have oxb := hoxb
      clear hoxb glxb dlxb rlxb
      obtain ⟨Axb, cxb, rfl⟩ := oxb.form
      have z0 := blk_cell P2.loc 1
      have f0 := blk_free P2.loc 1
      have P3 : PZ 170 w gr gd lo g _ 240 _ #[.int .u64 (xa : Int), .slice Axb xb.length cxb, .slice none 0 0] l_xb f_xb ((wa2).setCell ⟨gd, 1, none⟩ (.slice Axb xb.length cxb)) := (P2.set 1 (.slice Axb xb.length cxb))
      clear P2
      replace oxb := (oxb.grown (grown_setR _ gd 1 (.slice Axb xb.length cxb)) (Or.inr nxbd))
      go_wp2_with fail
      generalize (wa2).setCell ⟨gd, 1, none⟩ (.slice Axb xb.length cxb) = wb2 at *
      refine (rdB_any P3.rd).mono ?_
      rintro e wa3 ⟨vxc, rfl, hoxc, hr, hg⟩
      have hoxc0 := P3.below.size
      have glxc := P3.rd.lt
      have dlxc := blk_lt P3.loc
      have rlxc := blk_lt P3.res
      have nxcg : vxc.ownBlock ≠ some g := fun e => by have := (hoxc.lt _ e).1; omega
      have nxcd : vxc.ownBlock ≠ some gd := fun e => by have := (hoxc.lt _ e).1; omega
      have nxcr : vxc.ownBlock ≠ some gr := fun e => by have := (hoxc.lt _ e).1; omega
      replace oxb := oxb.grown hg (Or.inr nxbg)
      replace P3 := P3.call hg hr
      clear hr hg
      have b_xc := rB_le l_xb f_xb
      generalize rB l_xb f_xb = Q at *
      obtain ⟨xc, l_xc, f_xc⟩ := Q
      dsimp only at P3 HV b_xc hoxc ⊢
      have oxc := hoxc
      clear hoxc glxc dlxc rlxc
      obtain ⟨Axc, cxc, rfl⟩ := oxc.form
      have z0 := blk_cell P3.loc 2
      have f0 := blk_free P3.loc 2
      have P4 : PZ 170 w gr gd lo g _ 240 _ #[.int .u64 (xa : Int), .slice Axb xb.length cxb, .slice Axc xc.length cxc] l_xc f_xc ((wa3).setCell ⟨gd, 2, none⟩ (.slice Axc xc.length cxc)) := (P3.set 2 (.slice Axc xc.length cxc))
      clear P3
      replace oxb := (oxb.grown (grown_setR _ gd 2 (.slice Axc xc.length cxc)) (Or.inr nxbd))
      replace oxc := (oxc.grown (grown_setR _ gd 2 (.slice Axc xc.length cxc)) (Or.inr nxcd))
      go_wp2_with fail
      generalize (wa3).setCell ⟨gd, 2, none⟩ (.slice Axc xc.length cxc) = wb3 at *
      refine (rdEnd_any P4.rd).mono ?_
      rintro e w7 ⟨rfl, rfl⟩
      generalize rEnd l_xc f_xc = E at *
      subst hgr
      by_cases hE : E = 0
      · subst hE
        have hv := HV.out
        rw [if_pos rfl] at hv
        (try dsimp only at hv)
        clear HV
        have r0 := blk_cell P4.res 0
        have q0 := blk_free P4.res 0
        have r1 := blk_cell P4.res 1
        have q1 := blk_free P4.res 1
        have r2 := blk_cell P4.res 2
        have q2 := blk_free P4.res 2
        have s0 := blk_cell P4.loc 0
        have s1 := blk_cell P4.loc 1
        have s2 := blk_cell P4.loc 2
        have hk7 := set3P P4.res (.int .u64 (xa : Int)) (.slice Axb xb.length cxb) (.slice Axc xc.length cxc)
        have hb7 := below_set3P P4.below P4.hr (.int .u64 (xa : Int)) (.slice Axb xb.length cxb) (.slice Axc xc.length cxc)
        have HD := Lib.hid (And.intro (blk_cell hk7 0) (And.intro (blk_cell hk7 1) (blk_cell hk7 2)))
        have HVV := Lib.hid hv
        clear hk7 hv
        have OWxb := (((oxb.grown (grown_setR _ w.heap.size 0 (.int .u64 (xa : Int))) (Or.inr nxbr)).grown (grown_setR _ w.heap.size 1 (.slice Axb xb.length cxb)) (Or.inr nxbr)).grown (grown_setR _ w.heap.size 2 (.slice Axc xc.length cxc)) (Or.inr nxbr))
        have hszxb := hoxb0
        have OWxc := (((oxc.grown (grown_setR _ w.heap.size 0 (.int .u64 (xa : Int))) (Or.inr nxcr)).grown (grown_setR _ w.heap.size 1 (.slice Axb xb.length cxb)) (Or.inr nxcr)).grown (grown_setR _ w.heap.size 2 (.slice Axc xc.length cxc)) (Or.inr nxcr))
        have hszxc := hoxc0
        go_wp2_with fail
        obtain ⟨d0, d1, d2⟩ := HD.out
        refine bodyPost_ret (v := .tuple #[.agg #[.int .u64 (xa : Int), .slice Axb xb.length cxb, .slice Axc xc.length cxc], .bool true]) ?_ rfl ⟨Or.inl ⟨⟨xa, xb, xc⟩, _, _, HVV.out, rfl, OWxb.more hszxb, OWxc.more hszxc⟩, hb7⟩
        simp at d0 d1 d2
        simp [results, Tryz.results183, go_sem, d0, d1, d2]
      · have hne : (E != 0) = true := by simpa using hE
        have hv := HV.out
        rw [if_neg hE] at hv
        (try dsimp only at hv)
        clear HV
        have r0 := blk_cell P4.res 0
        have q0 := blk_free P4.res 0
        have r1 := blk_cell P4.res 1
        have q1 := blk_free P4.res 1
        have r2 := blk_cell P4.res 2
        have q2 := blk_free P4.res 2
        have hk7 := set3P P4.res (.int .u64 0) (.slice none 0 0) (.slice none 0 0)
        have hb7 := below_set3P P4.below P4.hr (.int .u64 0) (.slice none 0 0) (.slice none 0 0)
        have HD := Lib.hid (And.intro (blk_cell hk7 0) (And.intro (blk_cell hk7 1) (blk_cell hk7 2)))
        have HVV := Lib.hid hv
        clear hk7 hv
        go_wp2_with fail
        obtain ⟨d0, d1, d2⟩ := HD.out
        refine bodyPost_ret (v := .tuple #[.agg #[.int .u64 0, .slice none 0 0, .slice none 0 0], .bool false]) ?_ rfl ⟨Or.inr ⟨HVV.out, rfl⟩, hb7⟩
        simp at d0 d1 d2
        simp [results, Tryz.results183, go_sem, d0, d1, d2]
end Go.Proofs.YtpcoonnfaoakhaaGreatDoor
namespace Go.Proofs.YtpcoonnfaoakhaaGreatDoor
set_option maxRecDepth 100000
open Go Go.RowKit
set_option linter.unusedVariables false

theorem minus64 (a b : Nat) (h : b ≤ a) (ha : a < 18446744073709551616) : ∃ d : Nat, IntKind.u64.wrap ((a : Int) - (b : Int)) = (d : Int) ∧ d = a - b := by
  refine ⟨a - b, ?_, rfl⟩
  unfold IntKind.wrap
  simp [IntKind.bits, IntKind.signed]
  omega
set_option maxHeartbeats 2000000 in
theorem over_any (t p now : Nat) (w : World) (hn : now < 18446744073709551616) : Calls Tryz.prog 184 #[.int .u64 (t : Int), .int .u64 (p : Int), .int .u64 (now : Int)] w fun e w' => e = .returned (.bool (overB t p now)) ∧ w = w' := by
  unfold overB
  by_cases h1 : t ≤ now
  · obtain ⟨d, hw, hd⟩ := minus64 now t h1 hn
    have i1 : (t : Int) ≤ (now : Int) := by omega
    rw [← hd]
    by_cases h2 : p ≤ d
    · have i2 : (p : Int) ≤ (d : Int) := by omega
      rw [decide_eq_true h1, decide_eq_true h2]
      clear h1 h2 hd hn
      go_enter Tryz.func184, Tryz.ntmps184
      go_wp2_with fail
      go_ret
      exact ⟨rfl, rfl⟩
    · have i2 : ¬ (p : Int) ≤ (d : Int) := by omega
      have i3 : decide (p ≤ d) = false := by simpa using h2
      rw [decide_eq_true h1, i3]
      clear h1 h2 hd hn
      go_enter Tryz.func184, Tryz.ntmps184
      go_wp2_with fail
      go_ret
      exact ⟨rfl, rfl⟩
  · have i1 : ¬ (t : Int) ≤ (now : Int) := by omega
    have i3 : decide (t ≤ now) = false := by simpa using h1
    rw [i3]
    clear h1 hn
    go_enter Tryz.func184, Tryz.ntmps184
    go_wp2_with fail
    go_ret
    exact ⟨rfl, rfl⟩
end Go.Proofs.YtpcoonnfaoakhaaGreatDoor
namespace Go.Proofs.YtpcoonnfaoakhaaGreatDoor
set_option maxRecDepth 100000
open Go Go.RowKit
set_option linter.unusedVariables false

def aliveE (R : List Pr) (id : ByteArray) : Int := match getCl R id with
  | none => 100
  | some c => if c.fr = true then 102 else 0
def aliveV (R : List Pr) (id : ByteArray) : ClV := match getCl R id with
  | none => ClV.none
  | some c => if c.fr = true then ClV.none else c
set_option maxHeartbeats 4000000 in
theorem alive_any {W w : World} {y : Lyr} {l : List Lyr} {R : List Pr} {k : Nat} (h : At W y l R k w) (id : ByteArray) (hid : id.size ≤ 100000000) :
    Calls Tryz.prog 182 #[.pointer (some ⟨y.b, 0, none⟩), .string id] w fun e w' => e = .returned (.tuple #[(aliveV R id).val, .int .i64 (aliveE R id)]) ∧ Below w.heap.size w w' := by
  have hk0 := heap_alloc_new w (.cells #[.string ⟨#[]⟩, .int .u64 0, .int .u64 0, .bool false] 112)
  have ha0 : Below w.heap.size w (w.alloc (.cells #[.string ⟨#[]⟩, .int .u64 0, .int .u64 0, .bool false] 112)) := (Below.refl _ _).alloc (Nat.le_refl _) _
  have HG := Lib.hid (clget_any (h.up ha0) id hid)
  generalize hW0 : w.alloc (.cells #[.string ⟨#[]⟩, .int .u64 0, .int .u64 0, .bool false] 112) = w0 at *
  obtain ⟨B, hB⟩ : ∃ B : Addr, B = ⟨y.b, 0, none⟩ := ⟨_, rfl⟩
  rw [← hB] at HG ⊢
  clear hB h
  obtain ⟨V, hV⟩ : ∃ V, V = (Value.tuple #[(aliveV R id).val, .int .i64 (aliveE R id)]) := ⟨_, rfl⟩
  rw [← hV]
  unfold aliveV aliveE at hV
  generalize getCl R id = o at *
  have HO := Lib.hid hV
  clear hV
  cases o with
  | none =>
    have hv : V = .tuple #[ClV.none.val, .int .i64 100] := by rw [HO.out]
    unfold clV ClV.val ClV.none at HG
    dsimp only at HG
    clear HO
    go_enter Tryz.func182, Tryz.ntmps182
    go_wp2_with fail
    try rw [hW0]
    clear hW0
    refine HG.out.mono ?_
    rintro e w1 ⟨rfl, hb1⟩
    have q1' := below_chain ha0 ha0.size hb1
    have k1 := (hb1.block _ (blk_lt hk0)).trans hk0
    have q2' := q1'.alloc q1'.size (.cells #[.string ⟨#[]⟩, .int .u64 0, .int .u64 0, .bool false] 112)
    replace k1 := (Below.heap_alloc w1 (.cells #[.string ⟨#[]⟩, .int .u64 0, .int .u64 0, .bool false] 112) _ (blk_lt k1)).trans k1
    clear HG hk0 ha0 hb1 q1'
    have r0 := blk_cell k1 0
    have q0 := blk_free k1 0
    have r1 := blk_cell k1 1
    have q1 := blk_free k1 1
    have r2 := blk_cell k1 2
    have q2 := blk_free k1 2
    have r3 := blk_cell k1 3
    have q3 := blk_free k1 3
    have hk7 := set4P k1 (.string ⟨#[]⟩) (.int .u64 0) (.int .u64 0) (.bool false)
    have hb7 := below_set4P q2' (Nat.le_refl _) (.string ⟨#[]⟩) (.int .u64 0) (.int .u64 0) (.bool false)
    have HD := Lib.hid (And.intro (blk_cell hk7 0) (And.intro (blk_cell hk7 1) (And.intro (blk_cell hk7 2) (blk_cell hk7 3))))
    have HVV := Lib.hid hv
    clear hk7 hv
    go_wp2_with fail
    obtain ⟨d0, d1, d2, d3⟩ := HD.out
    refine bodyPost_ret (v := V) ?_ rfl ⟨rfl, hb7⟩
    rw [HVV.out]
    simp at d0 d1 d2 d3
    simp [results, Tryz.results182, go_sem, d0, d1, d2, d3, ClV.val, ClV.none]
  | some c =>
    obtain ⟨ch, la, pe, fr⟩ := c
    cases fr with
    | true =>
      unfold clV ClV.val at HG
      dsimp only at HG
      have hv : V = .tuple #[ClV.none.val, .int .i64 102] := by rw [HO.out]; rfl
      clear HO
      go_enter Tryz.func182, Tryz.ntmps182
      go_wp2_with fail
      try rw [hW0]
      clear hW0
      refine HG.out.mono ?_
      rintro e w1 ⟨rfl, hb1⟩
      have q1' := below_chain ha0 ha0.size hb1
      have k1 := (hb1.block _ (blk_lt hk0)).trans hk0
      have q2' := q1'.alloc q1'.size (.cells #[.string ch, .int .u64 (la : Int), .int .u64 (pe : Int), .bool true] 112)
      replace k1 := (Below.heap_alloc w1 (.cells #[.string ch, .int .u64 (la : Int), .int .u64 (pe : Int), .bool true] 112) _ (blk_lt k1)).trans k1
      have m1 := heap_alloc_new w1 (.cells #[.string ch, .int .u64 (la : Int), .int .u64 (pe : Int), .bool true] 112)
      clear HG hk0 ha0 hb1 q1'
      have r0 := blk_cell k1 0
      have q0 := blk_free k1 0
      have r1 := blk_cell k1 1
      have q1 := blk_free k1 1
      have r2 := blk_cell k1 2
      have q2 := blk_free k1 2
      have r3 := blk_cell k1 3
      have q3 := blk_free k1 3
      have s0 := blk_cell m1 0
      have s1 := blk_cell m1 1
      have s2 := blk_cell m1 2
      have s3 := blk_cell m1 3
      have hk7 := set4P k1 (.string ⟨#[]⟩) (.int .u64 0) (.int .u64 0) (.bool false)
      have hb7 := below_set4P q2' (Nat.le_refl _) (.string ⟨#[]⟩) (.int .u64 0) (.int .u64 0) (.bool false)
      have HD := Lib.hid (And.intro (blk_cell hk7 0) (And.intro (blk_cell hk7 1) (And.intro (blk_cell hk7 2) (blk_cell hk7 3))))
      have HVV := Lib.hid hv
      clear hk7 hv
      go_wp2_with fail
      obtain ⟨d0, d1, d2, d3⟩ := HD.out
      refine bodyPost_ret (v := V) ?_ rfl ⟨rfl, hb7⟩
      rw [HVV.out]
      simp at d0 d1 d2 d3
      simp [results, Tryz.results182, go_sem, d0, d1, d2, d3, ClV.val, ClV.none]
    | false =>
      unfold clV ClV.val at HG
      dsimp only at HG
      have hv : V = .tuple #[.agg #[.string ch, .int .u64 (la : Int), .int .u64 (pe : Int), .bool false], .int .i64 0] := by rw [HO.out]; rfl
      clear HO
      go_enter Tryz.func182, Tryz.ntmps182
      go_wp2_with fail
      try rw [hW0]
      clear hW0
      refine HG.out.mono ?_
      rintro e w1 ⟨rfl, hb1⟩
      have q1' := below_chain ha0 ha0.size hb1
      have k1 := (hb1.block _ (blk_lt hk0)).trans hk0
      have q2' := q1'.alloc q1'.size (.cells #[.string ch, .int .u64 (la : Int), .int .u64 (pe : Int), .bool false] 112)
      replace k1 := (Below.heap_alloc w1 (.cells #[.string ch, .int .u64 (la : Int), .int .u64 (pe : Int), .bool false] 112) _ (blk_lt k1)).trans k1
      have m1 := heap_alloc_new w1 (.cells #[.string ch, .int .u64 (la : Int), .int .u64 (pe : Int), .bool false] 112)
      clear HG hk0 ha0 hb1 q1'
      have r0 := blk_cell k1 0
      have q0 := blk_free k1 0
      have r1 := blk_cell k1 1
      have q1 := blk_free k1 1
      have r2 := blk_cell k1 2
      have q2 := blk_free k1 2
      have r3 := blk_cell k1 3
      have q3 := blk_free k1 3
      have s0 := blk_cell m1 0
      have s1 := blk_cell m1 1
      have s2 := blk_cell m1 2
      have s3 := blk_cell m1 3
      have hk7 := set4P k1 (.string ch) (.int .u64 (la : Int)) (.int .u64 (pe : Int)) (.bool false)
      have hb7 := below_set4P q2' (Nat.le_refl _) (.string ch) (.int .u64 (la : Int)) (.int .u64 (pe : Int)) (.bool false)
      have HD := Lib.hid (And.intro (blk_cell hk7 0) (And.intro (blk_cell hk7 1) (And.intro (blk_cell hk7 2) (blk_cell hk7 3))))
      have HVV := Lib.hid hv
      clear hk7 hv
      go_wp2_with fail
      obtain ⟨d0, d1, d2, d3⟩ := HD.out
      refine bodyPost_ret (v := V) ?_ rfl ⟨rfl, hb7⟩
      rw [HVV.out]
      simp at d0 d1 d2 d3
      simp [results, Tryz.results182, go_sem, d0, d1, d2, d3, ClV.val, ClV.none]
theorem aliveV_la (R : List Pr) (id : ByteArray) : (aliveV R id).la < 18446744073709551616 := by
  unfold aliveV
  cases hg : getCl R id with
  | none => exact Nat.zero_lt_succ _
  | some c =>
    dsimp only
    split
    · exact Nat.zero_lt_succ _
    · unfold getCl at hg
      split at hg
      · cases hl : getL R (kCli id) with
        | none => rw [hl] at hg; cases hg
        | some lb =>
          rw [hl] at hg
          have hc : readCl lb = some c := hg
          unfold readCl at hc
          dsimp only at hc
          split at hc
          · injection hc with hc
            rw [← hc]
            exact rN_ltP _ _
          · cases hc
      · cases hg
/-- what a client that is alive shows -/
def show2 (R : List Pr) (id : ByteArray) (V : ClV) (ht now : Nat) : List UInt8 × Int := match getCs R id V.la with
  | none => ([], 103)
  | some t => if overB t.tm V.pe now = true then ([], 103) else match getCs R id ht with
    | none => ([], 101)
    | some u => (u.rt, 0)
theorem show_no {R : List Pr} {id : ByteArray} {ht now : Nat} (h : aliveE R id ≠ 0) : showM R id ht now = ([], aliveE R id) := by
  unfold aliveE at h ⊢
  unfold showM
  cases hg : getCl R id with
  | none => rfl
  | some c =>
    rw [hg] at h
    dsimp only at h ⊢
    by_cases hf : c.fr = true
    · rw [if_pos hf, if_pos hf]
    · rw [if_neg hf] at h; exact absurd rfl h
theorem show_yes {R : List Pr} {id : ByteArray} {ht now : Nat} (h : aliveE R id = 0) : showM R id ht now = show2 R id (aliveV R id) ht now := by
  unfold aliveE at h
  unfold showM aliveV show2
  cases hg : getCl R id with
  | none => rw [hg] at h; cases h
  | some c =>
    rw [hg] at h
    dsimp only at h ⊢
    by_cases hf : c.fr = true
    · rw [if_pos hf] at h; cases h
    · simp only [if_neg hf]
      try rfl
theorem CsV.forms {w : World} {B : Nat} {v : Value} {l : List UInt8} (h : Own w B v l) : ∃ A c, v = .slice A l.length c := h.form
set_option maxHeartbeats 4000000 in
theorem showing_any {W w : World} {y : Lyr} {l : List Lyr} {R : List Pr} {k : Nat} (h : At W y l R k w) (id : ByteArray) (ht now : Nat) (hid : id.size ≤ 100000000) (h_ht : ht < 18446744073709551616) (h_now : now < 18446744073709551616) :
    Calls Tryz.prog 138 #[.pointer (some ⟨y.b, 0, none⟩), .string id, .int .u64 (ht : Int), .int .u64 (now : Int)] w fun e w' => ∃ v, e = .returned (.tuple #[v, .int .i64 (showM R id ht now).2]) ∧ Own w' w.heap.size v (showM R id ht now).1 ∧ Below w.heap.size w w' := by
  have HA := Lib.hid (alive_any h id hid)
  have HT := Lib.hid (fun (Z : World) (hz : Below w.heap.size w Z) (n : Nat) (hn : n < 18446744073709551616) => csget_any (h.up hz) id n hn hid)
  have HOV := Lib.hid (fun (t p : Nat) (Z : World) => over_any t p now Z h_now)
  have hla := aliveV_la R id
  have hE0 : aliveE R id ≠ 0 → showM R id ht now = ([], aliveE R id) := show_no
  have hE1 : aliveE R id = 0 → showM R id ht now = show2 R id (aliveV R id) ht now := show_yes
  generalize showM R id ht now = SM at *
  generalize aliveV R id = V at *
  generalize aliveE R id = E at *
  obtain ⟨ch, la, pe, fr⟩ := V
  unfold ClV.val at HA
  dsimp only at HA hla
  unfold show2 at hE1
  dsimp only at hE1
  obtain ⟨B, hB⟩ : ∃ B : Addr, B = ⟨y.b, 0, none⟩ := ⟨_, rfl⟩
  rw [← hB] at HA HT ⊢
  clear hB h h_now
  by_cases hE : E = 0
  · have HM := Lib.hid (hE1 hE)
    subst hE
    clear hE0 hE1
    go_enter Tryz.func138, Tryz.ntmps138
    go_wp2_with fail
    refine HA.out.mono ?_
    rintro e w1 ⟨rfl, hb1⟩
    have k2 := heap_alloc_new w1 (.cells #[.string ch, .int .u64 (la : Int), .int .u64 (pe : Int), .bool fr] 112)
    have b2 := hb1.alloc hb1.size (.cells #[.string ch, .int .u64 (la : Int), .int .u64 (pe : Int), .bool fr] 112)
    have c1 := blk_cell k2 1
    have HT1 := Lib.hid (HT.out _ b2 la hla)
    clear HA hb1 hla
    go_wp2_with fail
    refine HT1.out.mono ?_
    rintro e w3 ⟨⟨t, vr, vn, ht1, rfl, hor, hon⟩ | ⟨ht1, rfl⟩, hb3⟩
    · have b3 := below_chain b2 b2.size hb3
      have k3 := (hb3.block _ (blk_lt k2)).trans k2
      obtain ⟨tm, rt, nx⟩ := t
      obtain ⟨Ar, cr, rfl⟩ := hor.form
      obtain ⟨An, cn, rfl⟩ := hon.form
      have HM1 := HM.out
      rw [ht1] at HM1
      dsimp only at HM1 ⊢
      generalize rt.length = nr at *
      generalize nx.length = nn at *
      have k4 := (Below.heap_alloc w3 (.cells #[.int .u64 (tm : Int), .slice Ar nr cr, .slice An nn cn] 240) _ (blk_lt k3)).trans k3
      have m4 := heap_alloc_new w3 (.cells #[.int .u64 (tm : Int), .slice Ar nr cr, .slice An nn cn] 240)
      have b4 := b3.alloc b3.size (.cells #[.int .u64 (tm : Int), .slice Ar nr cr, .slice An nn cn] 240)
      have d2 := blk_cell k4 2
      have d0 := blk_cell m4 0
      clear HM HT1 hor hon c1 hb3 b2 k2 k3 b3 ht1
      go_wp2_with fail
      generalize w3.alloc (.cells #[.int .u64 (tm : Int), .slice Ar nr cr, .slice An nn cn] 240) = w4 at *
      refine (HOV.out tm pe _).mono ?_
      rintro e w5 ⟨rfl, rfl⟩
      have HT2 := Lib.hid (HT.out _ b4 ht h_ht)
      cases hov : overB tm pe now with
      | true =>
        rw [hov, if_pos rfl] at HM1
        subst HM1
        clear HT HOV d0 d2 HT2
        go_wp2_with fail
        go_ret2
        exact ⟨_, rfl, Own.nil _ _, b4⟩
      | false =>
        rw [hov, if_neg (by simp)] at HM1
        have HM2 := Lib.hid HM1
        clear HT HOV d0 d2 HM1
        go_wp2_with fail
        refine HT2.out.mono ?_
        rintro e w6 ⟨⟨u, vr, vn, hu1, rfl, hor, hon⟩ | ⟨hu1, rfl⟩, hb6⟩
        · have b6 := below_chain b4 b4.size hb6
          obtain ⟨um, ur, ux⟩ := u
          dsimp only at hor hon ⊢
          have hm := HM2.out
          rw [hu1] at hm
          dsimp only at hm
          subst hm
          have HOR := Lib.hid hor
          obtain ⟨Ar, cr, rfl⟩ := hor.form
          obtain ⟨An, cn, rfl⟩ := hon.form
          have m6 := heap_alloc_new w6 (.cells #[.int .u64 (um : Int), .slice Ar ur.length cr, .slice An ux.length cn] 240)
          have b7 := b6.alloc b6.size (.cells #[.int .u64 (um : Int), .slice Ar ur.length cr, .slice An ux.length cn] 240)
          have d1 := blk_cell m6 1
          have HOR2 := Lib.hid ((HOR.out.below ((Below.refl w6.heap.size w6).alloc (Nat.le_refl _) (.cells #[.int .u64 (um : Int), .slice Ar ur.length cr, .slice An ux.length cn] 240))).more b4.size)
          clear HM2 HT2 hor hon hb6 hu1
          generalize ux.length = nn2 at *
          go_wp2_with fail
          go_ret2
          exact ⟨_, rfl, HOR2.out, b7⟩
        · have b6 := below_chain b4 b4.size hb6
          have hm := HM2.out
          rw [hu1] at hm
          dsimp only at hm
          subst hm
          have b7 := b6.alloc b6.size (.cells #[.int .u64 0, .slice none 0 0, .slice none 0 0] 240)
          clear HM2 HT2
          go_wp2_with fail
          go_ret2
          exact ⟨_, rfl, Own.nil _ _, b7⟩
    · have b3 := below_chain b2 b2.size hb3
      have HM1 := HM.out
      rw [ht1] at HM1
      dsimp only at HM1
      subst HM1
      have b4 := b3.alloc b3.size (.cells #[.int .u64 0, .slice none 0 0, .slice none 0 0] 240)
      clear HM HT1 HT HOV c1
      go_wp2_with fail
      go_ret2
      exact ⟨_, rfl, Own.nil _ _, b4⟩
  · have HM := hE0 hE
    subst HM
    have he : (E != 0) = true := by simpa using hE
    clear hE0 hE1 hE HT HOV
    go_enter Tryz.func138, Tryz.ntmps138
    go_wp2_with fail
    refine HA.out.mono ?_
    rintro e w1 ⟨rfl, hb1⟩
    have b2 := hb1.alloc hb1.size (.cells #[.string ch, .int .u64 (la : Int), .int .u64 (pe : Int), .bool fr] 112)
    go_wp2_with fail
    go_ret2
    exact ⟨_, rfl, Own.nil _ _, b2⟩
end Go.Proofs.YtpcoonnfaoakhaaGreatDoor
namespace Go.Proofs.YtpcoonnfaoakhaaGreatDoor
set_option maxRecDepth 100000
open Go Go.RowKit
set_option linter.unusedVariables false

def verifyE (R : List Pr) (id : ByteArray) (ht now : Nat) (key : ByteArray) (val : List UInt8) (p : Pf) : Int :=
  if (showM R id ht now).2 = 0 then (if verifyB (showM R id ht now).1 key val p = true then 0 else 61) else (showM R id ht now).2
set_option maxHeartbeats 4000000 in
theorem clverify_any {W w : World} {y : Lyr} {l : List Lyr} {R : List Pr} {k : Nat} (h : At W y l R k w) (id : ByteArray) (ht now : Nat) (hid : id.size ≤ 100000000) (h_ht : ht < 18446744073709551616) (h_now : now < 18446744073709551616)
    (key : ByteArray) (vv : Value) (val : List UInt8) (n : Int) (A : Option Addr) (m c : Nat) (p : Pf) (hp : ∀ Z, Below w.heap.size w Z → ProofV Z Z.heap.size (.agg #[.int .i64 n, .slice A m c]) p) (hvv : Rd w w.heap.size vv val)
    (fr : TypeId × Nat × Nat) (hk : w.heap[0]? = some (.cells kVals fr.1 fr.2)) :
    Calls Tryz.prog 70 #[.pointer (some ⟨y.b, 0, none⟩), .string id, .int .u64 (ht : Int), .string key, vv, .agg #[.int .i64 n, .slice A m c], .int .u64 (now : Int)] w fun e w' => e = .returned (.int .i64 (verifyE R id ht now key val p)) ∧ Below w.heap.size w w' := by
  have hbox := heap_alloc_new w (.cells #[.int .i64 n, .slice A m c] 69)
  have ha0 : Below w.heap.size w (w.alloc (.cells #[.int .i64 n, .slice A m c] 69)) := (Below.refl _ _).alloc (Nat.le_refl _) _
  have HS := Lib.hid (showing_any (h.up ha0) id ht now hid h_ht h_now)
  have HV : Hid (∀ (Z : World) (hz : Below w.heap.size w Z) (rv : Value) (B : Nat) (ho : Own Z B rv (showM R id ht now).1), Calls Tryz.prog 139 #[rv, .string key, vv, .agg #[.int .i64 n, .slice A m c]] Z fun e w' => e = .returned (.bool (verifyB (showM R id ht now).1 key val p)) ∧ Below Z.heap.size Z w') :=
    Lib.hid fun Z hz rv B ho => verify_any rv _ key vv val _ p Z ho.rd (hvv.up (Nat.le_refl _) hz) (hp Z hz) fr ((hz.block _ (blk_lt hk)).trans hk)
  generalize hW0 : w.alloc (.cells #[.int .i64 n, .slice A m c] 69) = w0 at *
  have hl0 := blk_lt hbox
  unfold verifyE
  obtain ⟨Av, cv, rfl⟩ := hvv.form
  generalize verifyB (showM R id ht now).1 key val p = vb at *
  generalize showM R id ht now = SM at *
  obtain ⟨root, E⟩ := SM
  dsimp only at *
  obtain ⟨B, hB⟩ : ∃ B : Addr, B = ⟨y.b, 0, none⟩ := ⟨_, rfl⟩
  rw [← hB] at HS ⊢
  clear hB h h_now h_ht hid hvv hp hk
  generalize val.length = nval at *
  by_cases hE : E = 0
  · subst hE
    rw [if_pos rfl]
    cases vb with
    | true =>
      rw [if_pos rfl]
      go_enter Tryz.func70, Tryz.ntmps70
      go_wp2_with fail
      try rw [hW0]
      clear hW0
      refine HS.out.mono ?_
      rintro e w1 ⟨rv, rfl, hor, hb1⟩
      have b1 := below_chain ha0 ha0.size hb1
      have HV1 := Lib.hid (HV.out _ b1 _ _ hor)
      have k1 := (hb1.block _ hl0).trans hbox
      have c0 := blk_cell k1 0
      have c1 := blk_cell k1 1
      obtain ⟨Ax, cx, rfl⟩ := hor.form
      generalize root.length = nroot at *
      clear HS HV hor ha0 hbox hl0 hb1 k1
      go_wp2_with fail
      refine HV1.out.mono ?_
      rintro e w2 ⟨rfl, hb2⟩
      have b2 := below_chain b1 b1.size hb2
      go_wp2_with fail
      go_ret
      exact ⟨rfl, b2⟩
    | false =>
      rw [if_neg (by simp)]
      go_enter Tryz.func70, Tryz.ntmps70
      go_wp2_with fail
      try rw [hW0]
      clear hW0
      refine HS.out.mono ?_
      rintro e w1 ⟨rv, rfl, hor, hb1⟩
      have b1 := below_chain ha0 ha0.size hb1
      have HV1 := Lib.hid (HV.out _ b1 _ _ hor)
      have k1 := (hb1.block _ hl0).trans hbox
      have c0 := blk_cell k1 0
      have c1 := blk_cell k1 1
      obtain ⟨Ax, cx, rfl⟩ := hor.form
      generalize root.length = nroot at *
      clear HS HV hor ha0 hbox hl0 hb1 k1
      go_wp2_with fail
      refine HV1.out.mono ?_
      rintro e w2 ⟨rfl, hb2⟩
      have b2 := below_chain b1 b1.size hb2
      go_wp2_with fail
      go_ret
      exact ⟨rfl, b2⟩
  · have he : (E != 0) = true := by simpa using hE
    rw [if_neg hE]
    clear HV hbox hl0 hE
    go_enter Tryz.func70, Tryz.ntmps70
    go_wp2_with fail
    try rw [hW0]
    clear hW0
    refine HS.out.mono ?_
    rintro e w1 ⟨rv, rfl, hor, hb1⟩
    have b1 := below_chain ha0 ha0.size hb1
    obtain ⟨Ax, cx, rfl⟩ := hor.form
    clear HS hor
    go_wp2_with fail
    go_ret
    exact ⟨rfl, b1⟩
end Go.Proofs.YtpcoonnfaoakhaaGreatDoor
namespace Go.Proofs.YtpcoonnfaoakhaaGreatDoor
set_option maxRecDepth 100000
open Go Go.RowKit
set_option linter.unusedVariables false

end Go.Proofs.YtpcoonnfaoakhaaGreatDoor
namespace Go.Proofs.YtpcoonnfaoakhaaGreatDoor
set_option maxRecDepth 100000
open Go Go.RowKit
set_option linter.unusedVariables false

end Go.Proofs.YtpcoonnfaoakhaaGreatDoor
namespace Go.Proofs.YtpcoonnfaoakhaaGreatDoor
set_option maxRecDepth 100000
open Go Go.RowKit
set_option linter.unusedVariables false

end Go.Proofs.YtpcoonnfaoakhaaGreatDoor
