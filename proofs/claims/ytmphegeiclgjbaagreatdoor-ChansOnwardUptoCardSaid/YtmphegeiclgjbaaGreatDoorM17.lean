/- Texts joined: ClnN1. -/
import Derived.Test.YtmphegeiclgjbaaGreatDoorM13
import Derived.Test.YtmphegeiclgjbaaGreatDoorM15
import Derived.Test.YtmphegeiclgjbaaGreatDoorM16
import Derived.Test.YtmphegeiclgjbaaGreatDoorM12
import Derived.Deep.MidRow
import Derived.Test.YtmphegeiclgjbaaGreatDoorM07
namespace Go.Proofs.YtmphegeiclgjbaaGreatDoor
set_option maxRecDepth 100000
open Go Go.RowKit
set_option linter.unusedVariables false

/-- news: a header, the set that voted, the one that is trusted, the votes, the height that is trusted -/
structure NwW where
  h : HdW
  vs : Value
  s : List VD
  vt : Value
  t : List VD
  vo : Value
  o : List ByteArray
  ua : Nat
structure NwW.rd (W : World) (u : NwW) : Prop where
  h : u.h.rd W
  s : ValsAt W W.heap.size u.vs u.s
  t : ValsAt W W.heap.size u.vt u.t
  o : StrsAt W W.heap.size u.vo u.o
  ua : u.ua < 18446744073709551616
  ls : u.s.length ≤ 1048576
  lt : u.t.length ≤ 1048576
theorem NwW.rd.keptM {W W' : World} {u : NwW} (k : u.rd W) (hk : Kept W W') : u.rd W' := ⟨k.h.keptM hk, k.s.keptM hk, k.t.keptM hk, k.o.keptM hk, k.ua, k.ls, k.lt⟩
def NwW.val (u : NwW) : Value := .agg #[.string u.h.ch, .int .u64 (u.h.ht : Int), .int .u64 (u.h.tm : Int), u.h.vr, u.h.vv, u.h.vn, u.vs, u.vt, u.vo, .int .u64 (u.ua : Int)]
def vhash (l : List VD) : List UInt8 := shaSum (formB (strBytes valsWord) ++ formBs [bytesV l])
def linkedB (nx : List UInt8) (va : List UInt8) (ht ua : Nat) (t : List VD) (o : List ByteArray) : Bool := if ht = (ua + 1) % 18446744073709551616 then sameB va nx else rightB t && (sameB (vhash t) nx && thirdB t (keysOf o))
def wrongB (b1 b2 b3 b4 b5 b6 b7 b8 : Bool) : Int := if b1 = true then 103 else if b2 = true then 107 else if b3 = true then 104 else if b4 = true then 105 else if b5 = false then 21 else if b6 = false then 90 else if b7 = false then 106 else if b8 = false then 91 else 0
def wrongE (R : List Pr) (id : ByteArray) (c : ClV) (u : NwW) (now : Nat) : Int := match getCs R id u.ua with
  | none => 101
  | some t => wrongB (overB t.tm c.pe now) (u.h.ch.toList != c.ch.toList) (decide (u.h.ht ≤ u.ua)) (decide (u.h.tm ≤ t.tm) || aheadB u.h.tm now) (decide (u.h.rt.length = 32) && (decide (u.h.va.length = 32) && decide (u.h.nx.length = 32))) (rightB u.s && sameB (vhash u.s) u.h.va) (linkedB t.nx u.h.va u.h.ht u.ua u.t u.o) (quorumB u.s (keysOf u.o))
end Go.Proofs.YtmphegeiclgjbaaGreatDoor
namespace Go.Proofs.YtmphegeiclgjbaaGreatDoor
set_option maxRecDepth 100000
open Go Go.RowKit
set_option linter.unusedVariables false

theorem wrap_one (a : Nat) (h : a < 18446744073709551616) : IntKind.u64.wrap ((a : Int) + 1) = (((a + 1) % 18446744073709551616 : Nat) : Int) := by
  rw [IntKind.wrap_u64]
  omega
set_option maxHeartbeats 16000000 in
theorem linked_any (u : NwW) (w : World) (hu : u.rd w) (tt : Nat) (vp vq : Value) (xp xq : List UInt8) (hp : Rd w w.heap.size vp xp) (hq : Rd w w.heap.size vq xq)
    (fr : TypeId × Nat × Nat) (hk : w.heap[0]? = some (.cells kVals fr.1 fr.2)) :
    Calls Tryz.prog 118 #[.agg #[.int .u64 (tt : Int), vp, vq], u.val] w fun e w' => e = .returned (.bool (linkedB xq u.h.va u.h.ht u.ua u.t u.o)) ∧ Below w.heap.size w w' := by
  have HRT : Hid (∀ Z, Below w.heap.size w Z → Calls Tryz.prog 61 #[u.vt] Z fun e w' => e = .returned (.bool (rightB u.t)) ∧ Below Z.heap.size Z w') := Lib.hid fun Z hz => vlright_any u.vt u.t Z (hu.t.up (Nat.le_refl _) hz)
  have HHA : Hid (∀ Z, Below w.heap.size w Z → Calls Tryz.prog 18 #[u.vt] Z fun e w' => ∃ v', e = .returned v' ∧ Own w' Z.heap.size v' (vhash u.t) ∧ Below Z.heap.size Z w') := Lib.hid fun Z hz => hashV_any u.vt u.t Z (hu.t.up (Nat.le_refl _) hz) hu.lt fr ((hz.block _ (blk_lt hk)).trans hk)
  have HTH : Hid (∀ Z, Below w.heap.size w Z → Calls Tryz.prog 20 #[u.vt, u.vo] Z fun e w' => e = .returned (.bool (thirdB u.t (keysOf u.o))) ∧ Below Z.heap.size Z w') := Lib.hid fun Z hz => third_any u.vt u.vo u.t u.o Z (hu.t.up (Nat.le_refl _) hz) (hu.o.up (Nat.le_refl _) hz)
  have HEV : Hid (∀ Z, Below w.heap.size w Z → Calls Tryz.prog 67 #[u.h.vv, vq] Z fun e w' => e = .returned (.bool (sameB u.h.va xq)) ∧ Z = w') := Lib.hid fun Z hz => equal_any _ _ _ _ Z (hu.h.v.up (Nat.le_refl _) hz) (hq.up (Nat.le_refl _) hz)
  have HEQ : Hid (∀ Z v' B, Below w.heap.size w Z → Own Z B v' (vhash u.t) → Calls Tryz.prog 67 #[v', vq] Z fun e w' => e = .returned (.bool (sameB (vhash u.t) xq)) ∧ Z = w') := Lib.hid fun Z v' B hz ho => equal_any _ _ _ _ Z ho.rd (hq.up (Nat.le_refl _) hz)
  unfold NwW.val
  obtain ⟨⟨ch, ht, tm, vr, vv, vn, rt, va, nx⟩, vs, s, vt, t, vo, o, ua⟩ := u
  obtain ⟨⟨hr0, hv0, hn0, h_ht, h_tm⟩, hs0, ht0, ho0, h_ua, h_ls, h_lt⟩ := hu
  dsimp only at hr0 hv0 hn0 h_ht h_tm hs0 ht0 ho0 h_ua h_ls h_lt
  dsimp only at HRT HHA HTH HEV HEQ ⊢
  obtain ⟨Ar, cr, rfl⟩ := hr0.form
  obtain ⟨Av, cv, rfl⟩ := hv0.form
  obtain ⟨An, cn, rfl⟩ := hn0.form
  obtain ⟨As, cs, rfl⟩ := hs0.form
  obtain ⟨At_, ct, rfl⟩ := ht0.form
  obtain ⟨Ao, co, rfl⟩ := ho0.form
  obtain ⟨Ap, cp, rfl⟩ := hp.form
  obtain ⟨Aq, cq, rfl⟩ := hq.form
  have hw1 := wrap_one ua h_ua
  unfold linkedB
  generalize sameB (vhash t) xq = b2 at *
  generalize thirdB t (keysOf o) = b3 at *
  generalize sameB va xq = b0 at *
  generalize vhash t = VH at *
  generalize rightB t = b1 at *
  clear hr0 hv0 hn0 hs0 ht0 ho0 hk hp hq
  generalize rt.length = nr at *
  generalize va.length = nv at *
  generalize nx.length = nn at *
  generalize s.length = ns at *
  generalize t.length = nt at *
  generalize o.length = no at *
  generalize xp.length = np at *
  generalize xq.length = nq at *
  have m0 := heap_alloc_new (w) (.cells #[.int .u64 (tt : Int), .slice Ap np cp, .slice Aq nq cq] 59)
  have ha0 := (Below.refl w.heap.size w).alloc (Nat.le_refl _) (.cells #[.int .u64 (tt : Int), .slice Ap np cp, .slice Aq nq cq] 59)
  have m1 := heap_alloc_new ((w).alloc (.cells #[.int .u64 (tt : Int), .slice Ap np cp, .slice Aq nq cq] 59)) (.cells #[.string ch, .int .u64 (ht : Int), .int .u64 (tm : Int), .slice Ar nr cr, .slice Av nv cv, .slice An nn cn, .slice As ns cs, .slice At_ nt ct, .slice Ao no co, .int .u64 (ua : Int)] 68)
  replace m0 := (Below.heap_alloc ((w).alloc (.cells #[.int .u64 (tt : Int), .slice Ap np cp, .slice Aq nq cq] 59)) (.cells #[.string ch, .int .u64 (ht : Int), .int .u64 (tm : Int), .slice Ar nr cr, .slice Av nv cv, .slice An nn cn, .slice As ns cs, .slice At_ nt ct, .slice Ao no co, .int .u64 (ua : Int)] 68) _ (blk_lt m0)).trans m0
  rw [show ((w).alloc (.cells #[.int .u64 (tt : Int), .slice Ap np cp, .slice Aq nq cq] 59)).heap.size = w.heap.size + 1 by simp] at m1
  have ha1 := ha0.alloc ha0.size (.cells #[.string ch, .int .u64 (ht : Int), .int .u64 (tm : Int), .slice Ar nr cr, .slice Av nv cv, .slice An nn cn, .slice As ns cs, .slice At_ nt ct, .slice Ao no co, .int .u64 (ua : Int)] 68)
  generalize hW0 : ((w).alloc (.cells #[.int .u64 (tt : Int), .slice Ap np cp, .slice Aq nq cq] 59)).alloc (.cells #[.string ch, .int .u64 (ht : Int), .int .u64 (tm : Int), .slice Ar nr cr, .slice Av nv cv, .slice An nn cn, .slice As ns cs, .slice At_ nt ct, .slice Ao no co, .int .u64 (ua : Int)] 68) = W0 at *
  generalize hgg : w.heap.size = g0 at *
  have hl0 := blk_lt m0
  have hl1 := blk_lt m1
  have HC : Hid (∀ Z, Below W0.heap.size W0 Z → Z.cell? ⟨g0, 0, none⟩ = some (.int .u64 (tt : Int)) ∧ Z.cell? ⟨g0, 1, none⟩ = some (.slice Ap np cp) ∧ Z.cell? ⟨g0, 2, none⟩ = some (.slice Aq nq cq) ∧ Z.cell? ⟨g0 + 1, 0, none⟩ = some (.string ch) ∧ Z.cell? ⟨g0 + 1, 1, none⟩ = some (.int .u64 (ht : Int)) ∧ Z.cell? ⟨g0 + 1, 2, none⟩ = some (.int .u64 (tm : Int)) ∧ Z.cell? ⟨g0 + 1, 3, none⟩ = some (.slice Ar nr cr) ∧ Z.cell? ⟨g0 + 1, 4, none⟩ = some (.slice Av nv cv) ∧ Z.cell? ⟨g0 + 1, 5, none⟩ = some (.slice An nn cn) ∧ Z.cell? ⟨g0 + 1, 6, none⟩ = some (.slice As ns cs) ∧ Z.cell? ⟨g0 + 1, 7, none⟩ = some (.slice At_ nt ct) ∧ Z.cell? ⟨g0 + 1, 8, none⟩ = some (.slice Ao no co) ∧ Z.cell? ⟨g0 + 1, 9, none⟩ = some (.int .u64 (ua : Int))) := Lib.hid fun Z hz => ⟨blk_cell ((hz.block _ hl0).trans m0) 0, blk_cell ((hz.block _ hl0).trans m0) 1, blk_cell ((hz.block _ hl0).trans m0) 2, blk_cell ((hz.block _ hl1).trans m1) 0, blk_cell ((hz.block _ hl1).trans m1) 1, blk_cell ((hz.block _ hl1).trans m1) 2, blk_cell ((hz.block _ hl1).trans m1) 3, blk_cell ((hz.block _ hl1).trans m1) 4, blk_cell ((hz.block _ hl1).trans m1) 5, blk_cell ((hz.block _ hl1).trans m1) 6, blk_cell ((hz.block _ hl1).trans m1) 7, blk_cell ((hz.block _ hl1).trans m1) 8, blk_cell ((hz.block _ hl1).trans m1) 9⟩
  have HA : Hid (Below g0 w W0 ∧ g0 ≤ W0.heap.size) := Lib.hid ⟨ha1, by rw [← hgg]; exact ha1.size⟩
  have HB : Hid (∀ Z, Below W0.heap.size W0 Z → Below g0 w Z) := Lib.hid fun Z hz => HA.out.1.trans (hz.mono HA.out.2)
  clear m0 m1 ha0 ha1 hl0 hl1
  obtain ⟨c0, c1, c2, c3, c4, c5, c6, c7, c8, c9, c10, c11, c12⟩ := HC.out W0 (Below.refl _ _)
  by_cases hE : ht = (ua + 1) % 18446744073709551616
  · rw [if_pos hE]
    have i1 : ((ht : Nat) : Int) = (((ua + 1) % 18446744073709551616 : Nat) : Int) := by rw [hE]
    generalize (ua + 1) % 18446744073709551616 = uu at *
    subst hE
    clear HRT HHA HTH HEQ h_ua h_ht i1
    go_enter Tryz.func118, Tryz.ntmps118
    go_wp2_with fail
    try rw [hgg]
    try rw [hW0]
    clear hW0
    refine (HEV.out _ HA.out.1).mono ?_
    rintro e w1 ⟨rfl, rfl⟩
    go_wp2_with fail
    go_ret
    exact ⟨rfl, HA.out.1⟩
  · rw [if_neg hE]
    have i1 : (((ht : Nat) : Int) == (((ua + 1) % 18446744073709551616 : Nat) : Int)) = false := by simp; omega
    have i2 : ¬ ((ht : Nat) : Int) = (((ua + 1) % 18446744073709551616 : Nat) : Int) := by omega
    generalize (ua + 1) % 18446744073709551616 = uu at *
    clear HEV
    have hbd : Below W0.heap.size W0 W0.drew := (Below.refl _ _).drew
    cases b1 with
    | false =>
      rw [Bool.false_and]
      go_enter Tryz.func118, Tryz.ntmps118
      go_wp2_with fail
      try rw [hgg]
      try rw [hW0]
      clear hW0
      refine wp_region_held_drew (S := BelS W0.drew) (by kernel_rfl) (BelS.refl _) (fun hS0 => ?_)
      refine wpAnyH_take (i := 0) (oi := _) (v := ?_) rfl (by kernel_rfl) (by kernel_rfl) (by kernel_rfl) (fun _ _ _ h => h) (Or.inl ⟨by rfl, ?_⟩) hS0 ?_
      rotate_left
      · intro W hSW
        try go_simp
        all_goals with_reducible rfl
      simp only [Act.put, List.setIfInBounds_toArray, List.set_cons_zero, List.set_cons_succ, List.getElem_toArray, List.getElem_cons_zero, List.getElem_cons_succ]
      refine wpAnyH_take (i := 1) (oi := _) (v := ?_) rfl (by kernel_rfl) (by kernel_rfl) (by kernel_rfl) (fun _ _ _ h => h) (Or.inl ⟨by rfl, ?_⟩) hS0 ?_
      rotate_left
      · intro W hSW
        obtain ⟨c0, c1, c2, c3, c4, c5, c6, c7, c8, c9, c10, c11, c12⟩ := HC.out W (below_chain hbd hbd.size hSW)
        try go_simp
        all_goals with_reducible rfl
      simp only [Act.put, List.setIfInBounds_toArray, List.set_cons_zero, List.set_cons_succ, List.getElem_toArray, List.getElem_cons_zero, List.getElem_cons_succ]
      refine wpAnyH_ready (rs := [2]) (by kernel_rfl) (by simp) (AllReadyH.cons rfl (fun K hK => ?_) AllReadyH.nil)
      have DA := Lib.hid (HRT.out W0.drew (HB.out W0.drew hbd))
      go_simp
      go_wp2_with ((go_at_call 61; (with_reducible refine DA.out.mono ?_); rintro e wA ⟨rfl, hbA⟩))
      have hqA := below_chain hbd hbd.size hbA
      refine hK.out _ _ hbA (fun _ => ?_)
      clear hK K DA
      refine wpAnyH_stronger (S' := BelS wA) (fun W h => below_chain hbA hbA.size h) _ _ _ _ ?_
      have hSA : BelS wA wA := BelS.refl wA
      refine wpAnyH_take (i := 3) (oi := _) (v := .bool false) rfl (by kernel_rfl) (by kernel_rfl) (by kernel_rfl) (fun _ _ _ h => h) (Or.inl ⟨by rfl, ?_⟩) hSA ?_
      skip
      · intro W hSW
        try go_simp
        all_goals first | with_reducible rfl | (simp; done) | trace_state
      simp only [Act.put, List.setIfInBounds_toArray, List.set_cons_zero, List.set_cons_succ, List.getElem_toArray, List.getElem_cons_zero, List.getElem_cons_succ]
      refine wpAnyH_take (i := 4) (oi := _) (v := undef) rfl (by kernel_rfl) (by kernel_rfl) (by kernel_rfl) (fun _ _ _ h => h) (Or.inr ⟨by rfl, rfl⟩) hSA ?_
      simp only [Act.put, List.setIfInBounds_toArray, List.set_cons_zero, List.set_cons_succ, List.getElem_toArray, List.getElem_cons_zero, List.getElem_cons_succ]
      refine wpAnyH_take (i := 5) (oi := _) (v := undef) rfl (by kernel_rfl) (by kernel_rfl) (by kernel_rfl) (fun _ _ _ h => h) (Or.inr ⟨by rfl, rfl⟩) hSA ?_
      simp only [Act.put, List.setIfInBounds_toArray, List.set_cons_zero, List.set_cons_succ, List.getElem_toArray, List.getElem_cons_zero, List.getElem_cons_succ]
      refine wpAnyH_take (i := 6) (oi := _) (v := undef) rfl (by kernel_rfl) (by kernel_rfl) (by kernel_rfl) (fun _ _ _ h => h) (Or.inr ⟨by rfl, rfl⟩) hSA ?_
      simp only [Act.put, List.setIfInBounds_toArray, List.set_cons_zero, List.set_cons_succ, List.getElem_toArray, List.getElem_cons_zero, List.getElem_cons_succ]
      refine wpAnyH_take (i := 7) (oi := _) (v := undef) rfl (by kernel_rfl) (by kernel_rfl) (by kernel_rfl) (fun _ _ _ h => h) (Or.inr ⟨by rfl, rfl⟩) hSA ?_
      simp only [Act.put, List.setIfInBounds_toArray, List.set_cons_zero, List.set_cons_succ, List.getElem_toArray, List.getElem_cons_zero, List.getElem_cons_succ]
      refine wpAnyH_take (i := 8) (oi := _) (v := undef) rfl (by kernel_rfl) (by kernel_rfl) (by kernel_rfl) (fun _ _ _ h => h) (Or.inr ⟨by rfl, rfl⟩) hSA ?_
      simp only [Act.put, List.setIfInBounds_toArray, List.set_cons_zero, List.set_cons_succ, List.getElem_toArray, List.getElem_cons_zero, List.getElem_cons_succ]
      refine wpAnyH_take (i := 9) (oi := _) (v := undef) rfl (by kernel_rfl) (by kernel_rfl) (by kernel_rfl) (fun _ _ _ h => h) (Or.inr ⟨by rfl, rfl⟩) hSA ?_
      simp only [Act.put, List.setIfInBounds_toArray, List.set_cons_zero, List.set_cons_succ, List.getElem_toArray, List.getElem_cons_zero, List.getElem_cons_succ]
      refine wpAnyH_take (i := 10) (oi := _) (v := .bool false) rfl (by kernel_rfl) (by kernel_rfl) (by kernel_rfl) (fun _ _ _ h => h) (Or.inl ⟨by rfl, ?_⟩) hSA ?_
      skip
      · intro W hSW
        try go_simp
        all_goals first | with_reducible rfl | (simp; done) | trace_state
      simp only [Act.put, List.setIfInBounds_toArray, List.set_cons_zero, List.set_cons_succ, List.getElem_toArray, List.getElem_cons_zero, List.getElem_cons_succ]
      refine wpAnyH_take (i := 11) (oi := _) (v := .bool false) rfl (by kernel_rfl) (by kernel_rfl) (by kernel_rfl) (fun _ _ _ h => h) (Or.inl ⟨by rfl, ?_⟩) hSA ?_
      skip
      · intro W hSW
        try go_simp
        all_goals first | with_reducible rfl | (simp; done) | trace_state
      simp only [Act.put, List.setIfInBounds_toArray, List.set_cons_zero, List.set_cons_succ, List.getElem_toArray, List.getElem_cons_zero, List.getElem_cons_succ]
      refine wpAnyH_take (i := 12) (oi := _) (v := undef) rfl (by kernel_rfl) (by kernel_rfl) (by kernel_rfl) (fun _ _ _ h => h) (Or.inr ⟨by rfl, rfl⟩) hSA ?_
      simp only [Act.put, List.setIfInBounds_toArray, List.set_cons_zero, List.set_cons_succ, List.getElem_toArray, List.getElem_cons_zero, List.getElem_cons_succ]
      refine wpAnyH_take (i := 13) (oi := _) (v := undef) rfl (by kernel_rfl) (by kernel_rfl) (by kernel_rfl) (fun _ _ _ h => h) (Or.inr ⟨by rfl, rfl⟩) hSA ?_
      simp only [Act.put, List.setIfInBounds_toArray, List.set_cons_zero, List.set_cons_succ, List.getElem_toArray, List.getElem_cons_zero, List.getElem_cons_succ]
      refine wpAnyH_take (i := 14) (oi := _) (v := undef) rfl (by kernel_rfl) (by kernel_rfl) (by kernel_rfl) (fun _ _ _ h => h) (Or.inr ⟨by rfl, rfl⟩) hSA ?_
      simp only [Act.put, List.setIfInBounds_toArray, List.set_cons_zero, List.set_cons_succ, List.getElem_toArray, List.getElem_cons_zero, List.getElem_cons_succ]
      refine wpAnyH_take (i := 15) (oi := _) (v := undef) rfl (by kernel_rfl) (by kernel_rfl) (by kernel_rfl) (fun _ _ _ h => h) (Or.inr ⟨by rfl, rfl⟩) hSA ?_
      simp only [Act.put, List.setIfInBounds_toArray, List.set_cons_zero, List.set_cons_succ, List.getElem_toArray, List.getElem_cons_zero, List.getElem_cons_succ]
      refine wpAnyH_take (i := 16) (oi := _) (v := undef) rfl (by kernel_rfl) (by kernel_rfl) (by kernel_rfl) (fun _ _ _ h => h) (Or.inr ⟨by rfl, rfl⟩) hSA ?_
      simp only [Act.put, List.setIfInBounds_toArray, List.set_cons_zero, List.set_cons_succ, List.getElem_toArray, List.getElem_cons_zero, List.getElem_cons_succ]
      refine wpAnyH_take (i := 17) (oi := _) (v := ?_) rfl (by kernel_rfl) (by kernel_rfl) (by kernel_rfl) (fun _ _ _ h => h) (Or.inl ⟨by rfl, ?_⟩) hSA ?_
      rotate_left
      · intro W hSW
        try go_simp
        all_goals with_reducible rfl
      simp only [Act.put, List.setIfInBounds_toArray, List.set_cons_zero, List.set_cons_succ, List.getElem_toArray, List.getElem_cons_zero, List.getElem_cons_succ]
      refine wpAnyH_take (i := 18) (oi := _) (v := ?_) rfl (by kernel_rfl) (by kernel_rfl) (by kernel_rfl) (fun _ _ _ h => h) (Or.inl ⟨by rfl, ?_⟩) hSA ?_
      rotate_left
      · intro W hSW
        try go_simp
        all_goals with_reducible rfl
      simp only [Act.put, List.setIfInBounds_toArray, List.set_cons_zero, List.set_cons_succ, List.getElem_toArray, List.getElem_cons_zero, List.getElem_cons_succ]
      refine wpAnyH_done (by kernel_rfl) ?_ _
      have hfin := HB.out _ hqA
      go_wp2_with fail
      go_ret
      exact ⟨rfl, hfin⟩
    | true =>
      rw [Bool.true_and]
      cases b2 with
      | false =>
        rw [Bool.false_and]
        go_enter Tryz.func118, Tryz.ntmps118
        go_wp2_with fail
        try rw [hgg]
        try rw [hW0]
        clear hW0
        refine wp_region_held_drew (S := BelS W0.drew) (by kernel_rfl) (BelS.refl _) (fun hS0 => ?_)
        refine wpAnyH_take (i := 0) (oi := _) (v := ?_) rfl (by kernel_rfl) (by kernel_rfl) (by kernel_rfl) (fun _ _ _ h => h) (Or.inl ⟨by rfl, ?_⟩) hS0 ?_
        rotate_left
        · intro W hSW
          try go_simp
          all_goals with_reducible rfl
        simp only [Act.put, List.setIfInBounds_toArray, List.set_cons_zero, List.set_cons_succ, List.getElem_toArray, List.getElem_cons_zero, List.getElem_cons_succ]
        refine wpAnyH_take (i := 1) (oi := _) (v := ?_) rfl (by kernel_rfl) (by kernel_rfl) (by kernel_rfl) (fun _ _ _ h => h) (Or.inl ⟨by rfl, ?_⟩) hS0 ?_
        rotate_left
        · intro W hSW
          obtain ⟨c0, c1, c2, c3, c4, c5, c6, c7, c8, c9, c10, c11, c12⟩ := HC.out W (below_chain hbd hbd.size hSW)
          try go_simp
          all_goals with_reducible rfl
        simp only [Act.put, List.setIfInBounds_toArray, List.set_cons_zero, List.set_cons_succ, List.getElem_toArray, List.getElem_cons_zero, List.getElem_cons_succ]
        refine wpAnyH_ready (rs := [2]) (by kernel_rfl) (by simp) (AllReadyH.cons rfl (fun K hK => ?_) AllReadyH.nil)
        have DA := Lib.hid (HRT.out W0.drew (HB.out W0.drew hbd))
        go_simp
        go_wp2_with ((go_at_call 61; (with_reducible refine DA.out.mono ?_); rintro e wA ⟨rfl, hbA⟩))
        have hqA := below_chain hbd hbd.size hbA
        refine hK.out _ _ hbA (fun _ => ?_)
        clear hK K DA
        refine wpAnyH_stronger (S' := BelS wA) (fun W h => below_chain hbA hbA.size h) _ _ _ _ ?_
        have hSA : BelS wA wA := BelS.refl wA
        refine wpAnyH_take (i := 3) (oi := _) (v := .bool true) rfl (by kernel_rfl) (by kernel_rfl) (by kernel_rfl) (fun _ _ _ h => h) (Or.inl ⟨by rfl, ?_⟩) hSA ?_
        skip
        · intro W hSW
          try go_simp
          all_goals first | with_reducible rfl | (simp; done) | trace_state
        simp only [Act.put, List.setIfInBounds_toArray, List.set_cons_zero, List.set_cons_succ, List.getElem_toArray, List.getElem_cons_zero, List.getElem_cons_succ]
        refine wpAnyH_take (i := 4) (oi := _) (v := ?_) rfl (by kernel_rfl) (by kernel_rfl) (by kernel_rfl) (fun _ _ _ h => h) (Or.inl ⟨by rfl, ?_⟩) hSA ?_
        rotate_left
        · intro W hSW
          try go_simp
          all_goals with_reducible rfl
        simp only [Act.put, List.setIfInBounds_toArray, List.set_cons_zero, List.set_cons_succ, List.getElem_toArray, List.getElem_cons_zero, List.getElem_cons_succ]
        refine wpAnyH_take (i := 5) (oi := _) (v := ?_) rfl (by kernel_rfl) (by kernel_rfl) (by kernel_rfl) (fun _ _ _ h => h) (Or.inl ⟨by rfl, ?_⟩) hSA ?_
        rotate_left
        · intro W hSW
          obtain ⟨c0, c1, c2, c3, c4, c5, c6, c7, c8, c9, c10, c11, c12⟩ := HC.out W (below_chain hqA hqA.size hSW)
          try go_simp
          all_goals with_reducible rfl
        simp only [Act.put, List.setIfInBounds_toArray, List.set_cons_zero, List.set_cons_succ, List.getElem_toArray, List.getElem_cons_zero, List.getElem_cons_succ]
        refine wpAnyH_take (i := 7) (oi := _) (v := ?_) rfl (by kernel_rfl) (by kernel_rfl) (by kernel_rfl) (fun _ _ _ h => h) (Or.inl ⟨by rfl, ?_⟩) hSA ?_
        rotate_left
        · intro W hSW
          try go_simp
          all_goals with_reducible rfl
        simp only [Act.put, List.setIfInBounds_toArray, List.set_cons_zero, List.set_cons_succ, List.getElem_toArray, List.getElem_cons_zero, List.getElem_cons_succ]
        refine wpAnyH_take (i := 8) (oi := _) (v := ?_) rfl (by kernel_rfl) (by kernel_rfl) (by kernel_rfl) (fun _ _ _ h => h) (Or.inl ⟨by rfl, ?_⟩) hSA ?_
        rotate_left
        · intro W hSW
          obtain ⟨c0, c1, c2, c3, c4, c5, c6, c7, c8, c9, c10, c11, c12⟩ := HC.out W (below_chain hqA hqA.size hSW)
          try go_simp
          all_goals with_reducible rfl
        simp only [Act.put, List.setIfInBounds_toArray, List.set_cons_zero, List.set_cons_succ, List.getElem_toArray, List.getElem_cons_zero, List.getElem_cons_succ]
        refine wpAnyH_ready (rs := [6]) (by kernel_rfl) (by simp) (AllReadyH.cons rfl (fun K hK => ?_) AllReadyH.nil)
        have DB := Lib.hid (HHA.out wA (HB.out wA hqA))
        go_simp
        go_wp2_with ((go_at_call 18; (with_reducible refine DB.out.mono ?_); rintro e wB ⟨vB, rfl, hoB, hbB⟩))
        have hqB := below_chain hqA hqA.size hbB
        refine hK.out _ _ hbB (fun _ => ?_)
        clear hK K DB
        refine wpAnyH_stronger (S' := BelS wB) (fun W h => below_chain hbB hbB.size h) _ _ _ _ ?_
        have hSB : BelS wB wB := BelS.refl wB
        refine wpAnyH_ready (rs := [9]) (by kernel_rfl) (by simp) (AllReadyH.cons rfl (fun K hK => ?_) AllReadyH.nil)
        have DC := Lib.hid (HEQ.out wB _ _ (HB.out wB hqB) hoB)
        go_simp
        go_wp2_with ((go_at_call 67; (with_reducible refine DC.out.mono ?_); rintro e wC ⟨rfl, hbC0⟩))
        have hbC : Below wB.heap.size wB wC := by rw [← hbC0]; exact Below.refl _ _
        have hqC := below_chain hqB hqB.size hbC
        refine hK.out _ _ hbC (fun _ => ?_)
        clear hK K DC
        refine wpAnyH_stronger (S' := BelS wC) (fun W h => below_chain hbC hbC.size h) _ _ _ _ ?_
        have hSC : BelS wC wC := BelS.refl wC
        refine wpAnyH_take (i := 10) (oi := _) (v := .bool false) rfl (by kernel_rfl) (by kernel_rfl) (by kernel_rfl) (fun _ _ _ h => h) (Or.inl ⟨by rfl, ?_⟩) hSC ?_
        skip
        · intro W hSW
          try go_simp
          all_goals first | with_reducible rfl | (simp; done) | trace_state
        simp only [Act.put, List.setIfInBounds_toArray, List.set_cons_zero, List.set_cons_succ, List.getElem_toArray, List.getElem_cons_zero, List.getElem_cons_succ]
        refine wpAnyH_take (i := 11) (oi := _) (v := .bool false) rfl (by kernel_rfl) (by kernel_rfl) (by kernel_rfl) (fun _ _ _ h => h) (Or.inl ⟨by rfl, ?_⟩) hSC ?_
        skip
        · intro W hSW
          try go_simp
          all_goals first | with_reducible rfl | (simp; done) | trace_state
        simp only [Act.put, List.setIfInBounds_toArray, List.set_cons_zero, List.set_cons_succ, List.getElem_toArray, List.getElem_cons_zero, List.getElem_cons_succ]
        refine wpAnyH_take (i := 12) (oi := _) (v := undef) rfl (by kernel_rfl) (by kernel_rfl) (by kernel_rfl) (fun _ _ _ h => h) (Or.inr ⟨by rfl, rfl⟩) hSC ?_
        simp only [Act.put, List.setIfInBounds_toArray, List.set_cons_zero, List.set_cons_succ, List.getElem_toArray, List.getElem_cons_zero, List.getElem_cons_succ]
        refine wpAnyH_take (i := 13) (oi := _) (v := undef) rfl (by kernel_rfl) (by kernel_rfl) (by kernel_rfl) (fun _ _ _ h => h) (Or.inr ⟨by rfl, rfl⟩) hSC ?_
        simp only [Act.put, List.setIfInBounds_toArray, List.set_cons_zero, List.set_cons_succ, List.getElem_toArray, List.getElem_cons_zero, List.getElem_cons_succ]
        refine wpAnyH_take (i := 14) (oi := _) (v := undef) rfl (by kernel_rfl) (by kernel_rfl) (by kernel_rfl) (fun _ _ _ h => h) (Or.inr ⟨by rfl, rfl⟩) hSC ?_
        simp only [Act.put, List.setIfInBounds_toArray, List.set_cons_zero, List.set_cons_succ, List.getElem_toArray, List.getElem_cons_zero, List.getElem_cons_succ]
        refine wpAnyH_take (i := 15) (oi := _) (v := undef) rfl (by kernel_rfl) (by kernel_rfl) (by kernel_rfl) (fun _ _ _ h => h) (Or.inr ⟨by rfl, rfl⟩) hSC ?_
        simp only [Act.put, List.setIfInBounds_toArray, List.set_cons_zero, List.set_cons_succ, List.getElem_toArray, List.getElem_cons_zero, List.getElem_cons_succ]
        refine wpAnyH_take (i := 16) (oi := _) (v := undef) rfl (by kernel_rfl) (by kernel_rfl) (by kernel_rfl) (fun _ _ _ h => h) (Or.inr ⟨by rfl, rfl⟩) hSC ?_
        simp only [Act.put, List.setIfInBounds_toArray, List.set_cons_zero, List.set_cons_succ, List.getElem_toArray, List.getElem_cons_zero, List.getElem_cons_succ]
        refine wpAnyH_take (i := 17) (oi := _) (v := ?_) rfl (by kernel_rfl) (by kernel_rfl) (by kernel_rfl) (fun _ _ _ h => h) (Or.inl ⟨by rfl, ?_⟩) hSC ?_
        rotate_left
        · intro W hSW
          try go_simp
          all_goals with_reducible rfl
        simp only [Act.put, List.setIfInBounds_toArray, List.set_cons_zero, List.set_cons_succ, List.getElem_toArray, List.getElem_cons_zero, List.getElem_cons_succ]
        refine wpAnyH_take (i := 18) (oi := _) (v := ?_) rfl (by kernel_rfl) (by kernel_rfl) (by kernel_rfl) (fun _ _ _ h => h) (Or.inl ⟨by rfl, ?_⟩) hSC ?_
        rotate_left
        · intro W hSW
          try go_simp
          all_goals with_reducible rfl
        simp only [Act.put, List.setIfInBounds_toArray, List.set_cons_zero, List.set_cons_succ, List.getElem_toArray, List.getElem_cons_zero, List.getElem_cons_succ]
        refine wpAnyH_done (by kernel_rfl) ?_ _
        have hfin := HB.out _ hqC
        go_wp2_with fail
        go_ret
        exact ⟨rfl, hfin⟩
      | true =>
        rw [Bool.true_and]
        go_enter Tryz.func118, Tryz.ntmps118
        go_wp2_with fail
        try rw [hgg]
        try rw [hW0]
        clear hW0
        refine wp_region_held_drew (S := BelS W0.drew) (by kernel_rfl) (BelS.refl _) (fun hS0 => ?_)
        refine wpAnyH_take (i := 0) (oi := _) (v := ?_) rfl (by kernel_rfl) (by kernel_rfl) (by kernel_rfl) (fun _ _ _ h => h) (Or.inl ⟨by rfl, ?_⟩) hS0 ?_
        rotate_left
        · intro W hSW
          try go_simp
          all_goals with_reducible rfl
        simp only [Act.put, List.setIfInBounds_toArray, List.set_cons_zero, List.set_cons_succ, List.getElem_toArray, List.getElem_cons_zero, List.getElem_cons_succ]
        refine wpAnyH_take (i := 1) (oi := _) (v := ?_) rfl (by kernel_rfl) (by kernel_rfl) (by kernel_rfl) (fun _ _ _ h => h) (Or.inl ⟨by rfl, ?_⟩) hS0 ?_
        rotate_left
        · intro W hSW
          obtain ⟨c0, c1, c2, c3, c4, c5, c6, c7, c8, c9, c10, c11, c12⟩ := HC.out W (below_chain hbd hbd.size hSW)
          try go_simp
          all_goals with_reducible rfl
        simp only [Act.put, List.setIfInBounds_toArray, List.set_cons_zero, List.set_cons_succ, List.getElem_toArray, List.getElem_cons_zero, List.getElem_cons_succ]
        refine wpAnyH_ready (rs := [2]) (by kernel_rfl) (by simp) (AllReadyH.cons rfl (fun K hK => ?_) AllReadyH.nil)
        have DA := Lib.hid (HRT.out W0.drew (HB.out W0.drew hbd))
        go_simp
        go_wp2_with ((go_at_call 61; (with_reducible refine DA.out.mono ?_); rintro e wA ⟨rfl, hbA⟩))
        have hqA := below_chain hbd hbd.size hbA
        refine hK.out _ _ hbA (fun _ => ?_)
        clear hK K DA
        refine wpAnyH_stronger (S' := BelS wA) (fun W h => below_chain hbA hbA.size h) _ _ _ _ ?_
        have hSA : BelS wA wA := BelS.refl wA
        refine wpAnyH_take (i := 3) (oi := _) (v := .bool true) rfl (by kernel_rfl) (by kernel_rfl) (by kernel_rfl) (fun _ _ _ h => h) (Or.inl ⟨by rfl, ?_⟩) hSA ?_
        skip
        · intro W hSW
          try go_simp
          all_goals first | with_reducible rfl | (simp; done) | trace_state
        simp only [Act.put, List.setIfInBounds_toArray, List.set_cons_zero, List.set_cons_succ, List.getElem_toArray, List.getElem_cons_zero, List.getElem_cons_succ]
        refine wpAnyH_take (i := 4) (oi := _) (v := ?_) rfl (by kernel_rfl) (by kernel_rfl) (by kernel_rfl) (fun _ _ _ h => h) (Or.inl ⟨by rfl, ?_⟩) hSA ?_
        rotate_left
        · intro W hSW
          try go_simp
          all_goals with_reducible rfl
        simp only [Act.put, List.setIfInBounds_toArray, List.set_cons_zero, List.set_cons_succ, List.getElem_toArray, List.getElem_cons_zero, List.getElem_cons_succ]
        refine wpAnyH_take (i := 5) (oi := _) (v := ?_) rfl (by kernel_rfl) (by kernel_rfl) (by kernel_rfl) (fun _ _ _ h => h) (Or.inl ⟨by rfl, ?_⟩) hSA ?_
        rotate_left
        · intro W hSW
          obtain ⟨c0, c1, c2, c3, c4, c5, c6, c7, c8, c9, c10, c11, c12⟩ := HC.out W (below_chain hqA hqA.size hSW)
          try go_simp
          all_goals with_reducible rfl
        simp only [Act.put, List.setIfInBounds_toArray, List.set_cons_zero, List.set_cons_succ, List.getElem_toArray, List.getElem_cons_zero, List.getElem_cons_succ]
        refine wpAnyH_take (i := 7) (oi := _) (v := ?_) rfl (by kernel_rfl) (by kernel_rfl) (by kernel_rfl) (fun _ _ _ h => h) (Or.inl ⟨by rfl, ?_⟩) hSA ?_
        rotate_left
        · intro W hSW
          try go_simp
          all_goals with_reducible rfl
        simp only [Act.put, List.setIfInBounds_toArray, List.set_cons_zero, List.set_cons_succ, List.getElem_toArray, List.getElem_cons_zero, List.getElem_cons_succ]
        refine wpAnyH_take (i := 8) (oi := _) (v := ?_) rfl (by kernel_rfl) (by kernel_rfl) (by kernel_rfl) (fun _ _ _ h => h) (Or.inl ⟨by rfl, ?_⟩) hSA ?_
        rotate_left
        · intro W hSW
          obtain ⟨c0, c1, c2, c3, c4, c5, c6, c7, c8, c9, c10, c11, c12⟩ := HC.out W (below_chain hqA hqA.size hSW)
          try go_simp
          all_goals with_reducible rfl
        simp only [Act.put, List.setIfInBounds_toArray, List.set_cons_zero, List.set_cons_succ, List.getElem_toArray, List.getElem_cons_zero, List.getElem_cons_succ]
        refine wpAnyH_ready (rs := [6]) (by kernel_rfl) (by simp) (AllReadyH.cons rfl (fun K hK => ?_) AllReadyH.nil)
        have DB := Lib.hid (HHA.out wA (HB.out wA hqA))
        go_simp
        go_wp2_with ((go_at_call 18; (with_reducible refine DB.out.mono ?_); rintro e wB ⟨vB, rfl, hoB, hbB⟩))
        have hqB := below_chain hqA hqA.size hbB
        refine hK.out _ _ hbB (fun _ => ?_)
        clear hK K DB
        refine wpAnyH_stronger (S' := BelS wB) (fun W h => below_chain hbB hbB.size h) _ _ _ _ ?_
        have hSB : BelS wB wB := BelS.refl wB
        refine wpAnyH_ready (rs := [9]) (by kernel_rfl) (by simp) (AllReadyH.cons rfl (fun K hK => ?_) AllReadyH.nil)
        have DC := Lib.hid (HEQ.out wB _ _ (HB.out wB hqB) hoB)
        go_simp
        go_wp2_with ((go_at_call 67; (with_reducible refine DC.out.mono ?_); rintro e wC ⟨rfl, hbC0⟩))
        have hbC : Below wB.heap.size wB wC := by rw [← hbC0]; exact Below.refl _ _
        have hqC := below_chain hqB hqB.size hbC
        refine hK.out _ _ hbC (fun _ => ?_)
        clear hK K DC
        refine wpAnyH_stronger (S' := BelS wC) (fun W h => below_chain hbC hbC.size h) _ _ _ _ ?_
        have hSC : BelS wC wC := BelS.refl wC
        refine wpAnyH_take (i := 10) (oi := _) (v := .bool true) rfl (by kernel_rfl) (by kernel_rfl) (by kernel_rfl) (fun _ _ _ h => h) (Or.inl ⟨by rfl, ?_⟩) hSC ?_
        skip
        · intro W hSW
          try go_simp
          all_goals first | with_reducible rfl | (simp; done) | trace_state
        simp only [Act.put, List.setIfInBounds_toArray, List.set_cons_zero, List.set_cons_succ, List.getElem_toArray, List.getElem_cons_zero, List.getElem_cons_succ]
        refine wpAnyH_take (i := 11) (oi := _) (v := .bool true) rfl (by kernel_rfl) (by kernel_rfl) (by kernel_rfl) (fun _ _ _ h => h) (Or.inl ⟨by rfl, ?_⟩) hSC ?_
        skip
        · intro W hSW
          try go_simp
          all_goals first | with_reducible rfl | (simp; done) | trace_state
        simp only [Act.put, List.setIfInBounds_toArray, List.set_cons_zero, List.set_cons_succ, List.getElem_toArray, List.getElem_cons_zero, List.getElem_cons_succ]
        refine wpAnyH_take (i := 12) (oi := _) (v := ?_) rfl (by kernel_rfl) (by kernel_rfl) (by kernel_rfl) (fun _ _ _ h => h) (Or.inl ⟨by rfl, ?_⟩) hSC ?_
        rotate_left
        · intro W hSW
          try go_simp
          all_goals with_reducible rfl
        simp only [Act.put, List.setIfInBounds_toArray, List.set_cons_zero, List.set_cons_succ, List.getElem_toArray, List.getElem_cons_zero, List.getElem_cons_succ]
        refine wpAnyH_take (i := 13) (oi := _) (v := ?_) rfl (by kernel_rfl) (by kernel_rfl) (by kernel_rfl) (fun _ _ _ h => h) (Or.inl ⟨by rfl, ?_⟩) hSC ?_
        rotate_left
        · intro W hSW
          obtain ⟨c0, c1, c2, c3, c4, c5, c6, c7, c8, c9, c10, c11, c12⟩ := HC.out W (below_chain hqC hqC.size hSW)
          try go_simp
          all_goals with_reducible rfl
        simp only [Act.put, List.setIfInBounds_toArray, List.set_cons_zero, List.set_cons_succ, List.getElem_toArray, List.getElem_cons_zero, List.getElem_cons_succ]
        refine wpAnyH_take (i := 14) (oi := _) (v := ?_) rfl (by kernel_rfl) (by kernel_rfl) (by kernel_rfl) (fun _ _ _ h => h) (Or.inl ⟨by rfl, ?_⟩) hSC ?_
        rotate_left
        · intro W hSW
          try go_simp
          all_goals with_reducible rfl
        simp only [Act.put, List.setIfInBounds_toArray, List.set_cons_zero, List.set_cons_succ, List.getElem_toArray, List.getElem_cons_zero, List.getElem_cons_succ]
        refine wpAnyH_take (i := 15) (oi := _) (v := ?_) rfl (by kernel_rfl) (by kernel_rfl) (by kernel_rfl) (fun _ _ _ h => h) (Or.inl ⟨by rfl, ?_⟩) hSC ?_
        rotate_left
        · intro W hSW
          obtain ⟨c0, c1, c2, c3, c4, c5, c6, c7, c8, c9, c10, c11, c12⟩ := HC.out W (below_chain hqC hqC.size hSW)
          try go_simp
          all_goals with_reducible rfl
        simp only [Act.put, List.setIfInBounds_toArray, List.set_cons_zero, List.set_cons_succ, List.getElem_toArray, List.getElem_cons_zero, List.getElem_cons_succ]
        refine wpAnyH_ready (rs := [16]) (by kernel_rfl) (by simp) (AllReadyH.cons rfl (fun K hK => ?_) AllReadyH.nil)
        have DD := Lib.hid (HTH.out wC (HB.out wC hqC))
        go_simp
        go_wp2_with ((go_at_call 20; (with_reducible refine DD.out.mono ?_); rintro e wD ⟨rfl, hbD⟩))
        have hqD := below_chain hqC hqC.size hbD
        refine hK.out _ _ hbD (fun _ => ?_)
        clear hK K DD
        refine wpAnyH_stronger (S' := BelS wD) (fun W h => below_chain hbD hbD.size h) _ _ _ _ ?_
        have hSD : BelS wD wD := BelS.refl wD
        refine wpAnyH_take (i := 17) (oi := _) (v := ?_) rfl (by kernel_rfl) (by kernel_rfl) (by kernel_rfl) (fun _ _ _ h => h) (Or.inl ⟨by rfl, ?_⟩) hSD ?_
        rotate_left
        · intro W hSW
          try go_simp
          all_goals with_reducible rfl
        simp only [Act.put, List.setIfInBounds_toArray, List.set_cons_zero, List.set_cons_succ, List.getElem_toArray, List.getElem_cons_zero, List.getElem_cons_succ]
        refine wpAnyH_take (i := 18) (oi := _) (v := ?_) rfl (by kernel_rfl) (by kernel_rfl) (by kernel_rfl) (fun _ _ _ h => h) (Or.inl ⟨by rfl, ?_⟩) hSD ?_
        rotate_left
        · intro W hSW
          try go_simp
          all_goals with_reducible rfl
        simp only [Act.put, List.setIfInBounds_toArray, List.set_cons_zero, List.set_cons_succ, List.getElem_toArray, List.getElem_cons_zero, List.getElem_cons_succ]
        refine wpAnyH_done (by kernel_rfl) ?_ _
        have hfin := HB.out _ hqD
        go_wp2_with fail
        go_ret
        exact ⟨rfl, hfin⟩
set_option maxHeartbeats 32000000 in
theorem clwrong_any {W w : World} {y : Lyr} {l : List Lyr} {R : List Pr} {k : Nat} (h : At W y l R k w) (id : ByteArray) (hid : id.size ≤ 100000000) (c : ClV) (u : NwW) (hu : u.rd w) (now : Nat) (h_now : now < 18446744073709551616)
    (fr : TypeId × Nat × Nat) (hk : w.heap[0]? = some (.cells kVals fr.1 fr.2)) :
    Calls Tryz.prog 72 #[.pointer (some ⟨y.b, 0, none⟩), .string id, c.val, u.val, .int .u64 (now : Int)] w fun e w' => e = .returned (.int .i64 (wrongE R id c u now)) ∧ Below w.heap.size w w' := by
  have HTR := Lib.hid (fun (Z : World) (hz : Below w.heap.size w Z) => csget_any (h.up hz) id u.ua hu.ua hid)
  have HRT : Hid (∀ Z, Below w.heap.size w Z → Calls Tryz.prog 61 #[u.vs] Z fun e w' => e = .returned (.bool (rightB u.s)) ∧ Below Z.heap.size Z w') := Lib.hid fun Z hz => vlright_any u.vs u.s Z (hu.s.up (Nat.le_refl _) hz)
  have HHA : Hid (∀ Z, Below w.heap.size w Z → Calls Tryz.prog 18 #[u.vs] Z fun e w' => ∃ v', e = .returned v' ∧ Own w' Z.heap.size v' (vhash u.s) ∧ Below Z.heap.size Z w') := Lib.hid fun Z hz => hashV_any u.vs u.s Z (hu.s.up (Nat.le_refl _) hz) hu.ls fr ((hz.block _ (blk_lt hk)).trans hk)
  have HEQ : Hid (∀ Z v' B, Below w.heap.size w Z → Own Z B v' (vhash u.s) → Calls Tryz.prog 67 #[v', u.h.vv] Z fun e w' => e = .returned (.bool (sameB (vhash u.s) u.h.va)) ∧ Z = w') := Lib.hid fun Z v' B hz ho => equal_any _ _ _ _ Z ho.rd (hu.h.v.up (Nat.le_refl _) hz)
  have HLK : Hid (∀ (Z : World) (hz : Below w.heap.size w Z) (tt : Nat) (vp vq : Value) (xp xq : List UInt8) (hp : Rd Z Z.heap.size vp xp) (hq : Rd Z Z.heap.size vq xq), Calls Tryz.prog 118 #[.agg #[.int .u64 (tt : Int), vp, vq], u.val] Z fun e w' => e = .returned (.bool (linkedB xq u.h.va u.h.ht u.ua u.t u.o)) ∧ Below Z.heap.size Z w') := Lib.hid fun Z hz tt vp vq xp xq hp hq => linked_any u Z (hu.keptM (Kept.of_belowX hz)) tt vp vq xp xq hp hq fr ((hz.block _ (blk_lt hk)).trans hk)
  have HQU : Hid (∀ Z, Below w.heap.size w Z → Calls Tryz.prog 19 #[u.vs, u.vo] Z fun e w' => e = .returned (.bool (quorumB u.s (keysOf u.o))) ∧ Below Z.heap.size Z w') := Lib.hid fun Z hz => quorum_any u.vs u.vo u.s u.o Z (hu.s.up (Nat.le_refl _) hz) (hu.o.up (Nat.le_refl _) hz)
  have HOV := Lib.hid (fun (t : Nat) (Z : World) => over_any t c.pe now Z h_now)
  have HAH := Lib.hid (fun (Z : World) => ahead_any u.h.tm now Z hu.h.tm)
  obtain ⟨E, hE⟩ : ∃ E, E = wrongE R id c u now := ⟨_, rfl⟩
  rw [← hE]
  have HE := Lib.hid hE
  clear hE
  unfold wrongE at HE
  unfold NwW.val ClV.val at *
  obtain ⟨⟨ch, ht, tm, vr, vv, vn, rt, va, nx⟩, vs, s, vt, t, vo, o, ua⟩ := u
  obtain ⟨⟨hr0, hv0, hn0, h_ht, h_tm⟩, hs0, ht0, ho0, h_ua, h_ls, h_lt⟩ := hu
  dsimp only at hr0 hv0 hn0 h_ht h_tm hs0 ht0 ho0 h_ua h_ls h_lt
  obtain ⟨kc, kl, kp, kf⟩ := c
  dsimp only at HTR HRT HHA HEQ HLK HQU HOV HAH HE ⊢
  obtain ⟨Ar, cr, rfl⟩ := hr0.form
  obtain ⟨Av, cv, rfl⟩ := hv0.form
  obtain ⟨An, cn, rfl⟩ := hn0.form
  obtain ⟨As, cs, rfl⟩ := hs0.form
  obtain ⟨At_, ct, rfl⟩ := ht0.form
  obtain ⟨Ao, co, rfl⟩ := ho0.form
  have HFO := Lib.hid (fun (Z : World) => formed_any ch ht tm Ar Av An rt.length cr va.length cv nx.length cn Z)
  have HLB := Lib.hid (show ∀ nx', linkedB nx' va ht ua t o = linkedB nx' va ht ua t o from fun _ => rfl)
  obtain ⟨LB, hLB⟩ : ∃ f : List UInt8 → Bool, f = fun nx' => linkedB nx' va ht ua t o := ⟨_, rfl⟩
  have e0 : ∀ nx', linkedB nx' va ht ua t o = LB nx' := fun nx' => by rw [hLB]
  simp only [e0] at HLK HE
  obtain ⟨B, hB⟩ : ∃ B : Addr, B = ⟨y.b, 0, none⟩ := ⟨_, rfl⟩
  rw [← hB] at HTR ⊢
  clear e0 hLB HLB hr0 hv0 hn0 hs0 ht0 ho0 hk h h_ls h_lt hid hB
  generalize (decide (rt.length = 32) && (decide (va.length = 32) && decide (nx.length = 32))) = b5 at *
  generalize quorumB s (keysOf o) = b8 at *
  generalize sameB (vhash s) va = b62 at *
  generalize vhash s = VH at *
  generalize rightB s = b61 at *
  generalize rt.length = nr at *
  generalize va.length = nv at *
  generalize nx.length = nn at *
  generalize s.length = ns at *
  generalize t.length = nt at *
  generalize o.length = no at *
  have m0 := heap_alloc_new (w) (.cells #[.string kc, .int .u64 (kl : Int), .int .u64 (kp : Int), .bool kf] 50)
  have ha0 := (Below.refl w.heap.size w).alloc (Nat.le_refl _) (.cells #[.string kc, .int .u64 (kl : Int), .int .u64 (kp : Int), .bool kf] 50)
  have m1 := heap_alloc_new ((w).alloc (.cells #[.string kc, .int .u64 (kl : Int), .int .u64 (kp : Int), .bool kf] 50)) (.cells #[.string ch, .int .u64 (ht : Int), .int .u64 (tm : Int), .slice Ar nr cr, .slice Av nv cv, .slice An nn cn, .slice As ns cs, .slice At_ nt ct, .slice Ao no co, .int .u64 (ua : Int)] 68)
  replace m0 := (Below.heap_alloc ((w).alloc (.cells #[.string kc, .int .u64 (kl : Int), .int .u64 (kp : Int), .bool kf] 50)) (.cells #[.string ch, .int .u64 (ht : Int), .int .u64 (tm : Int), .slice Ar nr cr, .slice Av nv cv, .slice An nn cn, .slice As ns cs, .slice At_ nt ct, .slice Ao no co, .int .u64 (ua : Int)] 68) _ (blk_lt m0)).trans m0
  rw [show ((w).alloc (.cells #[.string kc, .int .u64 (kl : Int), .int .u64 (kp : Int), .bool kf] 50)).heap.size = w.heap.size + 1 by simp] at m1
  have ha1 := ha0.alloc ha0.size (.cells #[.string ch, .int .u64 (ht : Int), .int .u64 (tm : Int), .slice Ar nr cr, .slice Av nv cv, .slice An nn cn, .slice As ns cs, .slice At_ nt ct, .slice Ao no co, .int .u64 (ua : Int)] 68)
  generalize hW0 : ((w).alloc (.cells #[.string kc, .int .u64 (kl : Int), .int .u64 (kp : Int), .bool kf] 50)).alloc (.cells #[.string ch, .int .u64 (ht : Int), .int .u64 (tm : Int), .slice Ar nr cr, .slice Av nv cv, .slice An nn cn, .slice As ns cs, .slice At_ nt ct, .slice Ao no co, .int .u64 (ua : Int)] 68) = W0 at *
  generalize hgg : w.heap.size = g0 at *
  have hl0 := blk_lt m0
  have hl1 := blk_lt m1
  have HC : Hid (∀ Z, Below W0.heap.size W0 Z → Z.cell? ⟨g0, 0, none⟩ = some (.string kc) ∧ Z.cell? ⟨g0, 1, none⟩ = some (.int .u64 (kl : Int)) ∧ Z.cell? ⟨g0, 2, none⟩ = some (.int .u64 (kp : Int)) ∧ Z.cell? ⟨g0, 3, none⟩ = some (.bool kf) ∧ Z.cell? ⟨g0 + 1, 0, none⟩ = some (.string ch) ∧ Z.cell? ⟨g0 + 1, 1, none⟩ = some (.int .u64 (ht : Int)) ∧ Z.cell? ⟨g0 + 1, 2, none⟩ = some (.int .u64 (tm : Int)) ∧ Z.cell? ⟨g0 + 1, 3, none⟩ = some (.slice Ar nr cr) ∧ Z.cell? ⟨g0 + 1, 4, none⟩ = some (.slice Av nv cv) ∧ Z.cell? ⟨g0 + 1, 5, none⟩ = some (.slice An nn cn) ∧ Z.cell? ⟨g0 + 1, 6, none⟩ = some (.slice As ns cs) ∧ Z.cell? ⟨g0 + 1, 7, none⟩ = some (.slice At_ nt ct) ∧ Z.cell? ⟨g0 + 1, 8, none⟩ = some (.slice Ao no co) ∧ Z.cell? ⟨g0 + 1, 9, none⟩ = some (.int .u64 (ua : Int))) := Lib.hid fun Z hz => ⟨blk_cell ((hz.block _ hl0).trans m0) 0, blk_cell ((hz.block _ hl0).trans m0) 1, blk_cell ((hz.block _ hl0).trans m0) 2, blk_cell ((hz.block _ hl0).trans m0) 3, blk_cell ((hz.block _ hl1).trans m1) 0, blk_cell ((hz.block _ hl1).trans m1) 1, blk_cell ((hz.block _ hl1).trans m1) 2, blk_cell ((hz.block _ hl1).trans m1) 3, blk_cell ((hz.block _ hl1).trans m1) 4, blk_cell ((hz.block _ hl1).trans m1) 5, blk_cell ((hz.block _ hl1).trans m1) 6, blk_cell ((hz.block _ hl1).trans m1) 7, blk_cell ((hz.block _ hl1).trans m1) 8, blk_cell ((hz.block _ hl1).trans m1) 9⟩
  have HA : Hid (Below g0 w W0 ∧ g0 ≤ W0.heap.size) := Lib.hid ⟨ha1, by rw [← hgg]; exact ha1.size⟩
  have HB : Hid (∀ Z, Below W0.heap.size W0 Z → Below g0 w Z) := Lib.hid fun Z hz => HA.out.1.trans (hz.mono HA.out.2)
  clear m0 m1 ha0 ha1 hl0 hl1
  go_enter Tryz.func72, Tryz.ntmps72
  obtain ⟨c0, c1, c2, c3, c4, c5, c6, c7, c8, c9, c10, c11, c12, c13⟩ := HC.out W0 (Below.refl _ _)
  go_wp2_with fail
  try rw [hgg]
  try rw [hW0]
  clear hW0
  refine (HTR.out _ HA.out.1).mono ?_
  rintro e w1 ⟨⟨v, vr6, vn6, hcs, rfl, ho1, ho2⟩ | ⟨hcs, rfl⟩, hb1⟩
  rotate_left
  · have hfin := HB.out _ (hb1.alloc hb1.size (.cells #[.int .u64 0, .slice none 0 0, .slice none 0 0] 59))
    have he : E = 101 := by
      rw [HE.out]
      rw [hcs]
    clear c0 c1 c2 c3 c4 c5 c6 c7 c8 c9 c10 c11 c12 c13
    clear HE hcs
    subst he
    go_wp2_with fail
    go_ret
    exact ⟨rfl, hfin⟩
  obtain ⟨tt, xp, xq⟩ := v
  have HE1 : Hid (E = wrongB (overB tt kp now) (ch.toList != kc.toList) (decide (ht ≤ ua)) (decide (tm ≤ tt) || aheadB tm now) b5 (b61 && b62) (LB xq) b8) := Lib.hid (by
    rw [HE.out]
    rw [hcs])
  clear HE
  have HE := HE1
  clear HE1
  clear hcs HTR
  dsimp only at ho1 ho2 ⊢
  have hr1 := ho1.rd
  have hn1 := ho2.rd
  obtain ⟨Ap, cp, rfl⟩ := hr1.form
  obtain ⟨Aq, cq, rfl⟩ := hn1.form
  have m2 := heap_alloc_new w1 (.cells #[.int .u64 (tt : Int), .slice Ap xp.length cp, .slice Aq xq.length cq] 59)
  have ha2 := hb1.alloc hb1.size (.cells #[.int .u64 (tt : Int), .slice Ap xp.length cp, .slice Aq xq.length cq] 59)
  have hra := (Below.refl w1.heap.size w1).alloc (Nat.le_refl _) (.cells #[.int .u64 (tt : Int), .slice Ap xp.length cp, .slice Aq xq.length cq] 59)
  have hr2 := hr1.up (Nat.le_refl _) hra
  have hn2 := hn1.up (Nat.le_refl _) hra
  clear c0 c1 c2 c3 c4 c5 c6 c7 c8 c9 c10 c11 c12 c13
  have HOV1 := Lib.hid (HOV.out tt)
  clear HOV ho1 ho2 hr1 hn1 hra
  generalize hW1 : w1.alloc (.cells #[.int .u64 (tt : Int), .slice Ap xp.length cp, .slice Aq xq.length cq] 59) = W1 at *
  generalize hg1 : w1.heap.size = g1 at *
  have HCC : Hid (∀ Z, Below W1.heap.size W1 Z → Z.cell? ⟨g1, 0, none⟩ = some (.int .u64 (tt : Int)) ∧ Z.cell? ⟨g1, 1, none⟩ = some (.slice Ap xp.length cp) ∧ Z.cell? ⟨g1, 2, none⟩ = some (.slice Aq xq.length cq)) := Lib.hid fun Z hz => ⟨blk_cell ((hz.block _ (blk_lt m2)).trans m2) 0, blk_cell ((hz.block _ (blk_lt m2)).trans m2) 1, blk_cell ((hz.block _ (blk_lt m2)).trans m2) 2⟩
  have HRD : Hid (∀ Z, Below W1.heap.size W1 Z → Rd Z Z.heap.size (.slice Ap xp.length cp) xp ∧ Rd Z Z.heap.size (.slice Aq xq.length cq) xq) := Lib.hid fun Z hz => ⟨hr2.up (Nat.le_refl _) hz, hn2.up (Nat.le_refl _) hz⟩
  have HA1 : Hid (Below W0.heap.size W0 W1) := Lib.hid ha2
  have hu1 : ∀ Z, Below W1.heap.size W1 Z → Below W0.heap.size W0 Z := fun Z hz => HA1.out.trans (hz.mono HA1.out.size)
  have HU1 := Lib.hid hu1
  clear hu1 hb1 ha2 hr2 hn2 m2
  obtain ⟨c0, c1, c2, c3, c4, c5, c6, c7, c8, c9, c10, c11, c12, c13⟩ := HC.out W1 HA1.out
  obtain ⟨d0, d1, d2⟩ := HCC.out W1 (Below.refl _ _)
  obtain ⟨b1, hb1⟩ : ∃ b, b = overB tt kp now := ⟨_, rfl⟩
  rw [← hb1] at HOV1 HE
  clear hb1
  go_wp2_with fail
  try rw [hg1]
  try rw [hW1]
  clear hW1 hg1
  refine (HOV1.out _).mono ?_
  rintro e w2 ⟨rfl, rfl⟩
  cases b1 with
  | true =>
    clear HRT HHA HEQ HLK HQU HAH HFO
    have hfin := HB.out _ HA1.out
    go_wp2_with fail
    go_ret
    exact ⟨by rw [HE.out]; rfl, hfin⟩
  | false =>
  -- the header's box
  have m3 := heap_alloc_new W1 (.cells #[.string ch, .int .u64 (ht : Int), .int .u64 (tm : Int), .slice Ar nr cr, .slice Av nv cv, .slice An nn cn] 34)
  have ha3 := (Below.refl W1.heap.size W1).alloc (Nat.le_refl _) (.cells #[.string ch, .int .u64 (ht : Int), .int .u64 (tm : Int), .slice Ar nr cr, .slice Av nv cv, .slice An nn cn] 34)
  generalize hW2 : W1.alloc (.cells #[.string ch, .int .u64 (ht : Int), .int .u64 (tm : Int), .slice Ar nr cr, .slice Av nv cv, .slice An nn cn] 34) = W2 at *
  have hl3 := blk_lt m3
  generalize hg2 : W1.heap.size = g2 at *
  have HCH : Hid (∀ Z, Below W2.heap.size W2 Z → Z.cell? ⟨g2, 0, none⟩ = some (.string ch) ∧ Z.cell? ⟨g2, 1, none⟩ = some (.int .u64 (ht : Int)) ∧ Z.cell? ⟨g2, 2, none⟩ = some (.int .u64 (tm : Int)) ∧ Z.cell? ⟨g2, 3, none⟩ = some (.slice Ar nr cr) ∧ Z.cell? ⟨g2, 4, none⟩ = some (.slice Av nv cv) ∧ Z.cell? ⟨g2, 5, none⟩ = some (.slice An nn cn)) := Lib.hid fun Z hz => ⟨blk_cell ((hz.block _ hl3).trans m3) 0, blk_cell ((hz.block _ hl3).trans m3) 1, blk_cell ((hz.block _ hl3).trans m3) 2, blk_cell ((hz.block _ hl3).trans m3) 3, blk_cell ((hz.block _ hl3).trans m3) 4, blk_cell ((hz.block _ hl3).trans m3) 5⟩
  have HA2 : Hid (Below g2 W1 W2 ∧ g2 ≤ W2.heap.size) := Lib.hid ⟨ha3, by rw [← hg2]; exact ha3.size⟩
  have HU2 : Hid (∀ Z, Below W2.heap.size W2 Z → Below g2 W1 Z) := Lib.hid fun Z hz => HA2.out.1.trans (hz.mono HA2.out.2)
  clear m3 ha3 hl3
  have HX : Hid (∀ Z, Below W2.heap.size W2 Z → (Z.cell? ⟨g0, 0, none⟩ = some (.string kc) ∧ Z.cell? ⟨g0, 1, none⟩ = some (.int .u64 (kl : Int)) ∧ Z.cell? ⟨g0, 2, none⟩ = some (.int .u64 (kp : Int)) ∧ Z.cell? ⟨g0, 3, none⟩ = some (.bool kf) ∧ Z.cell? ⟨g0 + 1, 0, none⟩ = some (.string ch) ∧ Z.cell? ⟨g0 + 1, 1, none⟩ = some (.int .u64 (ht : Int)) ∧ Z.cell? ⟨g0 + 1, 2, none⟩ = some (.int .u64 (tm : Int)) ∧ Z.cell? ⟨g0 + 1, 3, none⟩ = some (.slice Ar nr cr) ∧ Z.cell? ⟨g0 + 1, 4, none⟩ = some (.slice Av nv cv) ∧ Z.cell? ⟨g0 + 1, 5, none⟩ = some (.slice An nn cn) ∧ Z.cell? ⟨g0 + 1, 6, none⟩ = some (.slice As ns cs) ∧ Z.cell? ⟨g0 + 1, 7, none⟩ = some (.slice At_ nt ct) ∧ Z.cell? ⟨g0 + 1, 8, none⟩ = some (.slice Ao no co) ∧ Z.cell? ⟨g0 + 1, 9, none⟩ = some (.int .u64 (ua : Int))) ∧ (Z.cell? ⟨g1, 0, none⟩ = some (.int .u64 (tt : Int)) ∧ Z.cell? ⟨g1, 1, none⟩ = some (.slice Ap xp.length cp) ∧ Z.cell? ⟨g1, 2, none⟩ = some (.slice Aq xq.length cq)) ∧ (Z.cell? ⟨g2, 0, none⟩ = some (.string ch) ∧ Z.cell? ⟨g2, 1, none⟩ = some (.int .u64 (ht : Int)) ∧ Z.cell? ⟨g2, 2, none⟩ = some (.int .u64 (tm : Int)) ∧ Z.cell? ⟨g2, 3, none⟩ = some (.slice Ar nr cr) ∧ Z.cell? ⟨g2, 4, none⟩ = some (.slice Av nv cv) ∧ Z.cell? ⟨g2, 5, none⟩ = some (.slice An nn cn))) := Lib.hid fun Z hz => ⟨HC.out Z (HU1.out Z (HU2.out Z hz)), HCC.out Z (HU2.out Z hz), HCH.out Z hz⟩
  have HY : Hid (∀ Z, Below W2.heap.size W2 Z → Below g0 w Z) := Lib.hid fun Z hz => HB.out Z (HU1.out Z (HU2.out Z hz))
  obtain ⟨b2, hb2⟩ : ∃ b, b = (ch.toList != kc.toList) := ⟨_, rfl⟩
  rw [← hb2] at HE
  have t2 : (ch.toList == kc.toList) = !b2 := by rw [hb2]; simp only [bne, Bool.not_not]
  replace hb2 : (ch.toList != kc.toList) = b2 := hb2.symm
  obtain ⟨⟨p0, p1, p2, p3, p4, p5, p6, p7, p8, p9, p10, p11, p12, p13⟩, ⟨q0, q1, q2⟩, ⟨e0, e1, e2, e3, e4, e5⟩⟩ := HX.out W2 (Below.refl _ _)
  cases b2 with
  | true =>
    simp only [Bool.not_true] at t2
    go_wp2_with fail
    try rw [hg2]
    try rw [hW2]
    go_ret
    exact ⟨by rw [HE.out]; rfl, HY.out _ (Below.refl _ _)⟩
  | false =>
  simp only [Bool.not_false] at t2
  by_cases h3 : ht ≤ ua
  · have he : E = 104 := by rw [HE.out, decide_eq_true h3]; rfl
    clear HE
    subst he
    have i3 : (ht : Int) ≤ (ua : Int) := by omega
    go_wp2_with fail
    try rw [hg2]
    try rw [hW2]
    go_ret
    exact ⟨rfl, HY.out _ (Below.refl _ _)⟩
  rw [decide_eq_false h3] at HE
  have i3 : ¬ (ht : Int) ≤ (ua : Int) := by omega
  by_cases h4 : tm ≤ tt
  · have he : E = 105 := by rw [HE.out, decide_eq_true h4, Bool.true_or]; rfl
    clear HE
    subst he
    have i4 : (tm : Int) ≤ (tt : Int) := by omega
    go_wp2_with fail
    try rw [hg2]
    try rw [hW2]
    go_ret
    exact ⟨rfl, HY.out _ (Below.refl _ _)⟩
  rw [decide_eq_false h4, Bool.false_or] at HE
  have i4 : ¬ (tm : Int) ≤ (tt : Int) := by omega
  go_wp2_with fail
  try rw [hg2]
  try rw [hW2]
  clear hW2 hg2
  refine (HAH.out _).mono ?_
  rintro e w3 ⟨rfl, rfl⟩
  generalize aheadB tm now = b4 at *
  cases b4 with
  | true =>
    go_wp2_with fail
    go_ret
    exact ⟨by rw [HE.out]; rfl, HY.out _ (Below.refl _ _)⟩
  | false =>
  clear HAH HOV1 h3 h4 i3 i4 t2 hb2 c0 c1 c2 c3 c4 c5 c6 c7 c8 c9 c10 c11 c12 c13 d0 d1 d2
  go_wp2_with fail
  refine (HFO.out _).mono ?_
  rintro e w4 ⟨rfl, hb4⟩
  cases b5 with
  | false =>
    have hfin := HY.out _ hb4
    clear p0 p1 p2 p3 p4 p5 p6 p7 p8 p9 p10 p11 p12 p13 q0 q1 q2 e0 e1 e2 e3 e4 e5
    go_wp2_with fail
    go_ret
    exact ⟨by rw [HE.out]; rfl, hfin⟩
  | true =>
  clear p0 p1 p2 p3 p4 p5 p6 p7 p8 p9 p10 p11 p12 p13 q0 q1 q2 e0 e1 e2 e3 e4 e5 HFO
  have hbd : Below w4.heap.size w4 w4.drew := (Below.refl _ _).drew
  have HX4 : Hid (∀ Z, Below w4.heap.size w4 Z → (Z.cell? ⟨g0, 0, none⟩ = some (.string kc) ∧ Z.cell? ⟨g0, 1, none⟩ = some (.int .u64 (kl : Int)) ∧ Z.cell? ⟨g0, 2, none⟩ = some (.int .u64 (kp : Int)) ∧ Z.cell? ⟨g0, 3, none⟩ = some (.bool kf) ∧ Z.cell? ⟨g0 + 1, 0, none⟩ = some (.string ch) ∧ Z.cell? ⟨g0 + 1, 1, none⟩ = some (.int .u64 (ht : Int)) ∧ Z.cell? ⟨g0 + 1, 2, none⟩ = some (.int .u64 (tm : Int)) ∧ Z.cell? ⟨g0 + 1, 3, none⟩ = some (.slice Ar nr cr) ∧ Z.cell? ⟨g0 + 1, 4, none⟩ = some (.slice Av nv cv) ∧ Z.cell? ⟨g0 + 1, 5, none⟩ = some (.slice An nn cn) ∧ Z.cell? ⟨g0 + 1, 6, none⟩ = some (.slice As ns cs) ∧ Z.cell? ⟨g0 + 1, 7, none⟩ = some (.slice At_ nt ct) ∧ Z.cell? ⟨g0 + 1, 8, none⟩ = some (.slice Ao no co) ∧ Z.cell? ⟨g0 + 1, 9, none⟩ = some (.int .u64 (ua : Int))) ∧ (Z.cell? ⟨g1, 0, none⟩ = some (.int .u64 (tt : Int)) ∧ Z.cell? ⟨g1, 1, none⟩ = some (.slice Ap xp.length cp) ∧ Z.cell? ⟨g1, 2, none⟩ = some (.slice Aq xq.length cq)) ∧ (Z.cell? ⟨g2, 0, none⟩ = some (.string ch) ∧ Z.cell? ⟨g2, 1, none⟩ = some (.int .u64 (ht : Int)) ∧ Z.cell? ⟨g2, 2, none⟩ = some (.int .u64 (tm : Int)) ∧ Z.cell? ⟨g2, 3, none⟩ = some (.slice Ar nr cr) ∧ Z.cell? ⟨g2, 4, none⟩ = some (.slice Av nv cv) ∧ Z.cell? ⟨g2, 5, none⟩ = some (.slice An nn cn))) := Lib.hid fun Z hz => HX.out Z (hb4.trans (hz.mono hb4.size))
  have HY4 : Hid (∀ Z, Below w4.heap.size w4 Z → Below g0 w Z) := Lib.hid fun Z hz => HY.out Z (hb4.trans (hz.mono hb4.size))
  have HR4 : Hid (∀ Z, Below w4.heap.size w4 Z → Rd Z Z.heap.size (.slice Ap xp.length cp) xp ∧ Rd Z Z.heap.size (.slice Aq xq.length cq) xq) := Lib.hid fun Z hz => HRD.out Z (HU2.out Z (hb4.trans (hz.mono hb4.size)))
  clear hb4 HX HY HRD HC HCC HCH HU1 HU2 HA1 HA2 HB HA
  cases b61 with
  | false =>
    rw [Bool.false_and] at HE
    go_wp2_with fail
    refine wp_region_held_drew (S := BelS w4.drew) (by kernel_rfl) (BelS.refl _) (fun hS0 => ?_)
    refine wpAnyH_take (i := 0) (oi := _) (v := ?_) rfl (by kernel_rfl) (by kernel_rfl) (by kernel_rfl) (fun _ _ _ h => h) (Or.inl ⟨by rfl, ?_⟩) hS0 ?_
    rotate_left
    · intro W hSW
      try go_simp
      all_goals with_reducible rfl
    simp only [Act.put, List.setIfInBounds_toArray, List.set_cons_zero, List.set_cons_succ, List.getElem_toArray, List.getElem_cons_zero, List.getElem_cons_succ]
    refine wpAnyH_take (i := 1) (oi := _) (v := ?_) rfl (by kernel_rfl) (by kernel_rfl) (by kernel_rfl) (fun _ _ _ h => h) (Or.inl ⟨by rfl, ?_⟩) hS0 ?_
    rotate_left
    · intro W hSW
      obtain ⟨⟨c0, c1, c2, c3, c4, c5, c6, c7, c8, c9, c10, c11, c12, c13⟩, ⟨d0, d1, d2⟩, ⟨e0, e1, e2, e3, e4, e5⟩⟩ := HX4.out W (below_chain hbd hbd.size hSW)
      try go_simp
      all_goals with_reducible rfl
    simp only [Act.put, List.setIfInBounds_toArray, List.set_cons_zero, List.set_cons_succ, List.getElem_toArray, List.getElem_cons_zero, List.getElem_cons_succ]
    refine wpAnyH_ready (rs := [2]) (by kernel_rfl) (by simp) (AllReadyH.cons rfl (fun K hK => ?_) AllReadyH.nil)
    have DA := Lib.hid (HRT.out w4.drew (HY4.out w4.drew hbd))
    go_simp
    go_wp2_with ((go_at_call 61; (with_reducible refine DA.out.mono ?_); rintro e wA ⟨rfl, hbA⟩))
    have hqA := below_chain hbd hbd.size hbA
    refine hK.out _ _ hbA (fun _ => ?_)
    clear hK K DA
    refine wpAnyH_stronger (S' := BelS wA) (fun W h => below_chain hbA hbA.size h) _ _ _ _ ?_
    have hSA : BelS wA wA := BelS.refl wA
    refine wpAnyH_take (i := 3) (oi := _) (v := .bool true) rfl (by kernel_rfl) (by kernel_rfl) (by kernel_rfl) (fun _ _ _ h => h) (Or.inl ⟨by rfl, ?_⟩) hSA ?_
    skip
    · intro W hSW
      try go_simp
      all_goals first | with_reducible rfl | (simp; done) | trace_state
    simp only [Act.put, List.setIfInBounds_toArray, List.set_cons_zero, List.set_cons_succ, List.getElem_toArray, List.getElem_cons_zero, List.getElem_cons_succ]
    refine wpAnyH_take (i := 4) (oi := _) (v := .bool true) rfl (by kernel_rfl) (by kernel_rfl) (by kernel_rfl) (fun _ _ _ h => h) (Or.inl ⟨by rfl, ?_⟩) hSA ?_
    skip
    · intro W hSW
      try go_simp
      all_goals first | with_reducible rfl | (simp; done) | trace_state
    simp only [Act.put, List.setIfInBounds_toArray, List.set_cons_zero, List.set_cons_succ, List.getElem_toArray, List.getElem_cons_zero, List.getElem_cons_succ]
    refine wpAnyH_take (i := 5) (oi := _) (v := undef) rfl (by kernel_rfl) (by kernel_rfl) (by kernel_rfl) (fun _ _ _ h => h) (Or.inr ⟨by rfl, rfl⟩) hSA ?_
    simp only [Act.put, List.setIfInBounds_toArray, List.set_cons_zero, List.set_cons_succ, List.getElem_toArray, List.getElem_cons_zero, List.getElem_cons_succ]
    refine wpAnyH_take (i := 6) (oi := _) (v := undef) rfl (by kernel_rfl) (by kernel_rfl) (by kernel_rfl) (fun _ _ _ h => h) (Or.inr ⟨by rfl, rfl⟩) hSA ?_
    simp only [Act.put, List.setIfInBounds_toArray, List.set_cons_zero, List.set_cons_succ, List.getElem_toArray, List.getElem_cons_zero, List.getElem_cons_succ]
    refine wpAnyH_take (i := 7) (oi := _) (v := undef) rfl (by kernel_rfl) (by kernel_rfl) (by kernel_rfl) (fun _ _ _ h => h) (Or.inr ⟨by rfl, rfl⟩) hSA ?_
    simp only [Act.put, List.setIfInBounds_toArray, List.set_cons_zero, List.set_cons_succ, List.getElem_toArray, List.getElem_cons_zero, List.getElem_cons_succ]
    refine wpAnyH_take (i := 8) (oi := _) (v := undef) rfl (by kernel_rfl) (by kernel_rfl) (by kernel_rfl) (fun _ _ _ h => h) (Or.inr ⟨by rfl, rfl⟩) hSA ?_
    simp only [Act.put, List.setIfInBounds_toArray, List.set_cons_zero, List.set_cons_succ, List.getElem_toArray, List.getElem_cons_zero, List.getElem_cons_succ]
    refine wpAnyH_take (i := 9) (oi := _) (v := undef) rfl (by kernel_rfl) (by kernel_rfl) (by kernel_rfl) (fun _ _ _ h => h) (Or.inr ⟨by rfl, rfl⟩) hSA ?_
    simp only [Act.put, List.setIfInBounds_toArray, List.set_cons_zero, List.set_cons_succ, List.getElem_toArray, List.getElem_cons_zero, List.getElem_cons_succ]
    refine wpAnyH_take (i := 10) (oi := _) (v := undef) rfl (by kernel_rfl) (by kernel_rfl) (by kernel_rfl) (fun _ _ _ h => h) (Or.inr ⟨by rfl, rfl⟩) hSA ?_
    simp only [Act.put, List.setIfInBounds_toArray, List.set_cons_zero, List.set_cons_succ, List.getElem_toArray, List.getElem_cons_zero, List.getElem_cons_succ]
    refine wpAnyH_take (i := 11) (oi := _) (v := undef) rfl (by kernel_rfl) (by kernel_rfl) (by kernel_rfl) (fun _ _ _ h => h) (Or.inr ⟨by rfl, rfl⟩) hSA ?_
    simp only [Act.put, List.setIfInBounds_toArray, List.set_cons_zero, List.set_cons_succ, List.getElem_toArray, List.getElem_cons_zero, List.getElem_cons_succ]
    refine wpAnyH_take (i := 12) (oi := _) (v := ?_) rfl (by kernel_rfl) (by kernel_rfl) (by kernel_rfl) (fun _ _ _ h => h) (Or.inl ⟨by rfl, ?_⟩) hSA ?_
    rotate_left
    · intro W hSW
      try go_simp
      all_goals with_reducible rfl
    simp only [Act.put, List.setIfInBounds_toArray, List.set_cons_zero, List.set_cons_succ, List.getElem_toArray, List.getElem_cons_zero, List.getElem_cons_succ]
    refine wpAnyH_done (by kernel_rfl) ?_ _
    have hfin := HY4.out _ hqA
    go_wp2_with fail
    go_ret
    exact ⟨by rw [HE.out]; rfl, hfin⟩
  | true =>
  rw [Bool.true_and] at HE
  cases b62 with
  | false =>
    go_wp2_with fail
    refine wp_region_held_drew (S := BelS w4.drew) (by kernel_rfl) (BelS.refl _) (fun hS0 => ?_)
    refine wpAnyH_take (i := 0) (oi := _) (v := ?_) rfl (by kernel_rfl) (by kernel_rfl) (by kernel_rfl) (fun _ _ _ h => h) (Or.inl ⟨by rfl, ?_⟩) hS0 ?_
    rotate_left
    · intro W hSW
      try go_simp
      all_goals with_reducible rfl
    simp only [Act.put, List.setIfInBounds_toArray, List.set_cons_zero, List.set_cons_succ, List.getElem_toArray, List.getElem_cons_zero, List.getElem_cons_succ]
    refine wpAnyH_take (i := 1) (oi := _) (v := ?_) rfl (by kernel_rfl) (by kernel_rfl) (by kernel_rfl) (fun _ _ _ h => h) (Or.inl ⟨by rfl, ?_⟩) hS0 ?_
    rotate_left
    · intro W hSW
      obtain ⟨⟨c0, c1, c2, c3, c4, c5, c6, c7, c8, c9, c10, c11, c12, c13⟩, ⟨d0, d1, d2⟩, ⟨e0, e1, e2, e3, e4, e5⟩⟩ := HX4.out W (below_chain hbd hbd.size hSW)
      try go_simp
      all_goals with_reducible rfl
    simp only [Act.put, List.setIfInBounds_toArray, List.set_cons_zero, List.set_cons_succ, List.getElem_toArray, List.getElem_cons_zero, List.getElem_cons_succ]
    refine wpAnyH_ready (rs := [2]) (by kernel_rfl) (by simp) (AllReadyH.cons rfl (fun K hK => ?_) AllReadyH.nil)
    have DA := Lib.hid (HRT.out w4.drew (HY4.out w4.drew hbd))
    go_simp
    go_wp2_with ((go_at_call 61; (with_reducible refine DA.out.mono ?_); rintro e wA ⟨rfl, hbA⟩))
    have hqA := below_chain hbd hbd.size hbA
    refine hK.out _ _ hbA (fun _ => ?_)
    clear hK K DA
    refine wpAnyH_stronger (S' := BelS wA) (fun W h => below_chain hbA hbA.size h) _ _ _ _ ?_
    have hSA : BelS wA wA := BelS.refl wA
    refine wpAnyH_take (i := 3) (oi := _) (v := .bool false) rfl (by kernel_rfl) (by kernel_rfl) (by kernel_rfl) (fun _ _ _ h => h) (Or.inl ⟨by rfl, ?_⟩) hSA ?_
    skip
    · intro W hSW
      try go_simp
      all_goals first | with_reducible rfl | (simp; done) | trace_state
    simp only [Act.put, List.setIfInBounds_toArray, List.set_cons_zero, List.set_cons_succ, List.getElem_toArray, List.getElem_cons_zero, List.getElem_cons_succ]
    refine wpAnyH_take (i := 4) (oi := _) (v := .bool false) rfl (by kernel_rfl) (by kernel_rfl) (by kernel_rfl) (fun _ _ _ h => h) (Or.inl ⟨by rfl, ?_⟩) hSA ?_
    skip
    · intro W hSW
      try go_simp
      all_goals first | with_reducible rfl | (simp; done) | trace_state
    simp only [Act.put, List.setIfInBounds_toArray, List.set_cons_zero, List.set_cons_succ, List.getElem_toArray, List.getElem_cons_zero, List.getElem_cons_succ]
    refine wpAnyH_take (i := 5) (oi := _) (v := ?_) rfl (by kernel_rfl) (by kernel_rfl) (by kernel_rfl) (fun _ _ _ h => h) (Or.inl ⟨by rfl, ?_⟩) hSA ?_
    rotate_left
    · intro W hSW
      try go_simp
      all_goals with_reducible rfl
    simp only [Act.put, List.setIfInBounds_toArray, List.set_cons_zero, List.set_cons_succ, List.getElem_toArray, List.getElem_cons_zero, List.getElem_cons_succ]
    refine wpAnyH_take (i := 6) (oi := _) (v := ?_) rfl (by kernel_rfl) (by kernel_rfl) (by kernel_rfl) (fun _ _ _ h => h) (Or.inl ⟨by rfl, ?_⟩) hSA ?_
    rotate_left
    · intro W hSW
      obtain ⟨⟨c0, c1, c2, c3, c4, c5, c6, c7, c8, c9, c10, c11, c12, c13⟩, ⟨d0, d1, d2⟩, ⟨e0, e1, e2, e3, e4, e5⟩⟩ := HX4.out W (below_chain hqA hqA.size hSW)
      try go_simp
      all_goals with_reducible rfl
    simp only [Act.put, List.setIfInBounds_toArray, List.set_cons_zero, List.set_cons_succ, List.getElem_toArray, List.getElem_cons_zero, List.getElem_cons_succ]
    refine wpAnyH_take (i := 8) (oi := _) (v := ?_) rfl (by kernel_rfl) (by kernel_rfl) (by kernel_rfl) (fun _ _ _ h => h) (Or.inl ⟨by rfl, ?_⟩) hSA ?_
    rotate_left
    · intro W hSW
      try go_simp
      all_goals with_reducible rfl
    simp only [Act.put, List.setIfInBounds_toArray, List.set_cons_zero, List.set_cons_succ, List.getElem_toArray, List.getElem_cons_zero, List.getElem_cons_succ]
    refine wpAnyH_take (i := 9) (oi := _) (v := ?_) rfl (by kernel_rfl) (by kernel_rfl) (by kernel_rfl) (fun _ _ _ h => h) (Or.inl ⟨by rfl, ?_⟩) hSA ?_
    rotate_left
    · intro W hSW
      obtain ⟨⟨c0, c1, c2, c3, c4, c5, c6, c7, c8, c9, c10, c11, c12, c13⟩, ⟨d0, d1, d2⟩, ⟨e0, e1, e2, e3, e4, e5⟩⟩ := HX4.out W (below_chain hqA hqA.size hSW)
      try go_simp
      all_goals with_reducible rfl
    simp only [Act.put, List.setIfInBounds_toArray, List.set_cons_zero, List.set_cons_succ, List.getElem_toArray, List.getElem_cons_zero, List.getElem_cons_succ]
    refine wpAnyH_ready (rs := [7]) (by kernel_rfl) (by simp) (AllReadyH.cons rfl (fun K hK => ?_) AllReadyH.nil)
    have DB := Lib.hid (HHA.out wA (HY4.out wA hqA))
    go_simp
    go_wp2_with ((go_at_call 18; (with_reducible refine DB.out.mono ?_); rintro e wB ⟨vB, rfl, hoB, hbB⟩))
    have hqB := below_chain hqA hqA.size hbB
    refine hK.out _ _ hbB (fun _ => ?_)
    clear hK K DB
    refine wpAnyH_stronger (S' := BelS wB) (fun W h => below_chain hbB hbB.size h) _ _ _ _ ?_
    have hSB : BelS wB wB := BelS.refl wB
    refine wpAnyH_ready (rs := [10]) (by kernel_rfl) (by simp) (AllReadyH.cons rfl (fun K hK => ?_) AllReadyH.nil)
    have DC := Lib.hid (HEQ.out wB _ _ (HY4.out wB hqB) hoB)
    go_simp
    go_wp2_with ((go_at_call 67; (with_reducible refine DC.out.mono ?_); rintro e wC ⟨rfl, hbC0⟩))
    have hbC : Below wB.heap.size wB wC := by rw [← hbC0]; exact Below.refl _ _
    have hqC := below_chain hqB hqB.size hbC
    refine hK.out _ _ hbC (fun _ => ?_)
    clear hK K DC
    refine wpAnyH_stronger (S' := BelS wC) (fun W h => below_chain hbC hbC.size h) _ _ _ _ ?_
    have hSC : BelS wC wC := BelS.refl wC
    refine wpAnyH_take (i := 11) (oi := _) (v := ?_) rfl (by kernel_rfl) (by kernel_rfl) (by kernel_rfl) (fun _ _ _ h => h) (Or.inl ⟨by rfl, ?_⟩) hSC ?_
    rotate_left
    · intro W hSW
      try go_simp
      all_goals with_reducible rfl
    simp only [Act.put, List.setIfInBounds_toArray, List.set_cons_zero, List.set_cons_succ, List.getElem_toArray, List.getElem_cons_zero, List.getElem_cons_succ]
    refine wpAnyH_take (i := 12) (oi := _) (v := ?_) rfl (by kernel_rfl) (by kernel_rfl) (by kernel_rfl) (fun _ _ _ h => h) (Or.inl ⟨by rfl, ?_⟩) hSC ?_
    rotate_left
    · intro W hSW
      try go_simp
      all_goals with_reducible rfl
    simp only [Act.put, List.setIfInBounds_toArray, List.set_cons_zero, List.set_cons_succ, List.getElem_toArray, List.getElem_cons_zero, List.getElem_cons_succ]
    refine wpAnyH_done (by kernel_rfl) ?_ _
    have hfin := HY4.out _ hqC
    go_wp2_with fail
    go_ret
    exact ⟨by rw [HE.out]; rfl, hfin⟩
  | true =>
  go_wp2_with fail
  refine wp_region_held_drew (S := BelS w4.drew) (by kernel_rfl) (BelS.refl _) (fun hS0 => ?_)
  refine wpAnyH_take (i := 0) (oi := _) (v := ?_) rfl (by kernel_rfl) (by kernel_rfl) (by kernel_rfl) (fun _ _ _ h => h) (Or.inl ⟨by rfl, ?_⟩) hS0 ?_
  rotate_left
  · intro W hSW
    try go_simp
    all_goals with_reducible rfl
  simp only [Act.put, List.setIfInBounds_toArray, List.set_cons_zero, List.set_cons_succ, List.getElem_toArray, List.getElem_cons_zero, List.getElem_cons_succ]
  refine wpAnyH_take (i := 1) (oi := _) (v := ?_) rfl (by kernel_rfl) (by kernel_rfl) (by kernel_rfl) (fun _ _ _ h => h) (Or.inl ⟨by rfl, ?_⟩) hS0 ?_
  rotate_left
  · intro W hSW
    obtain ⟨⟨c0, c1, c2, c3, c4, c5, c6, c7, c8, c9, c10, c11, c12, c13⟩, ⟨d0, d1, d2⟩, ⟨e0, e1, e2, e3, e4, e5⟩⟩ := HX4.out W (below_chain hbd hbd.size hSW)
    try go_simp
    all_goals with_reducible rfl
  simp only [Act.put, List.setIfInBounds_toArray, List.set_cons_zero, List.set_cons_succ, List.getElem_toArray, List.getElem_cons_zero, List.getElem_cons_succ]
  refine wpAnyH_ready (rs := [2]) (by kernel_rfl) (by simp) (AllReadyH.cons rfl (fun K hK => ?_) AllReadyH.nil)
  have DA := Lib.hid (HRT.out w4.drew (HY4.out w4.drew hbd))
  go_simp
  go_wp2_with ((go_at_call 61; (with_reducible refine DA.out.mono ?_); rintro e wA ⟨rfl, hbA⟩))
  have hqA := below_chain hbd hbd.size hbA
  refine hK.out _ _ hbA (fun _ => ?_)
  clear hK K DA
  refine wpAnyH_stronger (S' := BelS wA) (fun W h => below_chain hbA hbA.size h) _ _ _ _ ?_
  have hSA : BelS wA wA := BelS.refl wA
  refine wpAnyH_take (i := 3) (oi := _) (v := .bool false) rfl (by kernel_rfl) (by kernel_rfl) (by kernel_rfl) (fun _ _ _ h => h) (Or.inl ⟨by rfl, ?_⟩) hSA ?_
  skip
  · intro W hSW
    try go_simp
    all_goals first | with_reducible rfl | (simp; done) | trace_state
  simp only [Act.put, List.setIfInBounds_toArray, List.set_cons_zero, List.set_cons_succ, List.getElem_toArray, List.getElem_cons_zero, List.getElem_cons_succ]
  refine wpAnyH_take (i := 4) (oi := _) (v := .bool false) rfl (by kernel_rfl) (by kernel_rfl) (by kernel_rfl) (fun _ _ _ h => h) (Or.inl ⟨by rfl, ?_⟩) hSA ?_
  skip
  · intro W hSW
    try go_simp
    all_goals first | with_reducible rfl | (simp; done) | trace_state
  simp only [Act.put, List.setIfInBounds_toArray, List.set_cons_zero, List.set_cons_succ, List.getElem_toArray, List.getElem_cons_zero, List.getElem_cons_succ]
  refine wpAnyH_take (i := 5) (oi := _) (v := ?_) rfl (by kernel_rfl) (by kernel_rfl) (by kernel_rfl) (fun _ _ _ h => h) (Or.inl ⟨by rfl, ?_⟩) hSA ?_
  rotate_left
  · intro W hSW
    try go_simp
    all_goals with_reducible rfl
  simp only [Act.put, List.setIfInBounds_toArray, List.set_cons_zero, List.set_cons_succ, List.getElem_toArray, List.getElem_cons_zero, List.getElem_cons_succ]
  refine wpAnyH_take (i := 6) (oi := _) (v := ?_) rfl (by kernel_rfl) (by kernel_rfl) (by kernel_rfl) (fun _ _ _ h => h) (Or.inl ⟨by rfl, ?_⟩) hSA ?_
  rotate_left
  · intro W hSW
    obtain ⟨⟨c0, c1, c2, c3, c4, c5, c6, c7, c8, c9, c10, c11, c12, c13⟩, ⟨d0, d1, d2⟩, ⟨e0, e1, e2, e3, e4, e5⟩⟩ := HX4.out W (below_chain hqA hqA.size hSW)
    try go_simp
    all_goals with_reducible rfl
  simp only [Act.put, List.setIfInBounds_toArray, List.set_cons_zero, List.set_cons_succ, List.getElem_toArray, List.getElem_cons_zero, List.getElem_cons_succ]
  refine wpAnyH_take (i := 8) (oi := _) (v := ?_) rfl (by kernel_rfl) (by kernel_rfl) (by kernel_rfl) (fun _ _ _ h => h) (Or.inl ⟨by rfl, ?_⟩) hSA ?_
  rotate_left
  · intro W hSW
    try go_simp
    all_goals with_reducible rfl
  simp only [Act.put, List.setIfInBounds_toArray, List.set_cons_zero, List.set_cons_succ, List.getElem_toArray, List.getElem_cons_zero, List.getElem_cons_succ]
  refine wpAnyH_take (i := 9) (oi := _) (v := ?_) rfl (by kernel_rfl) (by kernel_rfl) (by kernel_rfl) (fun _ _ _ h => h) (Or.inl ⟨by rfl, ?_⟩) hSA ?_
  rotate_left
  · intro W hSW
    obtain ⟨⟨c0, c1, c2, c3, c4, c5, c6, c7, c8, c9, c10, c11, c12, c13⟩, ⟨d0, d1, d2⟩, ⟨e0, e1, e2, e3, e4, e5⟩⟩ := HX4.out W (below_chain hqA hqA.size hSW)
    try go_simp
    all_goals with_reducible rfl
  simp only [Act.put, List.setIfInBounds_toArray, List.set_cons_zero, List.set_cons_succ, List.getElem_toArray, List.getElem_cons_zero, List.getElem_cons_succ]
  refine wpAnyH_ready (rs := [7]) (by kernel_rfl) (by simp) (AllReadyH.cons rfl (fun K hK => ?_) AllReadyH.nil)
  have DB := Lib.hid (HHA.out wA (HY4.out wA hqA))
  go_simp
  go_wp2_with ((go_at_call 18; (with_reducible refine DB.out.mono ?_); rintro e wB ⟨vB, rfl, hoB, hbB⟩))
  have hqB := below_chain hqA hqA.size hbB
  refine hK.out _ _ hbB (fun _ => ?_)
  clear hK K DB
  refine wpAnyH_stronger (S' := BelS wB) (fun W h => below_chain hbB hbB.size h) _ _ _ _ ?_
  have hSB : BelS wB wB := BelS.refl wB
  refine wpAnyH_ready (rs := [10]) (by kernel_rfl) (by simp) (AllReadyH.cons rfl (fun K hK => ?_) AllReadyH.nil)
  have DC := Lib.hid (HEQ.out wB _ _ (HY4.out wB hqB) hoB)
  go_simp
  go_wp2_with ((go_at_call 67; (with_reducible refine DC.out.mono ?_); rintro e wC ⟨rfl, hbC0⟩))
  have hbC : Below wB.heap.size wB wC := by rw [← hbC0]; exact Below.refl _ _
  have hqC := below_chain hqB hqB.size hbC
  refine hK.out _ _ hbC (fun _ => ?_)
  clear hK K DC
  refine wpAnyH_stronger (S' := BelS wC) (fun W h => below_chain hbC hbC.size h) _ _ _ _ ?_
  have hSC : BelS wC wC := BelS.refl wC
  refine wpAnyH_take (i := 11) (oi := _) (v := ?_) rfl (by kernel_rfl) (by kernel_rfl) (by kernel_rfl) (fun _ _ _ h => h) (Or.inl ⟨by rfl, ?_⟩) hSC ?_
  rotate_left
  · intro W hSW
    try go_simp
    all_goals with_reducible rfl
  simp only [Act.put, List.setIfInBounds_toArray, List.set_cons_zero, List.set_cons_succ, List.getElem_toArray, List.getElem_cons_zero, List.getElem_cons_succ]
  refine wpAnyH_take (i := 12) (oi := _) (v := ?_) rfl (by kernel_rfl) (by kernel_rfl) (by kernel_rfl) (fun _ _ _ h => h) (Or.inl ⟨by rfl, ?_⟩) hSC ?_
  rotate_left
  · intro W hSW
    try go_simp
    all_goals with_reducible rfl
  simp only [Act.put, List.setIfInBounds_toArray, List.set_cons_zero, List.set_cons_succ, List.getElem_toArray, List.getElem_cons_zero, List.getElem_cons_succ]
  refine wpAnyH_done (by kernel_rfl) ?_ _
  have hq5 := hqC
  clear HRT HHA HEQ
  obtain ⟨⟨c0, c1, c2, c3, c4, c5, c6, c7, c8, c9, c10, c11, c12, c13⟩, ⟨d0, d1, d2⟩, ⟨e0, e1, e2, e3, e4, e5⟩⟩ := HX4.out _ hq5
  have HLK5 := Lib.hid (HLK.out _ (HY4.out _ hq5) tt _ _ xp xq (HR4.out _ hq5).1 (HR4.out _ hq5).2)
  clear HLK
  generalize LB xq = b7 at *
  generalize xp.length = np at *
  generalize xq.length = nq at *
  have HQ5 := Lib.hid hq5
  clear hSA hSB hSC hqA hqB hqC hbA hbB hbC hbC0 hoB hS0 hbd hq5
  go_wp2_with fail
  refine HLK5.out.mono ?_
  rintro e w6 ⟨rfl, hb6⟩
  have hq6 := below_chain HQ5.out HQ5.out.size hb6
  cases b7 with
  | false =>
    have hfin := HY4.out _ hq6
    clear c0 c1 c2 c3 c4 c5 c6 c7 c8 c9 c10 c11 c12 c13 d0 d1 d2 e0 e1 e2 e3 e4 e5
    go_wp2_with fail
    go_ret
    exact ⟨by rw [HE.out]; rfl, hfin⟩
  | true =>
  clear c0 c1 c2 c3 c4 c5 c6 c7 c8 c9 c10 c11 c12 c13 d0 d1 d2 e0 e1 e2 e3 e4 e5 HLK5 hb6
  obtain ⟨⟨c0, c1, c2, c3, c4, c5, c6, c7, c8, c9, c10, c11, c12, c13⟩, ⟨d0, d1, d2⟩, ⟨e0, e1, e2, e3, e4, e5⟩⟩ := HX4.out _ hq6
  have HQU6 := Lib.hid (HQU.out _ (HY4.out _ hq6))
  have HQ6 := Lib.hid hq6
  clear HQU HQ5 hq6
  go_wp2_with fail
  refine HQU6.out.mono ?_
  rintro e w7 ⟨rfl, hb7⟩
  have hq7 := below_chain HQ6.out HQ6.out.size hb7
  have hfin := HY4.out _ hq7
  cases b8 with
  | false =>
    clear c0 c1 c2 c3 c4 c5 c6 c7 c8 c9 c10 c11 c12 c13 d0 d1 d2 e0 e1 e2 e3 e4 e5
    go_wp2_with fail
    go_ret
    exact ⟨by rw [HE.out]; rfl, hfin⟩
  | true =>
    clear c0 c1 c2 c3 c4 c5 c6 c7 c8 c9 c10 c11 c12 c13 d0 d1 d2 e0 e1 e2 e3 e4 e5
    go_wp2_with fail
    go_ret
    exact ⟨by rw [HE.out]; rfl, hfin⟩
end Go.Proofs.YtmphegeiclgjbaaGreatDoor
namespace Go.Proofs.YtmphegeiclgjbaaGreatDoor
set_option maxRecDepth 100000
open Go Go.RowKit
set_option linter.unusedVariables false

theorem aliveV_ok (R : List Pr) (id : ByteArray) : (aliveV R id).ok := by
  unfold aliveV
  cases hg : getCl R id with
  | none => exact ⟨Nat.zero_le _, Nat.zero_lt_succ _, Nat.zero_lt_succ _⟩
  | some c =>
    dsimp only
    split
    · exact ⟨Nat.zero_le _, Nat.zero_lt_succ _, Nat.zero_lt_succ _⟩
    · unfold getCl at hg
      split at hg
      · cases hl : getL R (kCli id) with
        | none => rw [hl] at hg; cases hg
        | some lb =>
          rw [hl] at hg
          have hc : readCl lb = some c := hg
          unfold readCl at hc
          dsimp only at hc
          split at hc
          · injection hc with hc
            rw [← hc]
            refine ⟨?_, rN_ltP _ _, rN_ltP _ _⟩
            have := rB_le lb 0
            show (⟨(rB lb 0).1.toArray⟩ : ByteArray).size ≤ 65535
            simpa [ByteArray.size] using this
          · cases hc
      · cases hg
set_option maxHeartbeats 4000000 in
theorem clfreeze_any {W w : World} {y : Lyr} {l : List Lyr} {R : List Pr} {k : Nat} (h : At W y l R k w) (hn : y.n + k < maxLen) (id : ByteArray) (hid : id.size ≤ 100000000) (v : ClV) (hv : v.ok) :
    Calls Tryz.prog 73 #[.pointer (some ⟨y.b, 0, none⟩), .string id, v.val] w fun e w' => e = .returned (.tuple #[]) ∧ At W y l (setL (kCli id) (clB ⟨v.ch, v.la, v.pe, true⟩) R) (k + 1) w' ∧ Kept w w' := by
  obtain ⟨kc, kl, kp, kf⟩ := v
  obtain ⟨h1, h2, h3⟩ := hv
  dsimp only at h1 h2 h3 ⊢
  unfold ClV.val
  dsimp only
  have m0 := heap_alloc_new w (.cells #[.string kc, .int .u64 (kl : Int), .int .u64 (kp : Int), .bool kf] 50)
  have c0 := blk_cell m0 0
  have c1 := blk_cell m0 1
  have c2 := blk_cell m0 2
  have ha1 : Below w.heap.size w (w.alloc (.cells #[.string kc, .int .u64 (kl : Int), .int .u64 (kp : Int), .bool true] 50)) := (Below.refl _ _).alloc (Nat.le_refl _) _
  have HP := Lib.hid (clput_any (h.up ha1) hn id hid ⟨kc, kl, kp, true⟩ (by dsimp only; unfold maxLen; omega) h2 h3)
  have hkk := Kept.of_belowX ha1
  unfold ClV.val at HP
  dsimp only at HP
  obtain ⟨B, hB⟩ : ∃ B : Addr, B = ⟨y.b, 0, none⟩ := ⟨_, rfl⟩
  rw [← hB] at HP ⊢
  clear hB h ha1
  go_enter Tryz.func73, Tryz.ntmps73
  go_wp2_with fail
  refine HP.out.mono ?_
  rintro e w1 ⟨rfl, A1, hk1⟩
  go_wp2_with fail
  go_end0
  exact ⟨rfl, A1, hkk.transX hk1⟩
def updM (R : List Pr) (id : ByteArray) (u : NwW) (now : Nat) : Int × List Pr :=
  if aliveE R id = 0 then
    (if wrongE R id (aliveV R id) u now = 0 then
      (match getCs R id u.h.ht with
        | some t => (0, if ((t.tm != u.h.tm) || (!sameB t.rt u.h.rt || !sameB t.nx u.h.nx)) = true then setL (kCli id) (clB ⟨(aliveV R id).ch, (aliveV R id).la, (aliveV R id).pe, true⟩) R else R)
        | none => (0, setL (kCli id) (clB ⟨(aliveV R id).ch, max (aliveV R id).la u.h.ht, (aliveV R id).pe, (aliveV R id).fr⟩) (setL (kCons id u.h.ht) (csB ⟨u.h.tm, u.h.rt, u.h.nx⟩) R)))
    else (wrongE R id (aliveV R id) u now, R))
  else (aliveE R id, R)
set_option maxHeartbeats 32000000 in
theorem clupd_any {W w : World} {y : Lyr} {l : List Lyr} {R : List Pr} {k : Nat} (h : At W y l R k w) (hn : y.n + k + 3 ≤ maxLen) (id : ByteArray) (hid : id.size ≤ 100000000) (u : NwW) (hu : u.rd w) (now : Nat) (h_now : now < 18446744073709551616)
    (fr : TypeId × Nat × Nat) (hk : w.heap[0]? = some (.cells kVals fr.1 fr.2)) :
    Calls Tryz.prog 25 #[.pointer (some ⟨y.b, 0, none⟩), .string id, u.val, .int .u64 (now : Int)] w fun e w' => e = .returned (.int .i64 (updM R id u now).1) ∧ At W y l (updM R id u now).2 (k + 2) w' ∧ Kept w w' := by
  have HAL := Lib.hid (fun (Z : World) (hz : Below w.heap.size w Z) => alive_any (h.up hz) id hid)
  have HWR := Lib.hid (fun (Z : World) (hz : Below w.heap.size w Z) => clwrong_any (h.up hz) id hid (aliveV R id) u (hu.keptM (Kept.of_belowX hz)) now h_now fr ((hz.block _ (blk_lt hk)).trans hk))
  have HTR := Lib.hid (fun (Z : World) (hz : Below w.heap.size w Z) => csget_any (h.up hz) id u.h.ht hu.h.ht hid)
  have HUP := Lib.hid (fun (Z : World) (hz : Below w.heap.size w Z) => (h.up hz))
  have HRD := Lib.hid (fun (Z : World) (hz : Below w.heap.size w Z) => (hu.keptM (Kept.of_belowX hz)).h)
  have HOK := Lib.hid (aliveV_ok R id)
  have HID := Lib.hid hid
  have HNN := Lib.hid hn
  have HSW := Lib.hid h.size
  obtain ⟨⟨UE, UR⟩, hU⟩ : ∃ p, p = updM R id u now := ⟨_, rfl⟩
  rw [← hU]
  have HU := Lib.hid hU
  clear hU
  unfold updM at HU
  unfold NwW.val ClV.val at *
  obtain ⟨⟨ch, ht, tm, vr, vv, vn, rt, va, nx⟩, vs, s, vt, t, vo, o, ua⟩ := u
  obtain ⟨⟨hr0, hv0, hn0, h_ht, h_tm⟩, hs0, ht0, ho0, h_ua, h_ls, h_lt⟩ := hu
  dsimp only at hr0 hv0 hn0 h_ht h_tm hs0 ht0 ho0 h_ua h_ls h_lt
  dsimp only at HAL HWR HTR HRD HU ⊢
  obtain ⟨Ar, cr, rfl⟩ := hr0.form
  obtain ⟨Av, cv, rfl⟩ := hv0.form
  obtain ⟨An, cn, rfl⟩ := hn0.form
  obtain ⟨As, cs, rfl⟩ := hs0.form
  obtain ⟨At_, ct, rfl⟩ := ht0.form
  obtain ⟨Ao, co, rfl⟩ := ho0.form
  have HTM := Lib.hid (And.intro h_ht h_tm)
  generalize wrongE R id (aliveV R id) _ now = WE at *
  generalize aliveE R id = AE at *
  generalize aliveV R id = V at *
  obtain ⟨kc, kl, kp, kf⟩ := V
  obtain ⟨B, hB⟩ : ∃ B : Addr, B = ⟨y.b, 0, none⟩ := ⟨_, rfl⟩
  have HBB := Lib.hid hB
  rw [← hB] at HAL HWR HTR ⊢
  dsimp only at HWR HU ⊢
  clear hr0 hv0 hn0 hs0 ht0 ho0 h_ua h_ls h_lt hk hid hn hB h h_now
  generalize hs_ : s.length = ns at *
  generalize ht_ : t.length = nt at *
  generalize ho_ : o.length = no at *
  clear hs_ ht_ ho_
  have m0 := heap_alloc_new w (.cells #[.string ch, .int .u64 (ht : Int), .int .u64 (tm : Int), .slice Ar rt.length cr, .slice Av va.length cv, .slice An nx.length cn, .slice As ns cs, .slice At_ nt ct, .slice Ao no co, .int .u64 (ua : Int)] 68)
  have ha0 : Below w.heap.size w (w.alloc (.cells #[.string ch, .int .u64 (ht : Int), .int .u64 (tm : Int), .slice Ar rt.length cr, .slice Av va.length cv, .slice An nx.length cn, .slice As ns cs, .slice At_ nt ct, .slice Ao no co, .int .u64 (ua : Int)] 68)) := (Below.refl _ _).alloc (Nat.le_refl _) _
  generalize hW0 : w.alloc (.cells #[.string ch, .int .u64 (ht : Int), .int .u64 (tm : Int), .slice Ar rt.length cr, .slice Av va.length cv, .slice An nx.length cn, .slice As ns cs, .slice At_ nt ct, .slice Ao no co, .int .u64 (ua : Int)] 68) = W0 at *
  have hl0 := blk_lt m0
  generalize hgg : w.heap.size = g0 at *
  have HC : Hid (∀ Z, Below W0.heap.size W0 Z → Z.cell? ⟨g0, 0, none⟩ = some (.string ch) ∧ Z.cell? ⟨g0, 1, none⟩ = some (.int .u64 (ht : Int)) ∧ Z.cell? ⟨g0, 2, none⟩ = some (.int .u64 (tm : Int)) ∧ Z.cell? ⟨g0, 3, none⟩ = some (.slice Ar rt.length cr) ∧ Z.cell? ⟨g0, 4, none⟩ = some (.slice Av va.length cv) ∧ Z.cell? ⟨g0, 5, none⟩ = some (.slice An nx.length cn) ∧ Z.cell? ⟨g0, 6, none⟩ = some (.slice As ns cs) ∧ Z.cell? ⟨g0, 7, none⟩ = some (.slice At_ nt ct) ∧ Z.cell? ⟨g0, 8, none⟩ = some (.slice Ao no co) ∧ Z.cell? ⟨g0, 9, none⟩ = some (.int .u64 (ua : Int))) := Lib.hid fun Z hz => ⟨blk_cell ((hz.block _ hl0).trans m0) 0, blk_cell ((hz.block _ hl0).trans m0) 1, blk_cell ((hz.block _ hl0).trans m0) 2, blk_cell ((hz.block _ hl0).trans m0) 3, blk_cell ((hz.block _ hl0).trans m0) 4, blk_cell ((hz.block _ hl0).trans m0) 5, blk_cell ((hz.block _ hl0).trans m0) 6, blk_cell ((hz.block _ hl0).trans m0) 7, blk_cell ((hz.block _ hl0).trans m0) 8, blk_cell ((hz.block _ hl0).trans m0) 9⟩
  have HA : Hid (Below g0 w W0 ∧ g0 ≤ W0.heap.size) := Lib.hid ⟨ha0, by rw [← hgg]; exact ha0.size⟩
  have HB : Hid (∀ Z, Below W0.heap.size W0 Z → Below g0 w Z) := Lib.hid fun Z hz => HA.out.1.trans (hz.mono HA.out.2)
  have HKB : Hid (∀ Z, Below g0 w Z → Kept w Z) := Lib.hid fun Z hz => Kept.of_belowX (by rw [hgg]; exact hz)
  clear m0 ha0 hl0
  go_enter Tryz.func25, Tryz.ntmps25
  obtain ⟨c0, c1, c2, c3, c4, c5, c6, c7, c8, c9⟩ := HC.out W0 (Below.refl _ _)
  go_wp2_with fail
  try rw [hgg]
  try rw [hW0]
  clear hW0
  refine (HAL.out _ HA.out.1).mono ?_
  rintro e w1 ⟨rfl, hb1⟩
  have m1 := heap_alloc_new w1 (.cells #[.string kc, .int .u64 (kl : Int), .int .u64 (kp : Int), .bool kf] 50)
  have ha1 := hb1.alloc hb1.size (.cells #[.string kc, .int .u64 (kl : Int), .int .u64 (kp : Int), .bool kf] 50)
  clear c0 c1 c2 c3 c4 c5 c6 c7 c8 c9
  clear HAL
  by_cases hae : AE = 0
  rotate_left
  · have HX := Lib.hid (Prod.mk.inj (HU.out.trans (if_neg hae)))
    have hne : (AE != 0) = true := by simpa using hae
    have hfin := HB.out _ ha1
    clear hae m1
    go_wp2_with fail
    go_ret
    exact ⟨by rw [HX.out.1]; rfl, by rw [HX.out.2]; exact (HUP.out _ hfin).more (by omega), HKB.out _ hfin⟩
  have HU1 := Lib.hid (HU.out.trans (if_pos hae))
  clear HU
  have HU := HU1
  clear HU1
  subst hae
  generalize hW1 : w1.alloc (.cells #[.string kc, .int .u64 (kl : Int), .int .u64 (kp : Int), .bool kf] 50) = W1 at *
  have hl1 := blk_lt m1
  generalize hg1 : w1.heap.size = g1 at *
  have HCL : Hid (∀ Z, Below W1.heap.size W1 Z → Z.cell? ⟨g1, 0, none⟩ = some (.string kc) ∧ Z.cell? ⟨g1, 1, none⟩ = some (.int .u64 (kl : Int)) ∧ Z.cell? ⟨g1, 2, none⟩ = some (.int .u64 (kp : Int)) ∧ Z.cell? ⟨g1, 3, none⟩ = some (.bool kf)) := Lib.hid fun Z hz => ⟨blk_cell ((hz.block _ hl1).trans m1) 0, blk_cell ((hz.block _ hl1).trans m1) 1, blk_cell ((hz.block _ hl1).trans m1) 2, blk_cell ((hz.block _ hl1).trans m1) 3⟩
  have HML := Lib.hid m1
  have HA1 : Hid (Below W0.heap.size W0 W1 ∧ g0 ≤ W1.heap.size ∧ g0 ≤ g1) := Lib.hid ⟨ha1, Nat.le_trans HA.out.2 ha1.size, by rw [← hg1]; exact Nat.le_trans HA.out.2 hb1.size⟩
  have HV1 : Hid (∀ Z, Below W1.heap.size W1 Z → Below W0.heap.size W0 Z) := Lib.hid fun Z hz => HA1.out.1.trans (hz.mono HA1.out.1.size)
  clear m1 ha1 hl1 hb1
  obtain ⟨c0, c1, c2, c3, c4, c5, c6, c7, c8, c9⟩ := HC.out W1 HA1.out.1
  obtain ⟨d0, d1, d2, d3⟩ := HCL.out W1 (Below.refl _ _)
  have HWR1 := Lib.hid (HWR.out W1 (HB.out _ HA1.out.1))
  clear HWR
  go_wp2_with fail
  try rw [hg1]
  try rw [hW1]
  clear hW1 hg1
  refine HWR1.out.mono ?_
  rintro e w2 ⟨rfl, hb2⟩
  clear c0 c1 c2 c3 c4 c5 c6 c7 c8 c9
  clear d0 d1 d2 d3
  clear HWR1
  by_cases hwe : WE = 0
  rotate_left
  · have HX := Lib.hid (Prod.mk.inj (HU.out.trans (if_neg hwe)))
    have hne : (WE != 0) = true := by simpa using hwe
    have hfin := HB.out _ (HV1.out _ hb2)
    clear hwe
    go_wp2_with fail
    go_ret
    exact ⟨by rw [HX.out.1]; rfl, by rw [HX.out.2]; exact (HUP.out _ hfin).more (by omega), HKB.out _ hfin⟩
  have HU2 := Lib.hid (HU.out.trans (if_pos hwe))
  clear HU
  have HU := HU2
  clear HU2
  subst hwe
  -- the header's box
  obtain ⟨c0, c1, c2, c3, c4, c5, c6, c7, c8, c9⟩ := HC.out _ (HV1.out _ hb2)
  have m3 := heap_alloc_new w2 (.cells #[.string ch, .int .u64 (ht : Int), .int .u64 (tm : Int), .slice Ar rt.length cr, .slice Av va.length cv, .slice An nx.length cn] 34)
  have ha3 := hb2.alloc hb2.size (.cells #[.string ch, .int .u64 (ht : Int), .int .u64 (tm : Int), .slice Ar rt.length cr, .slice Av va.length cv, .slice An nx.length cn] 34)
  generalize hW2 : w2.alloc (.cells #[.string ch, .int .u64 (ht : Int), .int .u64 (tm : Int), .slice Ar rt.length cr, .slice Av va.length cv, .slice An nx.length cn] 34) = W2 at *
  have hl3 := blk_lt m3
  generalize hg2 : w2.heap.size = g2 at *
  have HCH : Hid (∀ Z, Below W2.heap.size W2 Z → Z.cell? ⟨g2, 0, none⟩ = some (.string ch) ∧ Z.cell? ⟨g2, 1, none⟩ = some (.int .u64 (ht : Int)) ∧ Z.cell? ⟨g2, 2, none⟩ = some (.int .u64 (tm : Int)) ∧ Z.cell? ⟨g2, 3, none⟩ = some (.slice Ar rt.length cr) ∧ Z.cell? ⟨g2, 4, none⟩ = some (.slice Av va.length cv) ∧ Z.cell? ⟨g2, 5, none⟩ = some (.slice An nx.length cn)) := Lib.hid fun Z hz => ⟨blk_cell ((hz.block _ hl3).trans m3) 0, blk_cell ((hz.block _ hl3).trans m3) 1, blk_cell ((hz.block _ hl3).trans m3) 2, blk_cell ((hz.block _ hl3).trans m3) 3, blk_cell ((hz.block _ hl3).trans m3) 4, blk_cell ((hz.block _ hl3).trans m3) 5⟩
  have HA2 : Hid (Below W1.heap.size W1 W2 ∧ W1.heap.size ≤ g2) := Lib.hid ⟨ha3, by rw [← hg2]; exact hb2.size⟩
  have HV2 : Hid (∀ Z, Below W2.heap.size W2 Z → Below W1.heap.size W1 Z) := Lib.hid fun Z hz => HA2.out.1.trans (hz.mono HA2.out.1.size)
  have HTR2 := Lib.hid (HTR.out W2 (HB.out _ (HV1.out _ HA2.out.1)))
  obtain ⟨e0, e1, e2, e3, e4, e5⟩ := HCH.out W2 (Below.refl _ _)
  clear HTR m3 hl3 ha3 hb2
  go_wp2_with fail
  try rw [hg2]
  try rw [hW2]
  clear hW2 hg2
  refine HTR2.out.mono ?_
  rintro e w4 ⟨⟨v, vr6, vn6, hcs, rfl, ho1, ho2⟩ | ⟨hcs, rfl⟩, hb4⟩
  · -- trusted already
    obtain ⟨tt, xp, xq⟩ := v
    have HX0 : Hid ((UE, UR) = ((0 : Int), if ((tt != tm) || (!sameB xp rt || !sameB xq nx)) = true then setL (kCli id) (clB ⟨kc, kl, kp, true⟩) R else R)) := Lib.hid (by
      rw [HU.out]
      rw [hcs])
    have HX := Lib.hid (Prod.mk.inj HX0.out)
    clear HU HX0
    dsimp only at ho1 ho2 ⊢
    have hr1 := ho1.rd
    have hn1 := ho2.rd
    obtain ⟨Ap, cp, rfl⟩ := hr1.form
    obtain ⟨Aq, cq, rfl⟩ := hn1.form
    have m5 := heap_alloc_new w4 (.cells #[.int .u64 (tt : Int), .slice Ap xp.length cp, .slice Aq xq.length cq] 59)
    have ha5 := hb4.alloc hb4.size (.cells #[.int .u64 (tt : Int), .slice Ap xp.length cp, .slice Aq xq.length cq] 59)
    have hra := (Below.refl w4.heap.size w4).alloc (Nat.le_refl _) (.cells #[.int .u64 (tt : Int), .slice Ap xp.length cp, .slice Aq xq.length cq] 59)
    have hr2 := hr1.up (Nat.le_refl _) hra
    have hn2 := hn1.up (Nat.le_refl _) hra
    have HU5 := Lib.hid ha5
    have hq5 := HB.out _ (HV1.out _ (HV2.out _ ha5))
    have hrd5 := HRD.out (w4.alloc (.cells #[.int .u64 (tt : Int), .slice Ap xp.length cp, .slice Aq xq.length cq] 59)) (hq5)
    have hrr := hrd5.r
    have hnn := hrd5.n
    dsimp only at hrr hnn
    have HE1 := Lib.hid (equal_any _ _ _ _ _ hr2 hrr)
    have HE2 := Lib.hid (equal_any _ _ _ _ _ hn2 hnn)
    have q0 := blk_cell m5 0
    have q1 := blk_cell m5 1
    have q2 := blk_cell m5 2
    clear c0 c1 c2 c3 c4 c5 c6 c7 c8 c9
    clear e0 e1 e2 e3 e4 e5
    clear HTR2 hcs ho1 ho2 hr1 hn1 hra hr2 hn2 hrd5 hrr hnn m5 hb4 ha5 HC
    obtain ⟨e0, e1, e2, e3, e4, e5⟩ := HCH.out _ HU5.out
    obtain ⟨d0, d1, d2, d3⟩ := HCL.out _ (HV2.out _ HU5.out)
    generalize hW5 : w4.alloc (.cells #[.int .u64 (tt : Int), .slice Ap xp.length cp, .slice Aq xq.length cq] 59) = W5 at *
    generalize hg5 : w4.heap.size = g5 at *
    have HFR := Lib.hid (clfreeze_any (HUP.out W5 (hq5)) (show y.n + k < maxLen by have := HNN.out; omega) id HID.out ⟨kc, kl, kp, kf⟩ HOK.out)
    unfold ClV.val at HFR
    rw [← HBB.out] at HFR
    dsimp only at HFR
    have HQ5 := Lib.hid hq5
    generalize sameB xp rt = s1 at *
    generalize sameB xq nx = s2 at *
    generalize xp.length = np at *
    generalize xq.length = nq at *
    generalize rt.length = nr at *
    generalize nx.length = nn at *
    clear hq5
    have hdone : ∀ (v : Bool), v = false → At W y l (if v = true then setL (kCli id) (clB ⟨kc, kl, kp, true⟩) R else R) (k + 2) W5 := fun v hv => by
      rw [hv, if_neg (by simp)]
      exact (HUP.out W5 (HQ5.out)).more (by omega)
    have HDN := Lib.hid hdone
    have HFN := Lib.hid (fun (Z : World) (v : Bool) (hv : v = true) (hz : At W y l (setL (kCli id) (clB ⟨kc, kl, kp, true⟩) R) (k + 1) Z) => (show At W y l (if v = true then setL (kCli id) (clB ⟨kc, kl, kp, true⟩) R else R) (k + 2) Z by rw [if_pos hv]; exact hz.more (by omega)))
    clear hdone
    by_cases ht1 : tt = tm
    · have i1 : ((tt : Int) != (tm : Int)) = false := by simp; omega
      have j1 : (tt != tm) = false := by simpa using ht1
      rw [j1, Bool.false_or] at HX
      clear ht1 j1
      go_wp2_with fail
      try rw [hg5]
      try rw [hW5]
      clear hW5 hg5
      refine HE1.out.mono ?_
      rintro e w6 ⟨rfl, rfl⟩
      cases s1 with
      | false =>
        clear HE1 HE2
        go_wp2_with fail
        refine HFR.out.mono ?_
        rintro e w7 ⟨rfl, A7, hk7⟩
        clear e0 e1 e2 e3 e4 e5 d0 d1 d2 d3 q0 q1 q2 HFR
        go_wp2_with fail
        go_ret
        exact ⟨by rw [HX.out.1]; rfl, by rw [HX.out.2]; exact HFN.out _ _ rfl A7, (HKB.out _ HQ5.out).transX hk7⟩
      | true =>
        go_wp2_with fail
        refine HE2.out.mono ?_
        rintro e w6 ⟨rfl, rfl⟩
        cases s2 with
        | false =>
          clear HE1 HE2
          go_wp2_with fail
          refine HFR.out.mono ?_
          rintro e w7 ⟨rfl, A7, hk7⟩
          clear e0 e1 e2 e3 e4 e5 d0 d1 d2 d3 q0 q1 q2 HFR
          go_wp2_with fail
          go_ret
          exact ⟨by rw [HX.out.1]; rfl, by rw [HX.out.2]; exact HFN.out _ _ rfl A7, (HKB.out _ HQ5.out).transX hk7⟩
        | true =>
          clear HE1 HE2 HFR
          go_wp2_with fail
          go_ret
          exact ⟨by rw [HX.out.1]; rfl, by rw [HX.out.2]; exact HDN.out _ rfl, HKB.out _ HQ5.out⟩
    · have i1 : ((tt : Int) != (tm : Int)) = true := by simp; omega
      have j1 : (tt != tm) = true := by simpa using ht1
      rw [j1, Bool.true_or] at HX
      clear ht1 j1 HE1 HE2
      go_wp2_with fail
      try rw [hg5]
      try rw [hW5]
      clear hW5 hg5
      refine HFR.out.mono ?_
      rintro e w7 ⟨rfl, A7, hk7⟩
      clear e0 e1 e2 e3 e4 e5 d0 d1 d2 d3 q0 q1 q2 HFR
      go_wp2_with fail
      go_ret
      exact ⟨by rw [HX.out.1]; rfl, by rw [HX.out.2]; exact HFN.out _ _ rfl A7, (HKB.out _ HQ5.out).transX hk7⟩
  · -- news
    have HX0 : Hid ((UE, UR) = ((0 : Int), setL (kCli id) (clB ⟨kc, max kl ht, kp, kf⟩) (setL (kCons id ht) (csB ⟨tm, rt, nx⟩) R))) := Lib.hid (by
      rw [HU.out]
      rw [hcs])
    have HX := Lib.hid (Prod.mk.inj HX0.out)
    clear HU HX0
    have ha5 := hb4.alloc hb4.size (.cells #[.int .u64 0, .slice none 0 0, .slice none 0 0] 59)
    have HU5 := Lib.hid ha5
    have hq5 := HB.out _ (HV1.out _ (HV2.out _ ha5))
    clear c0 c1 c2 c3 c4 c5 c6 c7 c8 c9
    clear e0 e1 e2 e3 e4 e5
    clear HTR2 hcs hb4 ha5 HC
    obtain ⟨e0, e1, e2, e3, e4, e5⟩ := HCH.out _ HU5.out
    have hrd5 := HRD.out (w4.alloc (.cells #[.int .u64 0, .slice none 0 0, .slice none 0 0] 59)) (hq5)
    have HQ5 := Lib.hid hq5
    have hml := (HV2.out _ HU5.out).block _ (blk_lt HML.out)
    have HM5 := Lib.hid (hml.trans HML.out)
    have HTS := Lib.hid (cltrust_any (HUP.out _ hq5) (show y.n + k < maxLen by have := HNN.out; omega) id HID.out ch ht tm (.slice Ar rt.length cr) (.slice Av va.length cv) (.slice An nx.length cn) rt va nx hrd5.r hrd5.v hrd5.n HTM.out.1 HTM.out.2)
    rw [← HBB.out] at HTS
    clear hq5 hrd5 hml
    generalize setL (kCons id ht) (csB ⟨tm, rt, nx⟩) R = R2 at *
    generalize rt.length = nr at *
    generalize va.length = nv at *
    generalize nx.length = nn at *
    go_wp2_with fail
    generalize w4.alloc (.cells #[.int .u64 0, .slice none 0 0, .slice none 0 0] 59) = W5 at *
    generalize w4.heap.size = g5 at *
    refine HTS.out.mono ?_
    rintro e w6 ⟨rfl, A6, hk6⟩
    have hm6 : w6.heap[g1]? = some (.cells #[.string kc, .int .u64 (kl : Int), .int .u64 (kp : Int), .bool kf] 50 (0, 0)) := hk6.blockP HM5.out
    obtain ⟨z0, z1, z2, z3⟩ : w6.cell? ⟨g1, 0, none⟩ = some (.string kc) ∧ w6.cell? ⟨g1, 1, none⟩ = some (.int .u64 (kl : Int)) ∧ w6.cell? ⟨g1, 2, none⟩ = some (.int .u64 (kp : Int)) ∧ w6.cell? ⟨g1, 3, none⟩ = some (.bool kf) := ⟨blk_cell hm6 0, blk_cell hm6 1, blk_cell hm6 2, blk_cell hm6 3⟩
    have zf := blk_free hm6 1
    have x1 := hk6.cell e1
    have hml1 := set4P hm6 (.string kc) (.int .u64 ((max kl ht : Nat) : Int)) (.int .u64 (kp : Int)) (.bool kf)
    have hgl := blk_lt hm6
    have hmx : (max (kl : Int) (ht : Int)) = ((max kl ht : Nat) : Int) := by omega
    have hno : ∀ (j : Nat) (z : Int), (#[.string kc, .int .u64 (kl : Int), .int .u64 (kp : Int), .bool kf] : Array Value)[j]? ≠ some (.int .u8 z) := fun j z e => by
      match j, e with
      | 0, e => cases e
      | 1, e => cases e
      | 2, e => cases e
      | 3, e => cases e
      | j + 4, e => simp at e
    have HA7 := Lib.hid (A6.offB hm6 hno (fun e => by cases e) (Nat.le_trans HSW.out HA1.out.2.2) 1 (.int .u64 ((max kl ht : Nat) : Int)))
    have HPT := Lib.hid (clput_any HA7.out (show y.n + (k + 1) < maxLen by have := HNN.out; omega) id HID.out ⟨kc, max kl ht, kp, kf⟩ (by have := HOK.out.1; dsimp only at this ⊢; unfold maxLen; omega) (by have := HOK.out.2.1; have := HTM.out.1; dsimp only at *; omega) HOK.out.2.2)
    rw [← HBB.out] at HPT
    unfold ClV.val at HPT
    dsimp only at HPT
    have HK7 := Lib.hid (((HKB.out _ HQ5.out).transX hk6).setNew (g := g1) (by rw [hgg]; exact HA1.out.2.2) 1 (.int .u64 ((max kl ht : Nat) : Int)))
    clear hm6 hgl HM5 HTS A6 hk6 hml1 hno hgg
    clear e0 e1 e2 e3 e4 e5
    go_wp2_with fail
    refine HPT.out.mono ?_
    rintro e w8 ⟨rfl, A8, hk8⟩
    clear HPT z0 z1 z2 z3 zf x1 hmx
    go_wp2_with fail
    go_ret
    exact ⟨by rw [HX.out.1]; rfl, by rw [HX.out.2]; exact A8, HK7.out.transX hk8⟩
end Go.Proofs.YtmphegeiclgjbaaGreatDoor
namespace Go.Proofs.YtmphegeiclgjbaaGreatDoor
set_option maxRecDepth 100000
open Go Go.RowKit
set_option linter.unusedVariables false

def hhash (h : HdW) : List UInt8 := shaSum (formB (strBytes headWord) ++ formBs [headL ⟨h.ch, h.ht, h.tm, none, 0, none, 0, none, 0, h.rt, h.va, h.nx⟩])
theorem hhash_any (h : HdW) (w : World) (hh : h.rd w) (hc : h.ch.size ≤ maxLen) (fr : TypeId × Nat × Nat) (hk : w.heap[0]? = some (.cells kVals fr.1 fr.2)) :
    Calls Tryz.prog 103 #[.agg #[.string h.ch, .int .u64 (h.ht : Int), .int .u64 (h.tm : Int), h.vr, h.vv, h.vn]] w fun e w' => ∃ v', e = .returned v' ∧ Own w' w.heap.size v' (hhash h) ∧ Below w.heap.size w w' := by
  obtain ⟨ch, ht, tm, vr, vv, vn, rt, va, nx⟩ := h
  obtain ⟨h1, h2, h3, h4, h5⟩ := hh
  dsimp only at h1 h2 h3 h4 h5 hc ⊢
  obtain ⟨Ar, cr, rfl⟩ := h1.form
  obtain ⟨Av, cv, rfl⟩ := h2.form
  obtain ⟨An, cn, rfl⟩ := h3.form
  exact hashOf_any ⟨ch, ht, tm, Ar, cr, Av, cv, An, cn, rt, va, nx⟩ w ⟨hc, h4, h5, h1, h2, h3⟩ fr hk
def misM (R : List Pr) (id : ByteArray) (u v : NwW) (now : Nat) : Int × List Pr :=
  if aliveE R id = 0 then
    (if u.h.ht = v.h.ht then
      (if sameB (hhash u.h) (hhash v.h) = true then (2, R)
      else if wrongE R id (aliveV R id) u now = 0 then
        (if wrongE R id (aliveV R id) v now = 0 then (0, setL (kCli id) (clB ⟨(aliveV R id).ch, (aliveV R id).la, (aliveV R id).pe, true⟩) R)
        else (wrongE R id (aliveV R id) v now, R))
      else (wrongE R id (aliveV R id) u now, R))
    else (104, R))
  else (aliveE R id, R)
set_option maxHeartbeats 32000000 in
theorem clmis_any {W w : World} {y : Lyr} {l : List Lyr} {R : List Pr} {k : Nat} (h : At W y l R k w) (hn : y.n + k + 3 ≤ maxLen) (id : ByteArray) (hid : id.size ≤ 100000000) (u v : NwW) (hu : u.rd w) (hv : v.rd w) (h_u : u.h.ch.size ≤ maxLen) (h_v : v.h.ch.size ≤ maxLen) (now : Nat) (h_now : now < 18446744073709551616)
    (fr : TypeId × Nat × Nat) (hk : w.heap[0]? = some (.cells kVals fr.1 fr.2)) :
    Calls Tryz.prog 55 #[.pointer (some ⟨y.b, 0, none⟩), .string id, u.val, v.val, .int .u64 (now : Int)] w fun e w' => e = .returned (.int .i64 (misM R id u v now).1) ∧ At W y l (misM R id u v now).2 (k + 2) w' ∧ Kept w w' := by
  have HAL := Lib.hid (fun (Z : World) (hz : Below w.heap.size w Z) => alive_any (h.up hz) id hid)
  have HW1 := Lib.hid (fun (Z : World) (hz : Below w.heap.size w Z) => clwrong_any (h.up hz) id hid (aliveV R id) u (hu.keptM (Kept.of_belowX hz)) now h_now fr ((hz.block _ (blk_lt hk)).trans hk))
  have HW2 := Lib.hid (fun (Z : World) (hz : Below w.heap.size w Z) => clwrong_any (h.up hz) id hid (aliveV R id) v (hv.keptM (Kept.of_belowX hz)) now h_now fr ((hz.block _ (blk_lt hk)).trans hk))
  have HH1 := Lib.hid (fun (Z : World) (hz : Below w.heap.size w Z) => hhash_any u.h Z (hu.h.keptM (Kept.of_belowX hz)) h_u fr ((hz.block _ (blk_lt hk)).trans hk))
  have HH2 := Lib.hid (fun (Z : World) (hz : Below w.heap.size w Z) => hhash_any v.h Z (hv.h.keptM (Kept.of_belowX hz)) h_v fr ((hz.block _ (blk_lt hk)).trans hk))
  have HUP := Lib.hid (fun (Z : World) (hz : Below w.heap.size w Z) => (h.up hz))
  have HOK := Lib.hid (aliveV_ok R id)
  have HID := Lib.hid hid
  have HNN := Lib.hid hn
  obtain ⟨⟨UE, UR⟩, hU⟩ : ∃ p, p = misM R id u v now := ⟨_, rfl⟩
  rw [← hU]
  have HU := Lib.hid hU
  clear hU
  unfold misM at HU
  unfold NwW.val ClV.val at *
  obtain ⟨⟨ch1, ht1, tm1, vr1, vv1, vn1, rt1, va1, nx1⟩, vs1, s1, vt1, t1, vo1, o1, ua1⟩ := u
  obtain ⟨⟨hr0, hv0, hn0, -, -⟩, hs0, ht0, ho0, -, -, -⟩ := hu
  dsimp only at hr0 hv0 hn0 hs0 ht0 ho0
  obtain ⟨Ar1, cr1, rfl⟩ := hr0.form
  obtain ⟨Av1, cv1, rfl⟩ := hv0.form
  obtain ⟨An1, cn1, rfl⟩ := hn0.form
  obtain ⟨As1, cs1, rfl⟩ := hs0.form
  obtain ⟨At1, ct1, rfl⟩ := ht0.form
  obtain ⟨Ao1, co1, rfl⟩ := ho0.form
  clear hr0 hv0 hn0 hs0 ht0 ho0
  obtain ⟨⟨ch2, ht2, tm2, vr2, vv2, vn2, rt2, va2, nx2⟩, vs2, s2, vt2, t2, vo2, o2, ua2⟩ := v
  obtain ⟨⟨hr0, hv0, hn0, -, -⟩, hs0, ht0, ho0, -, -, -⟩ := hv
  dsimp only at hr0 hv0 hn0 hs0 ht0 ho0
  obtain ⟨Ar2, cr2, rfl⟩ := hr0.form
  obtain ⟨Av2, cv2, rfl⟩ := hv0.form
  obtain ⟨An2, cn2, rfl⟩ := hn0.form
  obtain ⟨As2, cs2, rfl⟩ := hs0.form
  obtain ⟨At2, ct2, rfl⟩ := ht0.form
  obtain ⟨Ao2, co2, rfl⟩ := ho0.form
  clear hr0 hv0 hn0 hs0 ht0 ho0
  dsimp only at HAL HW1 HW2 HH1 HH2 HU ⊢
  have HEQ : Hid (∀ (Z : World) (a b : Value), Rd Z Z.heap.size a (hhash ⟨ch1, ht1, tm1, .slice Ar1 rt1.length cr1, .slice Av1 va1.length cv1, .slice An1 nx1.length cn1, rt1, va1, nx1⟩) → Rd Z Z.heap.size b (hhash ⟨ch2, ht2, tm2, .slice Ar2 rt2.length cr2, .slice Av2 va2.length cv2, .slice An2 nx2.length cn2, rt2, va2, nx2⟩) → Calls Tryz.prog 67 #[a, b] Z fun e w' => e = .returned (.bool (sameB (hhash ⟨ch1, ht1, tm1, .slice Ar1 rt1.length cr1, .slice Av1 va1.length cv1, .slice An1 nx1.length cn1, rt1, va1, nx1⟩) (hhash ⟨ch2, ht2, tm2, .slice Ar2 rt2.length cr2, .slice Av2 va2.length cv2, .slice An2 nx2.length cn2, rt2, va2, nx2⟩))) ∧ Z = w') := Lib.hid fun Z a b ha hb => equal_any _ _ _ _ Z ha hb
  generalize hhash ⟨ch1, ht1, tm1, .slice Ar1 rt1.length cr1, .slice Av1 va1.length cv1, .slice An1 nx1.length cn1, rt1, va1, nx1⟩ = X1 at *
  generalize hhash ⟨ch2, ht2, tm2, .slice Ar2 rt2.length cr2, .slice Av2 va2.length cv2, .slice An2 nx2.length cn2, rt2, va2, nx2⟩ = X2 at *
  generalize sameB X1 X2 = sm at *
  generalize wrongE R id (aliveV R id) ⟨⟨ch1, _, _, _, _, _, _, _, _⟩, _, _, _, _, _, _, _⟩ now = E1 at *
  generalize wrongE R id (aliveV R id) ⟨⟨ch2, _, _, _, _, _, _, _, _⟩, _, _, _, _, _, _, _⟩ now = E2 at *
  generalize aliveE R id = AE at *
  generalize aliveV R id = V at *
  obtain ⟨kc, kl, kp, kf⟩ := V
  obtain ⟨B, hB⟩ : ∃ B : Addr, B = ⟨y.b, 0, none⟩ := ⟨_, rfl⟩
  have HBB := Lib.hid hB
  rw [← hB] at HAL HW1 HW2 ⊢
  dsimp only at HW1 HW2 HU ⊢
  clear hk hid hn hB h h_now h_u h_v
  have m0 := heap_alloc_new (w) (.cells #[.string ch1, .int .u64 (ht1 : Int), .int .u64 (tm1 : Int), .slice Ar1 rt1.length cr1, .slice Av1 va1.length cv1, .slice An1 nx1.length cn1, .slice As1 s1.length cs1, .slice At1 t1.length ct1, .slice Ao1 o1.length co1, .int .u64 (ua1 : Int)] 68)
  have ha0 := (Below.refl w.heap.size w).alloc (Nat.le_refl _) (.cells #[.string ch1, .int .u64 (ht1 : Int), .int .u64 (tm1 : Int), .slice Ar1 rt1.length cr1, .slice Av1 va1.length cv1, .slice An1 nx1.length cn1, .slice As1 s1.length cs1, .slice At1 t1.length ct1, .slice Ao1 o1.length co1, .int .u64 (ua1 : Int)] 68)
  have m1 := heap_alloc_new ((w).alloc (.cells #[.string ch1, .int .u64 (ht1 : Int), .int .u64 (tm1 : Int), .slice Ar1 rt1.length cr1, .slice Av1 va1.length cv1, .slice An1 nx1.length cn1, .slice As1 s1.length cs1, .slice At1 t1.length ct1, .slice Ao1 o1.length co1, .int .u64 (ua1 : Int)] 68)) (.cells #[.string ch2, .int .u64 (ht2 : Int), .int .u64 (tm2 : Int), .slice Ar2 rt2.length cr2, .slice Av2 va2.length cv2, .slice An2 nx2.length cn2, .slice As2 s2.length cs2, .slice At2 t2.length ct2, .slice Ao2 o2.length co2, .int .u64 (ua2 : Int)] 68)
  replace m0 := (Below.heap_alloc ((w).alloc (.cells #[.string ch1, .int .u64 (ht1 : Int), .int .u64 (tm1 : Int), .slice Ar1 rt1.length cr1, .slice Av1 va1.length cv1, .slice An1 nx1.length cn1, .slice As1 s1.length cs1, .slice At1 t1.length ct1, .slice Ao1 o1.length co1, .int .u64 (ua1 : Int)] 68)) (.cells #[.string ch2, .int .u64 (ht2 : Int), .int .u64 (tm2 : Int), .slice Ar2 rt2.length cr2, .slice Av2 va2.length cv2, .slice An2 nx2.length cn2, .slice As2 s2.length cs2, .slice At2 t2.length ct2, .slice Ao2 o2.length co2, .int .u64 (ua2 : Int)] 68) _ (blk_lt m0)).trans m0
  rw [show ((w).alloc (.cells #[.string ch1, .int .u64 (ht1 : Int), .int .u64 (tm1 : Int), .slice Ar1 rt1.length cr1, .slice Av1 va1.length cv1, .slice An1 nx1.length cn1, .slice As1 s1.length cs1, .slice At1 t1.length ct1, .slice Ao1 o1.length co1, .int .u64 (ua1 : Int)] 68)).heap.size = w.heap.size + 1 by simp] at m1
  have ha1 := ha0.alloc ha0.size (.cells #[.string ch2, .int .u64 (ht2 : Int), .int .u64 (tm2 : Int), .slice Ar2 rt2.length cr2, .slice Av2 va2.length cv2, .slice An2 nx2.length cn2, .slice As2 s2.length cs2, .slice At2 t2.length ct2, .slice Ao2 o2.length co2, .int .u64 (ua2 : Int)] 68)
  generalize hW0 : ((w).alloc (.cells #[.string ch1, .int .u64 (ht1 : Int), .int .u64 (tm1 : Int), .slice Ar1 rt1.length cr1, .slice Av1 va1.length cv1, .slice An1 nx1.length cn1, .slice As1 s1.length cs1, .slice At1 t1.length ct1, .slice Ao1 o1.length co1, .int .u64 (ua1 : Int)] 68)).alloc (.cells #[.string ch2, .int .u64 (ht2 : Int), .int .u64 (tm2 : Int), .slice Ar2 rt2.length cr2, .slice Av2 va2.length cv2, .slice An2 nx2.length cn2, .slice As2 s2.length cs2, .slice At2 t2.length ct2, .slice Ao2 o2.length co2, .int .u64 (ua2 : Int)] 68) = W0 at *
  generalize hgg : w.heap.size = g0 at *
  have hl0 := blk_lt m0
  have hl1 := blk_lt m1
  have HC : Hid (∀ Z, Below W0.heap.size W0 Z → Z.cell? ⟨g0, 0, none⟩ = some (.string ch1) ∧ Z.cell? ⟨g0, 1, none⟩ = some (.int .u64 (ht1 : Int)) ∧ Z.cell? ⟨g0, 2, none⟩ = some (.int .u64 (tm1 : Int)) ∧ Z.cell? ⟨g0, 3, none⟩ = some (.slice Ar1 rt1.length cr1) ∧ Z.cell? ⟨g0, 4, none⟩ = some (.slice Av1 va1.length cv1) ∧ Z.cell? ⟨g0, 5, none⟩ = some (.slice An1 nx1.length cn1) ∧ Z.cell? ⟨g0, 6, none⟩ = some (.slice As1 s1.length cs1) ∧ Z.cell? ⟨g0, 7, none⟩ = some (.slice At1 t1.length ct1) ∧ Z.cell? ⟨g0, 8, none⟩ = some (.slice Ao1 o1.length co1) ∧ Z.cell? ⟨g0, 9, none⟩ = some (.int .u64 (ua1 : Int)) ∧ Z.cell? ⟨g0 + 1, 0, none⟩ = some (.string ch2) ∧ Z.cell? ⟨g0 + 1, 1, none⟩ = some (.int .u64 (ht2 : Int)) ∧ Z.cell? ⟨g0 + 1, 2, none⟩ = some (.int .u64 (tm2 : Int)) ∧ Z.cell? ⟨g0 + 1, 3, none⟩ = some (.slice Ar2 rt2.length cr2) ∧ Z.cell? ⟨g0 + 1, 4, none⟩ = some (.slice Av2 va2.length cv2) ∧ Z.cell? ⟨g0 + 1, 5, none⟩ = some (.slice An2 nx2.length cn2) ∧ Z.cell? ⟨g0 + 1, 6, none⟩ = some (.slice As2 s2.length cs2) ∧ Z.cell? ⟨g0 + 1, 7, none⟩ = some (.slice At2 t2.length ct2) ∧ Z.cell? ⟨g0 + 1, 8, none⟩ = some (.slice Ao2 o2.length co2) ∧ Z.cell? ⟨g0 + 1, 9, none⟩ = some (.int .u64 (ua2 : Int))) := Lib.hid fun Z hz => ⟨blk_cell ((hz.block _ hl0).trans m0) 0, blk_cell ((hz.block _ hl0).trans m0) 1, blk_cell ((hz.block _ hl0).trans m0) 2, blk_cell ((hz.block _ hl0).trans m0) 3, blk_cell ((hz.block _ hl0).trans m0) 4, blk_cell ((hz.block _ hl0).trans m0) 5, blk_cell ((hz.block _ hl0).trans m0) 6, blk_cell ((hz.block _ hl0).trans m0) 7, blk_cell ((hz.block _ hl0).trans m0) 8, blk_cell ((hz.block _ hl0).trans m0) 9, blk_cell ((hz.block _ hl1).trans m1) 0, blk_cell ((hz.block _ hl1).trans m1) 1, blk_cell ((hz.block _ hl1).trans m1) 2, blk_cell ((hz.block _ hl1).trans m1) 3, blk_cell ((hz.block _ hl1).trans m1) 4, blk_cell ((hz.block _ hl1).trans m1) 5, blk_cell ((hz.block _ hl1).trans m1) 6, blk_cell ((hz.block _ hl1).trans m1) 7, blk_cell ((hz.block _ hl1).trans m1) 8, blk_cell ((hz.block _ hl1).trans m1) 9⟩
  have HA : Hid (Below g0 w W0 ∧ g0 ≤ W0.heap.size) := Lib.hid ⟨ha1, by rw [← hgg]; exact ha1.size⟩
  have HB : Hid (∀ Z, Below W0.heap.size W0 Z → Below g0 w Z) := Lib.hid fun Z hz => HA.out.1.trans (hz.mono HA.out.2)
  have HKB : Hid (∀ Z, Below g0 w Z → Kept w Z) := Lib.hid fun Z hz => Kept.of_belowX (by rw [hgg]; exact hz)
  clear m0 m1 ha0 ha1 hl0 hl1
  go_enter Tryz.func55, Tryz.ntmps55
  go_wp2_with fail
  try rw [hgg]
  try rw [hW0]
  clear hW0
  refine (HAL.out _ HA.out.1).mono ?_
  rintro e w1 ⟨rfl, hb1⟩
  have m1 := heap_alloc_new w1 (.cells #[.string kc, .int .u64 (kl : Int), .int .u64 (kp : Int), .bool kf] 50)
  have ha1 := hb1.alloc hb1.size (.cells #[.string kc, .int .u64 (kl : Int), .int .u64 (kp : Int), .bool kf] 50)
  clear HAL
  by_cases hae : AE = 0
  rotate_left
  · have HX := Lib.hid (Prod.mk.inj (HU.out.trans (if_neg hae)))
    have hne : (AE != 0) = true := by simpa using hae
    have hfin := HB.out _ ha1
    clear hae m1
    go_wp2_with fail
    go_ret
    exact ⟨by rw [HX.out.1]; rfl, by rw [HX.out.2]; exact (HUP.out _ hfin).more (by omega), HKB.out _ hfin⟩
  have HUn := Lib.hid (HU.out.trans (if_pos hae))
  clear HU
  have HU := HUn
  clear HUn
  subst hae
  have HCX : Hid (∀ Z, Below (w1.alloc (.cells #[.string kc, .int .u64 (kl : Int), .int .u64 (kp : Int), .bool kf] 50)).heap.size (w1.alloc (.cells #[.string kc, .int .u64 (kl : Int), .int .u64 (kp : Int), .bool kf] 50)) Z → (Z.cell? ⟨g0, 0, none⟩ = some (.string ch1) ∧ Z.cell? ⟨g0, 1, none⟩ = some (.int .u64 (ht1 : Int)) ∧ Z.cell? ⟨g0, 2, none⟩ = some (.int .u64 (tm1 : Int)) ∧ Z.cell? ⟨g0, 3, none⟩ = some (.slice Ar1 rt1.length cr1) ∧ Z.cell? ⟨g0, 4, none⟩ = some (.slice Av1 va1.length cv1) ∧ Z.cell? ⟨g0, 5, none⟩ = some (.slice An1 nx1.length cn1) ∧ Z.cell? ⟨g0, 6, none⟩ = some (.slice As1 s1.length cs1) ∧ Z.cell? ⟨g0, 7, none⟩ = some (.slice At1 t1.length ct1) ∧ Z.cell? ⟨g0, 8, none⟩ = some (.slice Ao1 o1.length co1) ∧ Z.cell? ⟨g0, 9, none⟩ = some (.int .u64 (ua1 : Int)) ∧ Z.cell? ⟨g0 + 1, 0, none⟩ = some (.string ch2) ∧ Z.cell? ⟨g0 + 1, 1, none⟩ = some (.int .u64 (ht2 : Int)) ∧ Z.cell? ⟨g0 + 1, 2, none⟩ = some (.int .u64 (tm2 : Int)) ∧ Z.cell? ⟨g0 + 1, 3, none⟩ = some (.slice Ar2 rt2.length cr2) ∧ Z.cell? ⟨g0 + 1, 4, none⟩ = some (.slice Av2 va2.length cv2) ∧ Z.cell? ⟨g0 + 1, 5, none⟩ = some (.slice An2 nx2.length cn2) ∧ Z.cell? ⟨g0 + 1, 6, none⟩ = some (.slice As2 s2.length cs2) ∧ Z.cell? ⟨g0 + 1, 7, none⟩ = some (.slice At2 t2.length ct2) ∧ Z.cell? ⟨g0 + 1, 8, none⟩ = some (.slice Ao2 o2.length co2) ∧ Z.cell? ⟨g0 + 1, 9, none⟩ = some (.int .u64 (ua2 : Int))) ∧ (Z.cell? ⟨w1.heap.size, 0, none⟩ = some (.string kc) ∧ Z.cell? ⟨w1.heap.size, 1, none⟩ = some (.int .u64 (kl : Int)) ∧ Z.cell? ⟨w1.heap.size, 2, none⟩ = some (.int .u64 (kp : Int)) ∧ Z.cell? ⟨w1.heap.size, 3, none⟩ = some (.bool kf))) := Lib.hid fun Z hz => ⟨HC.out Z (ha1.trans (hz.mono ha1.size)), blk_cell ((hz.block _ (blk_lt m1)).trans m1) 0, blk_cell ((hz.block _ (blk_lt m1)).trans m1) 1, blk_cell ((hz.block _ (blk_lt m1)).trans m1) 2, blk_cell ((hz.block _ (blk_lt m1)).trans m1) 3⟩
  have HU1 : Hid (∀ Z, Below (w1.alloc (.cells #[.string kc, .int .u64 (kl : Int), .int .u64 (kp : Int), .bool kf] 50)).heap.size (w1.alloc (.cells #[.string kc, .int .u64 (kl : Int), .int .u64 (kp : Int), .bool kf] 50)) Z → Below g0 w Z) := Lib.hid fun Z hz => HB.out _ (ha1.trans (hz.mono ha1.size))
  clear m1 ha1 hb1 HC HA HB
  generalize hW1 : w1.alloc (.cells #[.string kc, .int .u64 (kl : Int), .int .u64 (kp : Int), .bool kf] 50) = W1 at *
  generalize hg1 : w1.heap.size = g1 at *
  obtain ⟨⟨c0, c1, c2, c3, c4, c5, c6, c7, c8, c9, c10, c11, c12, c13, c14, c15, c16, c17, c18, c19⟩, ⟨d0, d1, d2, d3⟩⟩ := HCX.out W1 (Below.refl _ _)
  by_cases hht : ht1 = ht2
  rotate_left
  · have HX := Lib.hid (Prod.mk.inj (HU.out.trans (if_neg hht)))
    have i1 : ((ht1 : Int) != (ht2 : Int)) = true := by simp; omega
    have hfin := HU1.out _ (Below.refl _ _)
    clear hht HEQ
    go_wp2_with fail
    try rw [hg1]
    try rw [hW1]
    go_ret
    exact ⟨by rw [HX.out.1]; rfl, by rw [HX.out.2]; exact (HUP.out _ hfin).more (by omega), HKB.out _ hfin⟩
  have HUn := Lib.hid (HU.out.trans (if_pos hht))
  clear HU
  have HU := HUn
  clear HUn
  have i1 : ((ht1 : Int) != (ht2 : Int)) = false := by simp; omega
  clear hht
  have hbd : Below W1.heap.size W1 W1.drew := (Below.refl _ _).drew
  go_wp2_with fail
  try rw [hg1]
  try rw [hW1]
  clear hW1 hg1 c0 c1 c2 c3 c4 c5 c6 c7 c8 c9 c10 c11 c12 c13 c14 c15 c16 c17 c18 c19 d0 d1 d2 d3
  refine wp_region_held_drew (S := BelS W1.drew) (by kernel_rfl) (BelS.refl _) (fun hS0 => ?_)
  refine wpAnyH_take (i := 0) (oi := _) (v := ?_) rfl (by kernel_rfl) (by kernel_rfl) (by kernel_rfl) (fun _ _ _ h => h) (Or.inl ⟨by rfl, ?_⟩) hS0 ?_
  rotate_left
  · intro W hSW
    try go_simp
    all_goals with_reducible rfl
  simp only [Act.put, List.setIfInBounds_toArray, List.set_cons_zero, List.set_cons_succ, List.getElem_toArray, List.getElem_cons_zero, List.getElem_cons_succ]
  refine wpAnyH_take (i := 1) (oi := _) (v := ?_) rfl (by kernel_rfl) (by kernel_rfl) (by kernel_rfl) (fun _ _ _ h => h) (Or.inl ⟨by rfl, ?_⟩) hS0 ?_
  rotate_left
  · intro W hSW
    obtain ⟨⟨c0, c1, c2, c3, c4, c5, c6, c7, c8, c9, c10, c11, c12, c13, c14, c15, c16, c17, c18, c19⟩, ⟨d0, d1, d2, d3⟩⟩ := HCX.out W (below_chain hbd hbd.size hSW)
    try go_simp
    all_goals with_reducible rfl
  simp only [Act.put, List.setIfInBounds_toArray, List.set_cons_zero, List.set_cons_succ, List.getElem_toArray, List.getElem_cons_zero, List.getElem_cons_succ]
  refine wpAnyH_take (i := 3) (oi := _) (v := ?_) rfl (by kernel_rfl) (by kernel_rfl) (by kernel_rfl) (fun _ _ _ h => h) (Or.inl ⟨by rfl, ?_⟩) hS0 ?_
  rotate_left
  · intro W hSW
    try go_simp
    all_goals with_reducible rfl
  simp only [Act.put, List.setIfInBounds_toArray, List.set_cons_zero, List.set_cons_succ, List.getElem_toArray, List.getElem_cons_zero, List.getElem_cons_succ]
  refine wpAnyH_take (i := 4) (oi := _) (v := ?_) rfl (by kernel_rfl) (by kernel_rfl) (by kernel_rfl) (fun _ _ _ h => h) (Or.inl ⟨by rfl, ?_⟩) hS0 ?_
  rotate_left
  · intro W hSW
    obtain ⟨⟨c0, c1, c2, c3, c4, c5, c6, c7, c8, c9, c10, c11, c12, c13, c14, c15, c16, c17, c18, c19⟩, ⟨d0, d1, d2, d3⟩⟩ := HCX.out W (below_chain hbd hbd.size hSW)
    try go_simp
    all_goals with_reducible rfl
  simp only [Act.put, List.setIfInBounds_toArray, List.set_cons_zero, List.set_cons_succ, List.getElem_toArray, List.getElem_cons_zero, List.getElem_cons_succ]
  refine wpAnyH_ready (rs := [2]) (by kernel_rfl) (by simp) (AllReadyH.cons rfl (fun K hK => ?_) AllReadyH.nil)
  have DA := Lib.hid (HH1.out W1.drew (HU1.out W1.drew hbd))
  go_simp
  go_wp2_with ((go_at_call 103; (with_reducible refine DA.out.mono ?_); rintro e wA ⟨vA, rfl, hoA, hbA⟩))
  have hqA := below_chain hbd hbd.size hbA
  refine hK.out _ _ hbA (fun _ => ?_)
  clear hK K DA
  refine wpAnyH_stronger (S' := BelS wA) (fun W h => below_chain hbA hbA.size h) _ _ _ _ ?_
  have hSA : BelS wA wA := BelS.refl wA
  refine wpAnyH_ready (rs := [5]) (by kernel_rfl) (by simp) (AllReadyH.cons rfl (fun K hK => ?_) AllReadyH.nil)
  have DB := Lib.hid (HH2.out wA (HU1.out wA hqA))
  go_simp
  go_wp2_with ((go_at_call 103; (with_reducible refine DB.out.mono ?_); rintro e wB ⟨vB, rfl, hoB, hbB⟩))
  have hqB := below_chain hqA hqA.size hbB
  refine hK.out _ _ hbB (fun _ => ?_)
  clear hK K DB
  refine wpAnyH_stronger (S' := BelS wB) (fun W h => below_chain hbB hbB.size h) _ _ _ _ ?_
  have hSB : BelS wB wB := BelS.refl wB
  refine wpAnyH_ready (rs := [6]) (by kernel_rfl) (by simp) (AllReadyH.cons rfl (fun K hK => ?_) AllReadyH.nil)
  have DC := Lib.hid (HEQ.out wB _ _ (hoA.rd.up (Nat.le_refl _) hbB) hoB.rd)
  go_simp
  go_wp2_with ((go_at_call 67; (with_reducible refine DC.out.mono ?_); rintro e wC ⟨rfl, hbC0⟩))
  have hbC : Below wB.heap.size wB wC := by rw [← hbC0]; exact Below.refl _ _
  have hqC := below_chain hqB hqB.size hbC
  refine hK.out _ _ hbC (fun _ => ?_)
  clear hK K DC
  refine wpAnyH_stronger (S' := BelS wC) (fun W h => below_chain hbC hbC.size h) _ _ _ _ ?_
  have hSC : BelS wC wC := BelS.refl wC
  refine wpAnyH_done (by kernel_rfl) ?_ _
  have hq5 := hqC
  clear HEQ HH1 HH2 hoA hoB hbA hbB hqA hqB hSA hSB hS0 hbd hbC0 hSC hqC hbC i1
  have HQ5 := Lib.hid hq5
  have hfin := HU1.out _ hq5
  cases sm with
  | true =>
    have HX := Lib.hid (Prod.mk.inj (HU.out.trans (if_pos rfl)))
    clear hq5
    go_wp2_with fail
    go_ret
    exact ⟨by rw [HX.out.1]; rfl, by rw [HX.out.2]; exact (HUP.out _ hfin).more (by omega), HKB.out _ hfin⟩
  | false =>
  have HUn := Lib.hid (HU.out.trans (if_neg (by simp)))
  clear HU
  have HU := HUn
  clear HUn
  have HW15 := Lib.hid (HW1.out _ (hfin))
  obtain ⟨⟨c0, c1, c2, c3, c4, c5, c6, c7, c8, c9, c10, c11, c12, c13, c14, c15, c16, c17, c18, c19⟩, ⟨d0, d1, d2, d3⟩⟩ := HCX.out _ hq5
  clear hq5 hfin HW1
  go_wp2_with fail
  refine HW15.out.mono ?_
  rintro e w6 ⟨rfl, hb6⟩
  have hq6 := below_chain HQ5.out HQ5.out.size hb6
  have HQ6 := Lib.hid hq6
  have hfin := HU1.out _ hq6
  clear c0 c1 c2 c3 c4 c5 c6 c7 c8 c9 c10 c11 c12 c13 c14 c15 c16 c17 c18 c19 d0 d1 d2 d3 HW15 hb6 HQ5
  by_cases he1 : E1 = 0
  rotate_left
  · have HX := Lib.hid (Prod.mk.inj (HU.out.trans (if_neg he1)))
    have hne : (E1 != 0) = true := by simpa using he1
    clear he1 hq6
    go_wp2_with fail
    go_ret
    exact ⟨by rw [HX.out.1]; rfl, by rw [HX.out.2]; exact (HUP.out _ hfin).more (by omega), HKB.out _ hfin⟩
  have HUn := Lib.hid (HU.out.trans (if_pos he1))
  clear HU
  have HU := HUn
  clear HUn
  subst he1
  obtain ⟨⟨c0, c1, c2, c3, c4, c5, c6, c7, c8, c9, c10, c11, c12, c13, c14, c15, c16, c17, c18, c19⟩, ⟨d0, d1, d2, d3⟩⟩ := HCX.out _ hq6
  have HW26 := Lib.hid (HW2.out _ (hfin))
  clear hq6 hfin HW2
  go_wp2_with fail
  refine HW26.out.mono ?_
  rintro e w7 ⟨rfl, hb7⟩
  have hq7 := below_chain HQ6.out HQ6.out.size hb7
  have hfin := HU1.out _ hq7
  clear c0 c1 c2 c3 c4 c5 c6 c7 c8 c9 c10 c11 c12 c13 c14 c15 c16 c17 c18 c19 d0 d1 d2 d3 HW26 hb7 HQ6
  by_cases he2 : E2 = 0
  rotate_left
  · have HX := Lib.hid (Prod.mk.inj (HU.out.trans (if_neg he2)))
    have hne : (E2 != 0) = true := by simpa using he2
    clear he2 hq7
    go_wp2_with fail
    go_ret
    exact ⟨by rw [HX.out.1]; rfl, by rw [HX.out.2]; exact (HUP.out _ hfin).more (by omega), HKB.out _ hfin⟩
  have HUn := Lib.hid (HU.out.trans (if_pos he2))
  clear HU
  have HU := HUn
  clear HUn
  subst he2
  obtain ⟨⟨c0, c1, c2, c3, c4, c5, c6, c7, c8, c9, c10, c11, c12, c13, c14, c15, c16, c17, c18, c19⟩, ⟨d0, d1, d2, d3⟩⟩ := HCX.out _ hq7
  have HFR := Lib.hid (clfreeze_any (HUP.out _ (hfin)) (show y.n + k < maxLen by have := HNN.out; omega) id HID.out ⟨kc, kl, kp, kf⟩ HOK.out)
  unfold ClV.val at HFR
  rw [← HBB.out] at HFR
  dsimp only at HFR
  have HKF := Lib.hid (HKB.out _ hfin)
  clear hq7 hfin
  go_wp2_with fail
  refine HFR.out.mono ?_
  rintro e w8 ⟨rfl, A8, hk8⟩
  clear c0 c1 c2 c3 c4 c5 c6 c7 c8 c9 c10 c11 c12 c13 c14 c15 c16 c17 c18 c19 d0 d1 d2 d3
  go_wp2_with fail
  go_ret
  exact ⟨by rw [(Prod.mk.inj HU.out).1]; rfl, by rw [(Prod.mk.inj HU.out).2]; exact A8.more (by omega), HKF.out.transX hk8⟩
end Go.Proofs.YtmphegeiclgjbaaGreatDoor
