
/- The program's orders out of bytes. -/
import Derived.Test.YtlkbjhhbpmmamaaGreatDoorIcM0
import Derived.Test.YtlkbjhhbpmmamaaGreatDoorLimbN0
namespace Go.Proofs.YtlkbjhhbpmmamaaGreatDoor
set_option maxRecDepth 100000
open Go Go.RowKit
set_option linter.unusedVariables false

theorem rC_range (l : List UInt8) : 0 ≤ (rC 8 l 0).1 ∧ (rC 8 l 0).1 ≤ 8 := by
  unfold rC
  rw [if_neg (by simp)]
  split
  · exact ⟨by simp, by simp⟩
  · split
    · exact ⟨by simp, by simp⟩
    · next h => dsimp only; omega
structure QZ (w : World) (g gb : Nat) (lv : Value) (acc : List OrdV) (cd : Array Value) (l : List UInt8) (f : Int) (W : World) : Prop where
  below : Below w.heap.size w W
  loc : W.heap[gb]? = some (.cells cd 33 (0, 0))
  rd : Rdr W w.heap.size g l f
  own : OwnOr W (g + 1) lv acc
  o1 : g < gb
  o2 : ∀ k, lv.ownBlock = some k → k < gb
section
variable {w W W' : World} {g gb : Nat} {lv : Value} {acc : List OrdV} {cd : Array Value} {l l' : List UInt8} {f f' : Int}
theorem QZ.call (h : QZ w g gb lv acc cd l f W) (hg : W.grownBy W' (some g)) (hr : Rdr W' w.heap.size g l' f') : QZ w g gb lv acc cd l' f' W' :=
  ⟨h.below.grown hg h.below.size (fun k e => by injection e with e; have := h.rd.from_; omega), (hg.block _ (blk_lt h.loc) (fun e => by injection e with e; have := h.o1; omega)).trans h.loc, hr,
    h.own.grown hg (by
      by_cases e : lv.ownBlock = none
      · exact .inl e
      · exact .inr fun e2 => by have := (h.own.lt _ e2).1; omega), h.o1, h.o2⟩
theorem QZ.up (h : QZ w g gb lv acc cd l f W) (hb : Below W.heap.size W W') : QZ w g gb lv acc cd l f W' :=
  ⟨below_chain h.below h.below.size hb, (hb.block _ (blk_lt h.loc)).trans h.loc, h.rd.below hb, h.own.below hb, h.o1, h.o2⟩
theorem QZ.set (h : QZ w g gb lv acc cd l f W) (i : Nat) (u : Value) : QZ w g gb lv acc (cd.setIfInBounds i u) l f (W.setCell ⟨gb, i, none⟩ u) :=
  ⟨h.below.setCell (p := ⟨gb, i, none⟩) (by have := h.o1; have := h.rd.from_; show w.heap.size ≤ gb; omega) u, blk_set h.loc i u, h.rd.grown (grown_setR W gb i u) (Or.inr h.o1),
    h.own.grown (grown_setR W gb i u) (by
      by_cases e : lv.ownBlock = none
      · exact .inl e
      · exact .inr fun e2 => by have := h.o2 _ e2; omega), h.o1, h.o2⟩
end
set_option maxHeartbeats 8000000 in
theorem icparse_any (w : World) (v : Value) (b : List UInt8) (hr : Rd w w.heap.size v b) (hl : b.length ≤ 140737488355320) :
    Calls Tryz.prog 9 #[v] w fun e w' => Below w.heap.size w w' ∧
      ((ordsR b).bad = 0 ∧ rEnd (ordsR b).rest (ordsR b).fault = 0 ∧ (∃ v', e = .returned (.tuple #[v', .int .i64 0]) ∧ OwnOr w' w.heap.size v' (ordsR b).acc) ∨
       ¬ ((ordsR b).bad = 0 ∧ rEnd (ordsR b).rest (ordsR b).fault = 0) ∧ e = .returned (.tuple #[.slice none 0 0, .int .i64 140])) := by
  obtain ⟨i0, hi, hz, hsz, hby⟩ := info_parts Tryz.infoOrd
  have HO := Lib.hid (open_rd v b w hr hl)
  obtain ⟨A0, c0, rfl⟩ := hr.form
  clear hr hl
  obtain ⟨q1, q2⟩ := rC_range b
  obtain ⟨N, hN⟩ : ∃ N : Nat, (rC 8 b 0).1 = (N : Int) := ⟨_, (Int.toNat_of_nonneg q1).symm⟩
  have hN8 : N ≤ 8 := by omega
  obtain ⟨S, hS⟩ : ∃ S, S = OSt.mk [] (rC 8 b 0).2.1 (rC 8 b 0).2.2 0 := ⟨_, rfl⟩
  have hR : ordsR b = S.at N := by unfold ordsR; rw [hN, hS]; rfl
  rw [hR]
  have HN := Lib.hid hN
  have HS := Lib.hid hS
  have HL := Lib.hid (show ∀ j, (S.at j).acc.length = j from fun j => by rw [OSt.at_acc, hS]; simp)
  have HST := Lib.hid (fun j k (h : (S.at j).bad ≠ 0) => OSt.bad_stays (s := S) (j := j) h k)
  clear hN hS hR q1 q2
  go_enter Tryz.func9, Tryz.ntmps9
  go_wp2_with fail
  refine HO.out.mono ?_
  rintro e w1 ⟨g, rfl, hr1, hb1⟩
  have HC := Lib.hid (rdC_any hr1 8 (by decide) (by decide))
  have hgl := hr1.lt
  rw [HN.out] at HC
  clear HO
  go_wp2_with fail
  refine HC.out.mono ?_
  rintro e w2 ⟨rfl, hr2, hg2⟩
  have hb2 : Below w.heap.size w w2 := hb1.grown hg2 hb1.size (fun k e => by injection e with e; have := hr2.from_; omega)
  have h20 : Rdr w2 w.heap.size g (S.at 0).rest (S.at 0).fault := by rw [HS.out]; exact hr2
  have h2a : (S.at 0).acc = [] := by rw [HS.out]; rfl
  have h2b : (S.at 0).bad = 0 := by rw [HS.out]; rfl
  clear HC hr1 hb1 hr2 hg2 hgl
  go_wp2_with fail
  go_loopw [5, 13] (fun lv i W => ∃ j : Nat, j ≤ N ∧ i = .int .i64 (j : Int) ∧ OwnOr W (g + 1) lv (S.at j).acc ∧ Rdr W w.heap.size g (S.at j).rest (S.at j).fault ∧ (S.at j).bad = 0 ∧ Below w.heap.size w W)
    (fun _ i _ => N - (intOf i).toNat)
  case atStart => exact ⟨0, by omega, rfl, by rw [h2a]; exact OwnOr.nil _ _, h20, h2b, hb2⟩
  case round =>
    rename World => W
    obtain ⟨j, hj, rfl, ho, hrd, hbad, hb⟩ := hrel
    clear h20 h2a h2b hb2
    by_cases hlt : j < N
    · have i1 : (0 : Int) ≤ (j : Int) := by omega
      have i2 : (j : Int) < (N : Int) := by omega
      have hlen := HL.out j
      have hnx : S.at (j + 1) = ⟨(S.at j).acc ++ [⟨⟨(rB (S.at j).rest (S.at j).fault).1.toArray⟩, ⟨(rB (rB (S.at j).rest (S.at j).fault).2.1 (rB (S.at j).rest (S.at j).fault).2.2).1.toArray⟩,
        (fromU (rB (rB (rB (S.at j).rest (S.at j).fault).2.1 (rB (S.at j).rest (S.at j).fault).2.2).2.1 (rB (rB (S.at j).rest (S.at j).fault).2.1 (rB (S.at j).rest (S.at j).fault).2.2).2.2).1).1⟩],
        (rB (rB (rB (S.at j).rest (S.at j).fault).2.1 (rB (S.at j).rest (S.at j).fault).2.2).2.1 (rB (rB (S.at j).rest (S.at j).fault).2.1 (rB (S.at j).rest (S.at j).fault).2.2).2.2).2.1,
        (rB (rB (rB (S.at j).rest (S.at j).fault).2.1 (rB (S.at j).rest (S.at j).fault).2.2).2.1 (rB (rB (S.at j).rest (S.at j).fault).2.1 (rB (S.at j).rest (S.at j).fault).2.2).2.2).2.2,
        if (fromU (rB (rB (rB (S.at j).rest (S.at j).fault).2.1 (rB (S.at j).rest (S.at j).fault).2.2).2.1 (rB (rB (S.at j).rest (S.at j).fault).2.1 (rB (S.at j).rest (S.at j).fault).2.2).2.2).1).2 = 0 then (S.at j).bad
          else (fromU (rB (rB (rB (S.at j).rest (S.at j).fault).2.1 (rB (S.at j).rest (S.at j).fault).2.2).2.1 (rB (rB (S.at j).rest (S.at j).fault).2.1 (rB (S.at j).rest (S.at j).fault).2.2).2.2).1).2⟩ := rfl
      rw [hbad] at hnx
      have HNX := Lib.hid hnx
      clear hnx hbad
      generalize (S.at j).acc = acc at *
      generalize (S.at j).rest = rest at *
      generalize (S.at j).fault = fault at *
      obtain ⟨Al, cl, rfl⟩ := ho.form
      obtain ⟨gb, hgb⟩ : ∃ gb, gb = W.heap.size := ⟨_, rfl⟩
      have hgl := hrd.lt
      have ha : Below W.heap.size W (W.alloc (.cells #[.string ⟨#[]⟩, .string ⟨#[]⟩, .int .u64 0, .int .u64 0, .int .u64 0, .int .u64 0] 33)) := (Below.refl _ _).alloc (Nat.le_refl _) _
      have P0 : QZ w g gb (.slice Al acc.length cl) acc #[.string ⟨#[]⟩, .string ⟨#[]⟩, .int .u64 0, .int .u64 0, .int .u64 0, .int .u64 0] rest fault (W.alloc (.cells #[.string ⟨#[]⟩, .string ⟨#[]⟩, .int .u64 0, .int .u64 0, .int .u64 0, .int .u64 0] 33)) :=
        ⟨below_chain hb hb.size ha, by rw [hgb]; exact heap_alloc_new W _, hrd.below ha, ho.below ha, by omega, fun k e => by have := (ho.lt k e).2; omega⟩
      have HLN := Lib.hid hlen
      clear hb hrd ho ha hlen hgl
      obtain ⟨na, hna⟩ : ∃ na, na = acc.length := ⟨_, rfl⟩
      rw [← hna] at P0 HLN ⊢
      have HAN := Lib.hid hna
      clear hna
      go_wp2_with fail
      rw [← hgb]
      generalize W.alloc (.cells #[.string ⟨#[]⟩, .string ⟨#[]⟩, .int .u64 0, .int .u64 0, .int .u64 0, .int .u64 0] 33) = W0 at *
      have P1 := P0
      clear P0 hgb
      refine (rdT_any P1.rd).mono ?_
      rintro e wa1 ⟨rfl, hr, hg⟩
      replace P1 := P1.call hg hr
      clear hr hg
      generalize rB rest fault = Q at *
      obtain ⟨d1, l1, f1⟩ := Q
      dsimp only at P1 HNX ⊢
      have z0 := blk_cell P1.loc 0
      have y0 := blk_free P1.loc 0
      have P2 := P1.set 0 (.string ⟨d1.toArray⟩)
      clear P1
      go_wp2_with fail
      generalize wa1.setCell ⟨gb, 0, none⟩ (.string ⟨d1.toArray⟩) = wb1 at *
      clear z0 y0
      refine (rdT_any P2.rd).mono ?_
      rintro e wa2 ⟨rfl, hr, hg⟩
      replace P2 := P2.call hg hr
      clear hr hg
      generalize rB l1 f1 = Q at *
      obtain ⟨d2, l2, f2⟩ := Q
      dsimp only at P2 HNX ⊢
      have z0 := blk_cell P2.loc 1
      have y0 := blk_free P2.loc 1
      have P3 := P2.set 1 (.string ⟨d2.toArray⟩)
      clear P2
      go_wp2_with fail
      generalize wa2.setCell ⟨gb, 1, none⟩ (.string ⟨d2.toArray⟩) = wb2 at *
      clear z0 y0
      refine (rdB_any P3.rd).mono ?_
      rintro e wa3 ⟨vB, rfl, hoB, hr, hg⟩
      replace P3 := P3.call hg hr
      clear hr hg
      generalize rB l2 f2 = Q at *
      obtain ⟨m, l3, f3⟩ := Q
      dsimp only at P3 HNX hoB ⊢
      have HF := Lib.hid (from_any vB m _ hoB.rd)
      obtain ⟨AB, cB, rfl⟩ := hoB.form
      clear hoB
      go_wp2_with fail
      refine HF.out.mono ?_
      rintro e w5 ⟨rfl, hb5⟩
      replace P3 := P3.up hb5
      clear hb5 HF
      generalize fromU m = Q at *
      obtain ⟨x, fe⟩ := Q
      dsimp only at P3 HNX ⊢
      unfold U4.val U4.cells
      have hau : Below w5.heap.size w5 (w5.alloc (.cells #[.int .u64 (x.a : Int), .int .u64 (x.b : Int), .int .u64 (x.c : Int), .int .u64 (x.d : Int)] 31)) := (Below.refl _ _).alloc (Nat.le_refl _) _
      have hu5 := heap_alloc_new w5 (.cells #[.int .u64 (x.a : Int), .int .u64 (x.b : Int), .int .u64 (x.c : Int), .int .u64 (x.d : Int)] 31)
      have P5 := P3.up hau
      have u0 := blk_cell hu5 0
      have u1 := blk_cell hu5 1
      have u2 := blk_cell hu5 2
      have u3 := blk_cell hu5 3
      by_cases hfe : fe = 0
      · subst hfe
        rw [if_pos rfl] at HNX
        have z2 := blk_cell P5.loc 2
        have z3 := blk_cell P5.loc 3
        have z4 := blk_cell P5.loc 4
        have z5 := blk_cell P5.loc 5
        have y2 := blk_free P5.loc 2
        have y3 := blk_free P5.loc 3
        have y4 := blk_free P5.loc 4
        have y5 := blk_free P5.loc 5
        have P6 := (((P5.set 2 (.int .u64 (x.a : Int))).set 3 (.int .u64 (x.b : Int))).set 4 (.int .u64 (x.c : Int))).set 5 (.int .u64 (x.d : Int))
        have v0 := blk_cell P6.loc 0
        have v1 := blk_cell P6.loc 1
        have v2 := blk_cell P6.loc 2
        have v3 := blk_cell P6.loc 3
        have v4 := blk_cell P6.loc 4
        have v5 := blk_cell P6.loc 5
        have hsz6 : (World.heap (World.setCell (World.setCell (World.setCell (World.setCell (w5.alloc (.cells #[.int .u64 (x.a : Int), .int .u64 (x.b : Int), .int .u64 (x.c : Int), .int .u64 (x.d : Int)] 31)) ⟨gb, 2, none⟩ (.int .u64 (x.a : Int))) ⟨gb, 3, none⟩ (.int .u64 (x.b : Int))) ⟨gb, 4, none⟩ (.int .u64 (x.c : Int))) ⟨gb, 5, none⟩ (.int .u64 (x.d : Int)))).size = w5.heap.size + 1 := by simp
        have hk7 := heap_alloc_new (World.setCell (World.setCell (World.setCell (World.setCell (w5.alloc (.cells #[.int .u64 (x.a : Int), .int .u64 (x.b : Int), .int .u64 (x.c : Int), .int .u64 (x.d : Int)] 31)) ⟨gb, 2, none⟩ (.int .u64 (x.a : Int))) ⟨gb, 3, none⟩ (.int .u64 (x.b : Int))) ⟨gb, 4, none⟩ (.int .u64 (x.c : Int))) ⟨gb, 5, none⟩ (.int .u64 (x.d : Int))) (.cells #[.string ⟨d1.toArray⟩, .string ⟨d2.toArray⟩, .int .u64 (x.a : Int), .int .u64 (x.b : Int), .int .u64 (x.c : Int), .int .u64 (x.d : Int)] 33)
        rw [hsz6] at hk7
        have ha7 : Below (World.heap (World.setCell (World.setCell (World.setCell (World.setCell (w5.alloc (.cells #[.int .u64 (x.a : Int), .int .u64 (x.b : Int), .int .u64 (x.c : Int), .int .u64 (x.d : Int)] 31)) ⟨gb, 2, none⟩ (.int .u64 (x.a : Int))) ⟨gb, 3, none⟩ (.int .u64 (x.b : Int))) ⟨gb, 4, none⟩ (.int .u64 (x.c : Int))) ⟨gb, 5, none⟩ (.int .u64 (x.d : Int)))).size (World.setCell (World.setCell (World.setCell (World.setCell (w5.alloc (.cells #[.int .u64 (x.a : Int), .int .u64 (x.b : Int), .int .u64 (x.c : Int), .int .u64 (x.d : Int)] 31)) ⟨gb, 2, none⟩ (.int .u64 (x.a : Int))) ⟨gb, 3, none⟩ (.int .u64 (x.b : Int))) ⟨gb, 4, none⟩ (.int .u64 (x.c : Int))) ⟨gb, 5, none⟩ (.int .u64 (x.d : Int))) (World.alloc (World.setCell (World.setCell (World.setCell (World.setCell (w5.alloc (.cells #[.int .u64 (x.a : Int), .int .u64 (x.b : Int), .int .u64 (x.c : Int), .int .u64 (x.d : Int)] 31)) ⟨gb, 2, none⟩ (.int .u64 (x.a : Int))) ⟨gb, 3, none⟩ (.int .u64 (x.b : Int))) ⟨gb, 4, none⟩ (.int .u64 (x.c : Int))) ⟨gb, 5, none⟩ (.int .u64 (x.d : Int))) (.cells #[.string ⟨d1.toArray⟩, .string ⟨d2.toArray⟩, .int .u64 (x.a : Int), .int .u64 (x.b : Int), .int .u64 (x.c : Int), .int .u64 (x.d : Int)] 33)) := (Below.refl _ _).alloc (Nat.le_refl _) _
        have P7 := P6.up ha7
        have HNW : Hid (∀ (j : Nat) (u : Value), (OrdV.mk ⟨d1.toArray⟩ ⟨d2.toArray⟩ x).cl[j]? = some u → (World.alloc (World.setCell (World.setCell (World.setCell (World.setCell (w5.alloc (.cells #[.int .u64 (x.a : Int), .int .u64 (x.b : Int), .int .u64 (x.c : Int), .int .u64 (x.d : Int)] 31)) ⟨gb, 2, none⟩ (.int .u64 (x.a : Int))) ⟨gb, 3, none⟩ (.int .u64 (x.b : Int))) ⟨gb, 4, none⟩ (.int .u64 (x.c : Int))) ⟨gb, 5, none⟩ (.int .u64 (x.d : Int))) (.cells #[.string ⟨d1.toArray⟩, .string ⟨d2.toArray⟩, .int .u64 (x.a : Int), .int .u64 (x.b : Int), .int .u64 (x.c : Int), .int .u64 (x.d : Int)] 33)).cell? ((⟨w5.heap.size + 1, 0, none⟩ : Addr).add j) = some u) := Lib.hid fun j u hu => by
          have h := blk_cell hk7 j
          have e : (⟨w5.heap.size + 1, 0, none⟩ : Addr).add j = ⟨w5.heap.size + 1, j, none⟩ := by unfold Addr.add; split <;> simp_all
          rw [e, h, ← hu]
          simp [OrdV.cl]
        have HP7 := Lib.hid P7
        have hs7 := P7.own.lt
        have hsb : g + 1 ≤ (World.heap (World.alloc (World.setCell (World.setCell (World.setCell (World.setCell (w5.alloc (.cells #[.int .u64 (x.a : Int), .int .u64 (x.b : Int), .int .u64 (x.c : Int), .int .u64 (x.d : Int)] 31)) ⟨gb, 2, none⟩ (.int .u64 (x.a : Int))) ⟨gb, 3, none⟩ (.int .u64 (x.b : Int))) ⟨gb, 4, none⟩ (.int .u64 (x.c : Int))) ⟨gb, 5, none⟩ (.int .u64 (x.d : Int))) (.cells #[.string ⟨d1.toArray⟩, .string ⟨d2.toArray⟩, .int .u64 (x.a : Int), .int .u64 (x.b : Int), .int .u64 (x.c : Int), .int .u64 (x.d : Int)] 33))).size := by have := P7.rd.lt; omega
        have HSB := Lib.hid hsb
        have hln : na ≤ 1000 := by have := HLN.out; omega
        clear P3 hau hk7 ha7 P7 hs7 hsb hsz6
        go_wp2_with (at_builtin; refine wpList_append_ord rfl (.tmp 31) (.tmp 33) 22 rfl i0 Tryz.underlying22 hi hz hsz hby rfl rfl HP7.out.own ⟨⟨d1.toArray⟩, ⟨d2.toArray⟩, x⟩ rfl HNW.out (by have := HAN.out; omega) HSB.out ?_; intro v7 w7 ho7 hg7)
        have hrd7 : Rdr w7 w.heap.size g l3 f3 := HP7.out.rd.keep fun k _ hk => hg7.block k (by have := HP7.out.rd.lt; omega) (fun e => by have := (HP7.out.own.lt k e.symm).1; omega)
        have hb7 := HP7.out.below.grown hg7 HP7.out.below.size (fun k hk => by have := (HP7.out.own.lt k hk).1; have := HP7.out.rd.from_; omega)
        exact ⟨⟨j + 1, by omega, by go_num, by rw [HNX.out]; exact ho7, by rw [HNX.out]; exact hrd7, by rw [HNX.out], hb7⟩, by simp [intOf]; omega⟩
      · have hne : (fe != 0) = true := by simpa using hfe
        rw [if_neg hfe] at HNX
        have hbd : (S.at N).bad ≠ 0 := by
          have h1 : (S.at (j + 1)).bad ≠ 0 := by rw [HNX.out]; exact hfe
          have h2 := HST.out (j + 1) (N - (j + 1)) h1
          rwa [show j + 1 + (N - (j + 1)) = N by omega] at h2
        have HBD := Lib.hid hbd
        have HP := Lib.hid P5.below
        clear hbd P5 P3 hau hu5
        go_wp2_with fail
        go_ret2
        exact ⟨HP.out, .inr ⟨fun h => HBD.out h.1, rfl⟩⟩
    · have hjn : j = N := by omega
      have i2 : ¬ (j : Int) < (N : Int) := by omega
      subst hjn
      have hO := Lib.hid ho
      obtain ⟨Al, cl, rfl⟩ := ho.form
      have HE := Lib.hid (rdEnd_any hrd)
      have HBA := Lib.hid hbad
      have hge : w.heap.size ≤ g + 1 := by have := hrd.from_; omega
      have HLN := Lib.hid (HL.out j)
      clear ho hrd hbad
      generalize (S.at j).acc.length = na at *
      obtain ⟨E, hEE⟩ : ∃ E, E = rEnd (S.at j).rest (S.at j).fault := ⟨_, rfl⟩
      rw [← hEE] at HE
      have HEE := Lib.hid hEE
      clear hEE
      go_wp2_with fail
      refine HE.out.mono ?_
      rintro e w3 ⟨rfl, rfl⟩
      by_cases hE : E = 0
      · subst hE
        go_wp2_with fail
        go_ret2
        exact ⟨hb, .inl ⟨HBA.out, HEE.out.symm, _, rfl, hO.out.more hge⟩⟩
      · have hne : (E != 0) = true := by simpa using hE
        go_wp2_with fail
        go_ret2
        exact ⟨hb, .inr ⟨fun h => hE (HEE.out.trans h.2), rfl⟩⟩
end Go.Proofs.YtlkbjhhbpmmamaaGreatDoor
