
/- The document's orders out of bytes. Orders in bytes: the document's. Orders: what was read is fit to be written; a row of one's own is one that is handed in. -/
import Derived.Test.YtlkbjhhbpmmamaaGreatDoorIcP
import Derived.Test.YtlkbjhhbpmmamaaGreatDoorWireDoc0
import Derived.Test.YtlkbjhhbpmmamaaGreatDoorIcM0
import Derived.Test.YtlkbjhhbpmmamaaGreatDoorLimbM0
namespace Go.Proofs.YtlkbjhhbpmmamaaGreatDoor
set_option maxRecDepth 100000
open Go Go.RowKit
set_option linter.unusedVariables false

structure DZ (w : World) (g : Nat) (lv : Value) (acc : List OrdV) (l : List UInt8) (f : Int) (W : World) : Prop where
  below : Below w.heap.size w W
  rd : Ddr W w.heap.size g l f
  own : OwnOr W (g + 1) lv acc
section
variable {w W W' : World} {g : Nat} {lv : Value} {acc : List OrdV} {l l' : List UInt8} {f f' : Int}
theorem DZ.call (h : DZ w g lv acc l f W) (hg : W.grownBy W' (some g)) (hr : Ddr W' w.heap.size g l' f') : DZ w g lv acc l' f' W' :=
  ⟨h.below.grown hg h.below.size (fun k e => by injection e with e; have := h.rd.from_; omega), hr,
    h.own.grown hg (by
      by_cases e : lv.ownBlock = none
      · exact .inl e
      · exact .inr fun e2 => by have := (h.own.lt _ e2).1; omega)⟩
theorem DZ.up (h : DZ w g lv acc l f W) (hb : Below W.heap.size W W') : DZ w g lv acc l f W' :=
  ⟨below_chain h.below h.below.size hb, h.rd.below hb, h.own.below hb⟩
end
set_option maxHeartbeats 8000000 in
theorem ricparse_any (w : World) (v : Value) (b : List UInt8) (hr : Rd w w.heap.size v b) (hl : b.length ≤ 140737488355320) :
    Calls Tryz.prog 10 #[v] w fun e w' => Below w.heap.size w w' ∧
      ((ordsR b).bad = 0 ∧ rEnd (ordsR b).rest (ordsR b).fault = 0 ∧ (∃ v', e = .returned (.tuple #[v', .int .i64 0]) ∧ OwnOr w' w.heap.size v' (ordsR b).acc) ∨
       ¬ ((ordsR b).bad = 0 ∧ rEnd (ordsR b).rest (ordsR b).fault = 0) ∧ e = .returned (.tuple #[.slice none 0 0, .int .i64 140])) := by
  obtain ⟨i0, hi, hz, hsz, hby⟩ := info_parts Tryz.infoOrd
  have HO := Lib.hid (open_dd v b w hr hl)
  obtain ⟨A0, c0, rfl⟩ := hr.form
  clear hr hl
  obtain ⟨q1, q2⟩ := rC_range b
  obtain ⟨N, hN⟩ : ∃ N : Nat, (rC 8 b 0).1 = (N : Int) := ⟨_, (Int.toNat_of_nonneg q1).symm⟩
  have hN8 : N ≤ 8 := by omega
  obtain ⟨S, hS⟩ : ∃ S, S = OSt.mk [] (rC 8 b 0).2.1 (rC 8 b 0).2.2 0 := ⟨_, rfl⟩
  have hR : ordsR b = S.at N := by unfold ordsR; rw [hN, hS]; rfl
  rw [hR]
  have HN := Lib.hid hN
  have HS := Lib.hid hS
  have HL := Lib.hid (show ∀ j, (S.at j).acc.length = j from fun j => by rw [OSt.at_acc, hS]; simp)
  clear hN hS hR q1 q2
  go_enter Tryz.func10, Tryz.ntmps10
  go_wp2_with fail
  refine HO.out.mono ?_
  rintro e w1 ⟨g, rfl, hr1, hb1⟩
  have HC := Lib.hid (dC_any hr1 8 (by decide) (by decide))
  rw [HN.out] at HC
  clear HO
  go_wp2_with fail
  refine HC.out.mono ?_
  rintro e w2 ⟨rfl, hr2, hg2⟩
  have D2 : DZ w g (.slice none 0 0) (S.at 0).acc (S.at 0).rest (S.at 0).fault w2 :=
    ⟨hb1.grown hg2 hb1.size (fun k e => by injection e with e; have := hr2.from_; omega), by rw [HS.out]; exact hr2, by rw [HS.out]; exact OwnOr.nil _ _⟩
  have h2b : (0 : Int) = (S.at 0).bad := by rw [HS.out]; rfl
  have HD2 := Lib.hid (And.intro D2 h2b)
  clear HC hr1 hb1 hr2 hg2 D2 h2b
  go_wp2_with fail
  go_loopw [5, 7, 8] (fun lv bd i W => ∃ j : Nat, j ≤ N ∧ i = .int .i64 (j : Int) ∧ bd = .int .i64 (S.at j).bad ∧ DZ w g lv (S.at j).acc (S.at j).rest (S.at j).fault W)
    (fun _ _ i _ => N - (intOf i).toNat)
  case atStart => exact ⟨0, by omega, rfl, by rw [← HD2.out.2], HD2.out.1⟩
  case round =>
    rename World => W
    obtain ⟨j, hj, rfl, rfl, D⟩ := hrel
    clear HD2
    by_cases hlt : j < N
    · have i1 : (0 : Int) ≤ (j : Int) := by omega
      have i2 : (j : Int) < (N : Int) := by omega
      have HLN := Lib.hid (HL.out j)
      have hnx : S.at (j + 1) = ⟨(S.at j).acc ++ [⟨⟨(rB (S.at j).rest (S.at j).fault).1.toArray⟩, ⟨(rB (rB (S.at j).rest (S.at j).fault).2.1 (rB (S.at j).rest (S.at j).fault).2.2).1.toArray⟩,
        (fromU (rB (rB (rB (S.at j).rest (S.at j).fault).2.1 (rB (S.at j).rest (S.at j).fault).2.2).2.1 (rB (rB (S.at j).rest (S.at j).fault).2.1 (rB (S.at j).rest (S.at j).fault).2.2).2.2).1).1⟩],
        (rB (rB (rB (S.at j).rest (S.at j).fault).2.1 (rB (S.at j).rest (S.at j).fault).2.2).2.1 (rB (rB (S.at j).rest (S.at j).fault).2.1 (rB (S.at j).rest (S.at j).fault).2.2).2.2).2.1,
        (rB (rB (rB (S.at j).rest (S.at j).fault).2.1 (rB (S.at j).rest (S.at j).fault).2.2).2.1 (rB (rB (S.at j).rest (S.at j).fault).2.1 (rB (S.at j).rest (S.at j).fault).2.2).2.2).2.2,
        if (fromU (rB (rB (rB (S.at j).rest (S.at j).fault).2.1 (rB (S.at j).rest (S.at j).fault).2.2).2.1 (rB (rB (S.at j).rest (S.at j).fault).2.1 (rB (S.at j).rest (S.at j).fault).2.2).2.2).1).2 = 0 then (S.at j).bad
          else (fromU (rB (rB (rB (S.at j).rest (S.at j).fault).2.1 (rB (S.at j).rest (S.at j).fault).2.2).2.1 (rB (rB (S.at j).rest (S.at j).fault).2.1 (rB (S.at j).rest (S.at j).fault).2.2).2.2).1).2⟩ := rfl
      have HNX := Lib.hid hnx
      clear hnx
      generalize (S.at j).acc = acc at *
      generalize (S.at j).rest = rest at *
      generalize (S.at j).fault = fault at *
      generalize (S.at j).bad = bad at *
      obtain ⟨Al, cl, rfl⟩ := D.own.form
      obtain ⟨na, hna⟩ : ∃ na, na = acc.length := ⟨_, rfl⟩
      rw [← hna] at D HLN ⊢
      have HAN := Lib.hid hna
      clear hna
      go_wp2_with fail
      refine (dT_any D.rd).mono ?_
      rintro e wa1 ⟨rfl, hr, hg⟩
      replace D := D.call hg hr
      clear hr hg
      generalize rB rest fault = Q at *
      obtain ⟨d1, l1, f1⟩ := Q
      dsimp only at D HNX ⊢
      go_wp2_with fail
      refine (dT_any D.rd).mono ?_
      rintro e wa2 ⟨rfl, hr, hg⟩
      replace D := D.call hg hr
      clear hr hg
      generalize rB l1 f1 = Q at *
      obtain ⟨d2, l2, f2⟩ := Q
      dsimp only at D HNX ⊢
      go_wp2_with fail
      refine (dB_any D.rd).mono ?_
      rintro e wa3 ⟨vB, rfl, hoB, hr, hg⟩
      replace D := D.call hg hr
      clear hr hg
      generalize rB l2 f2 = Q at *
      obtain ⟨m, l3, f3⟩ := Q
      dsimp only at D HNX hoB ⊢
      have HF := Lib.hid (rfrom_any vB m _ hoB.rd)
      obtain ⟨AB, cB, rfl⟩ := hoB.form
      clear hoB
      go_wp2_with fail
      refine HF.out.mono ?_
      rintro e w5 ⟨rfl, hb5⟩
      replace D := D.up hb5
      clear hb5 HF
      generalize fromU m = Q at *
      obtain ⟨x, fe⟩ := Q
      dsimp only at D HNX ⊢
      unfold U4.val U4.cells
      have hau : Below w5.heap.size w5 (w5.alloc (.cells #[.int .u64 (x.a : Int), .int .u64 (x.b : Int), .int .u64 (x.c : Int), .int .u64 (x.d : Int)] 31)) := (Below.refl _ _).alloc (Nat.le_refl _) _
      have hu5 := heap_alloc_new w5 (.cells #[.int .u64 (x.a : Int), .int .u64 (x.b : Int), .int .u64 (x.c : Int), .int .u64 (x.d : Int)] 31)
      have u0 := blk_cell hu5 0
      have u1 := blk_cell hu5 1
      have u2 := blk_cell hu5 2
      have u3 := blk_cell hu5 3
      have hsz6 : (w5.alloc (.cells #[.int .u64 (x.a : Int), .int .u64 (x.b : Int), .int .u64 (x.c : Int), .int .u64 (x.d : Int)] 31)).heap.size = w5.heap.size + 1 := by simp
      have hk7 := heap_alloc_new (w5.alloc (.cells #[.int .u64 (x.a : Int), .int .u64 (x.b : Int), .int .u64 (x.c : Int), .int .u64 (x.d : Int)] 31)) (.cells #[.string ⟨d1.toArray⟩, .string ⟨d2.toArray⟩, .int .u64 (x.a : Int), .int .u64 (x.b : Int), .int .u64 (x.c : Int), .int .u64 (x.d : Int)] 33)
      rw [hsz6] at hk7
      have ha7 : Below (w5.alloc (.cells #[.int .u64 (x.a : Int), .int .u64 (x.b : Int), .int .u64 (x.c : Int), .int .u64 (x.d : Int)] 31)).heap.size (w5.alloc (.cells #[.int .u64 (x.a : Int), .int .u64 (x.b : Int), .int .u64 (x.c : Int), .int .u64 (x.d : Int)] 31)) ((w5.alloc (.cells #[.int .u64 (x.a : Int), .int .u64 (x.b : Int), .int .u64 (x.c : Int), .int .u64 (x.d : Int)] 31)).alloc (.cells #[.string ⟨d1.toArray⟩, .string ⟨d2.toArray⟩, .int .u64 (x.a : Int), .int .u64 (x.b : Int), .int .u64 (x.c : Int), .int .u64 (x.d : Int)] 33)) := (Below.refl _ _).alloc (Nat.le_refl _) _
      have D7 := (D.up hau).up ha7
      have HNW : Hid (∀ (j : Nat) (u : Value), (OrdV.mk ⟨d1.toArray⟩ ⟨d2.toArray⟩ x).cl[j]? = some u → ((w5.alloc (.cells #[.int .u64 (x.a : Int), .int .u64 (x.b : Int), .int .u64 (x.c : Int), .int .u64 (x.d : Int)] 31)).alloc (.cells #[.string ⟨d1.toArray⟩, .string ⟨d2.toArray⟩, .int .u64 (x.a : Int), .int .u64 (x.b : Int), .int .u64 (x.c : Int), .int .u64 (x.d : Int)] 33)).cell? ((⟨w5.heap.size + 1, 0, none⟩ : Addr).add j) = some u) := Lib.hid fun j u hu => by
        have h := blk_cell hk7 j
        have e : (⟨w5.heap.size + 1, 0, none⟩ : Addr).add j = ⟨w5.heap.size + 1, j, none⟩ := by unfold Addr.add; split <;> simp_all
        rw [e, h, ← hu]
        simp [OrdV.cl]
      have HP7 := Lib.hid D7
      have HSB := Lib.hid (show g + 1 ≤ ((w5.alloc (.cells #[.int .u64 (x.a : Int), .int .u64 (x.b : Int), .int .u64 (x.c : Int), .int .u64 (x.d : Int)] 31)).alloc (.cells #[.string ⟨d1.toArray⟩, .string ⟨d2.toArray⟩, .int .u64 (x.a : Int), .int .u64 (x.b : Int), .int .u64 (x.c : Int), .int .u64 (x.d : Int)] 33)).heap.size by have := D7.rd.lt; omega)
      clear hk7 ha7 D7 hsz6 D hau hu5
      by_cases hfe : fe = 0
      · subst hfe
        rw [if_pos rfl] at HNX
        go_wp2_with (at_builtin; refine wpList_append_ord rfl (.tmp 35) (.tmp 40) 22 rfl i0 Tryz.underlying22 hi hz hsz hby rfl rfl HP7.out.own ⟨⟨d1.toArray⟩, ⟨d2.toArray⟩, x⟩ rfl HNW.out (by have := HAN.out; have := HLN.out; omega) HSB.out ?_; intro v7 w7 ho7 hg7)
        have hrd7 : Ddr w7 w.heap.size g l3 f3 := HP7.out.rd.keep fun k _ hk => hg7.block k (by have := HP7.out.rd.lt; omega) (fun e => by have := (HP7.out.own.lt k e.symm).1; omega)
        have hb7 := HP7.out.below.grown hg7 HP7.out.below.size (fun k hk => by have := (HP7.out.own.lt k hk).1; have := HP7.out.rd.from_; omega)
        exact ⟨⟨j + 1, by omega, by go_num, by rw [HNX.out], ⟨hb7, by rw [HNX.out]; exact hrd7, by rw [HNX.out]; exact ho7⟩⟩, by simp [intOf]; omega⟩
      · have hne : (fe != 0) = true := by simpa using hfe
        rw [if_neg hfe] at HNX
        go_wp2_with (at_builtin; refine wpList_append_ord rfl (.tmp 35) (.tmp 40) 22 rfl i0 Tryz.underlying22 hi hz hsz hby rfl rfl HP7.out.own ⟨⟨d1.toArray⟩, ⟨d2.toArray⟩, x⟩ rfl HNW.out (by have := HAN.out; have := HLN.out; omega) HSB.out ?_; intro v7 w7 ho7 hg7)
        have hrd7 : Ddr w7 w.heap.size g l3 f3 := HP7.out.rd.keep fun k _ hk => hg7.block k (by have := HP7.out.rd.lt; omega) (fun e => by have := (HP7.out.own.lt k e.symm).1; omega)
        have hb7 := HP7.out.below.grown hg7 HP7.out.below.size (fun k hk => by have := (HP7.out.own.lt k hk).1; have := HP7.out.rd.from_; omega)
        exact ⟨⟨j + 1, by omega, by go_num, by rw [HNX.out], ⟨hb7, by rw [HNX.out]; exact hrd7, by rw [HNX.out]; exact ho7⟩⟩, by simp [intOf]; omega⟩
    · have hjn : j = N := by omega
      have i2 : ¬ (j : Int) < (N : Int) := by omega
      subst hjn
      obtain ⟨hb, hrd, ho⟩ := D
      have hO := Lib.hid ho
      obtain ⟨Al, cl, rfl⟩ := ho.form
      have HE := Lib.hid (dEnd_any hrd)
      have hge : w.heap.size ≤ g + 1 := by have := hrd.from_; omega
      obtain ⟨E, hEE⟩ : ∃ E, E = rEnd (S.at j).rest (S.at j).fault := ⟨_, rfl⟩
      rw [← hEE] at HE
      have HEE := Lib.hid hEE
      obtain ⟨bd, hbd⟩ : ∃ bd, bd = (S.at j).bad := ⟨_, rfl⟩
      rw [← hbd]
      have HBD := Lib.hid hbd
      clear ho hrd hEE hbd
      generalize (S.at j).acc.length = na at *
      go_wp2_with fail
      refine HE.out.mono ?_
      rintro e w3 ⟨rfl, rfl⟩
      by_cases hE : E = 0
      · subst hE
        by_cases hB : bd = 0
        · subst hB
          go_wp2_with fail
          go_ret2
          exact ⟨hb, .inl ⟨HBD.out.symm, HEE.out.symm, _, rfl, hO.out.more hge⟩⟩
        · have hne : (bd != 0) = true := by simpa using hB
          go_wp2_with fail
          go_ret2
          exact ⟨hb, .inr ⟨fun h => hB (HBD.out.trans h.1), rfl⟩⟩
      · have hne : (E != 0) = true := by simpa using hE
        go_wp2_with fail
        go_ret2
        exact ⟨hb, .inr ⟨fun h => hE (HEE.out.trans h.2), rfl⟩⟩
end Go.Proofs.YtlkbjhhbpmmamaaGreatDoor
namespace Go.Proofs.YtlkbjhhbpmmamaaGreatDoor
set_option maxRecDepth 100000
open Go Go.RowKit
set_option linter.unusedVariables false

set_option maxHeartbeats 8000000 in
theorem ricb_any (w : World) (v : Value) (l : List OrdV) (hv : OrdsAt w v l) (hx : ∀ o ∈ l, o.x.ok ∧ o.t.size ≤ maxLen ∧ o.d.size ≤ maxLen) (hn : l.length ≤ 1048576) :
    Calls Tryz.prog 13 #[v] w fun e w' => ∃ v', e = .returned v' ∧ Own w' w.heap.size v' (ordsB l l.length) ∧ Below w.heap.size w w' := by
  obtain ⟨i0, hi, hz, hsz, hby⟩ := info_parts Tryz.infoByte
  obtain ⟨A, c, rfl, hc⟩ := hv
  have HN := Lib.hid (refN_any (.slice none 0 0) [] l.length w (Rd.nil _ _) (by omega) (by simp))
  have HC := Lib.hid hc
  have HX := Lib.hid hx
  have HB := Lib.hid (fun j => ordsB_len l j)
  have HS := Lib.hid (fun j h => ordsB_next l j h)
  have H0 := Lib.hid (show ordsB l 0 = [] ++ be l.length 8 by unfold ordsB; simp)
  obtain ⟨n, hnl⟩ : ∃ n, n = l.length := ⟨_, rfl⟩
  have HL := Lib.hid hnl
  rw [← hnl] at HN ⊢
  clear hx hc
  have hn' : n ≤ 1048576 := by omega
  clear hnl hn
  go_enter Tryz.func13, Tryz.ntmps13
  go_wp2_with fail
  try rw [show IntKind.u64.wrap (n : Int) = (n : Int) by go_num]
  refine HN.out.mono ?_
  rintro e w1 ⟨v1, rfl, ho1, hb1⟩
  rw [HL.out, ← H0.out] at ho1
  clear HN
  go_wp2_with fail
  go_loopw [3, 12] (fun b i W => ∃ j : Nat, j ≤ n ∧ i = .int .i64 (j : Int) ∧ Own W w.heap.size b (ordsB l j) ∧ Below w.heap.size w W)
    (fun _ i _ => n - (intOf i).toNat)
  case atStart => exact ⟨0, by omega, rfl, ho1, hb1⟩
  case round =>
    rename World => W
    obtain ⟨j, hj, rfl, ho, hb⟩ := hrel
    clear ho1 hb1
    by_cases hlt : j < n
    · have i1 : (0 : Int) ≤ (j : Int) := by omega
      have i2 : (j : Int) < (n : Int) := by omega
      have hjl : j < l.length := by have := HL.out; omega
      obtain ⟨g, o, rfl, hgl, hcell⟩ := HC.out (by omega)
      have hck := hcell j hjl
      have hok := HX.out _ (List.getElem_mem hjl)
      have hle := HB.out j
      have hnx := HS.out j hjl
      have hll := HL.out
      have HNX := Lib.hid hnx
      clear hcell hnx
      generalize l[j] = op at *
      obtain ⟨ot, od, ox⟩ := op
      dsimp only at hok
      obtain ⟨f1, f2, f3⟩ := hok
      have hcc : ∀ i u, i < 6 → (OrdV.mk ot od ox).cells[i]? = some u → W.cell? ⟨g, o + j * 6 + i, none⟩ = some u := fun i u hi e =>
        (hb.cell (p := ⟨g, o + j * 6 + i, none⟩) hgl).trans (hck i u hi e)
      have e0 : W.cell? ⟨g, o + j * 6, none⟩ = some (.string ot) := hcc 0 _ (by omega) rfl
      have e1 : W.cell? ⟨g, o + j * 6 + 1, none⟩ = some (.string od) := hcc 1 _ (by omega) rfl
      have e2 : W.cell? ⟨g, o + j * 6 + 2, none⟩ = some (.int .u64 (ox.a : Int)) := hcc 2 _ (by omega) rfl
      have e3 : W.cell? ⟨g, o + j * 6 + 3, none⟩ = some (.int .u64 (ox.b : Int)) := hcc 3 _ (by omega) rfl
      have e4 : W.cell? ⟨g, o + j * 6 + 4, none⟩ = some (.int .u64 (ox.c : Int)) := hcc 4 _ (by omega) rfl
      have e5 : W.cell? ⟨g, o + j * 6 + 5, none⟩ = some (.int .u64 (ox.d : Int)) := hcc 5 _ (by omega) rfl
      have hO := Lib.hid ho
      obtain ⟨Ab, cb, rfl⟩ := ho.form
      have hk := heap_alloc_new W (.cells #[.string ot, .string od, .int .u64 (ox.a : Int), .int .u64 (ox.b : Int), .int .u64 (ox.c : Int), .int .u64 (ox.d : Int)] 33)
      have ha : Below W.heap.size W (W.alloc (.cells #[.string ot, .string od, .int .u64 (ox.a : Int), .int .u64 (ox.b : Int), .int .u64 (ox.c : Int), .int .u64 (ox.d : Int)] 33)) := (Below.refl _ _).alloc (Nat.le_refl _) _
      obtain ⟨m, hm⟩ : ∃ m, m = (ordsB l j).length := ⟨_, rfl⟩
      rw [← hm] at hO hle ⊢
      have HM := Lib.hid hm
      clear hm ho hck hcc hll
      have x0 := blk_cell hk 0
      have x1 := blk_cell hk 1
      have x2 := blk_cell hk 2
      have x3 := blk_cell hk 3
      have x4 := blk_cell hk 4
      have x5 := blk_cell hk 5
      have hlb := blk_lt hk
      obtain ⟨L1, hL1⟩ : ∃ L1, L1 = ordsB l j ++ be ((strBytes ot).take 65535).length 4 ++ (strBytes ot).take 65535 := ⟨_, rfl⟩
      obtain ⟨L2, hL2⟩ : ∃ L2, L2 = L1 ++ be ((strBytes od).take 65535).length 4 ++ (strBytes od).take 65535 := ⟨_, rfl⟩
      obtain ⟨LU, hLU⟩ : ∃ LU, LU = be ox.nat 32 := ⟨_, rfl⟩
      obtain ⟨L3, hL3⟩ : ∃ L3, L3 = L2 ++ be (LU.take 65535).length 4 ++ LU.take 65535 := ⟨_, rfl⟩
      have b1 : L1.length ≤ m + 65539 := by have := HM.out; rw [hL1]; simp [be_length]; omega
      have b2 : L2.length ≤ m + 131078 := by have := HM.out; rw [hL2]; simp [be_length]; omega
      have b3 : L3.length ≤ m + 196617 := by have := HM.out; rw [hL3]; simp [be_length]; omega
      have HE : Hid (ordsB l j ++ orB ⟨ot, od, ox⟩ = L3) := Lib.hid (by rw [hL3, hL2, hL1, hLU]; unfold orB encB; simp)
      have HT : Hid (∀ (v : Value) (Z : World) (B : Nat), Own Z B v (ordsB l j) → Calls Tryz.prog 73 #[v, .string ot] Z fun e w' => ∃ v', e = .returned v' ∧ Own w' Z.heap.size v' L1 ∧ Below Z.heap.size Z w') :=
        Lib.hid fun v Z B h => by rw [hL1]; exact refT_any v ot (ordsB l j) Z h.rd f2 (by have := HM.out; have := HL.out; omega)
      have HT2 : Hid (∀ (v : Value) (Z : World) (B : Nat), Own Z B v L1 → Calls Tryz.prog 73 #[v, .string od] Z fun e w' => ∃ v', e = .returned v' ∧ Own w' Z.heap.size v' L2 ∧ Below Z.heap.size Z w') :=
        Lib.hid fun v Z B h => by rw [hL2]; exact refT_any v od L1 Z h.rd f3 (by have := HL.out; omega)
      have HY : Hid (∀ Z : World, Calls Tryz.prog 74 #[.agg #[.int .u64 (ox.a : Int), .int .u64 (ox.b : Int), .int .u64 (ox.c : Int), .int .u64 (ox.d : Int)]] Z fun e w' => ∃ v', e = .returned v' ∧ Own w' Z.heap.size v' LU ∧ Below Z.heap.size Z w') :=
        Lib.hid fun Z => by rw [hLU]; exact rbytes_any ox Z f1
      have HQ : Hid (∀ (v x : Value) (Z : World) (B B' : Nat), Own Z B v L2 → Own Z B' x LU → Calls Tryz.prog 72 #[v, x] Z fun e w' => ∃ v', e = .returned v' ∧ Own w' Z.heap.size v' L3 ∧ Below Z.heap.size Z w') :=
        Lib.hid fun v x Z B B' h h2 => by rw [hL3]; exact refB_any v x L2 LU Z h.rd h2.rd (by have := HL.out; omega)
      have hq := below_chain hb hb.size ha
      clear f1 f2 f3 hL1 hL2 hL3 hLU
      generalize hWb : W.alloc (.cells #[.string ot, .string od, .int .u64 (ox.a : Int), .int .u64 (ox.b : Int), .int .u64 (ox.c : Int), .int .u64 (ox.d : Int)] 33) = Wb at *
      have HWB := Lib.hid hWb
      have HOA : Hid (∀ Z, Below Wb.heap.size Wb Z → Own Z w.heap.size (.slice Ab m cb) (ordsB l j)) := Lib.hid fun Z hz => by
        have hWW : Below W.heap.size W Z := below_chain ha ha.size hz
        exact hO.out.below hWW
      have HKB : Hid (∀ Z, Below Wb.heap.size Wb Z → Z.heap[W.heap.size]? = some (.cells #[.string ot, .string od, .int .u64 (ox.a : Int), .int .u64 (ox.b : Int), .int .u64 (ox.c : Int), .int .u64 (ox.d : Int)] 33 (0, 0))) := Lib.hid fun Z hz => (hz.block _ hlb).trans hk
      have HCC : Hid (∀ Z : World, Z.heap[W.heap.size]? = some (.cells #[.string ot, .string od, .int .u64 (ox.a : Int), .int .u64 (ox.b : Int), .int .u64 (ox.c : Int), .int .u64 (ox.d : Int)] 33 (0, 0)) → Z.cell? ⟨W.heap.size, 0, none⟩ = some (.string ot) ∧ Z.cell? ⟨W.heap.size, 1, none⟩ = some (.string od) ∧ Z.cell? ⟨W.heap.size, 2, none⟩ = some (.int .u64 (ox.a : Int)) ∧ Z.cell? ⟨W.heap.size, 3, none⟩ = some (.int .u64 (ox.b : Int)) ∧ Z.cell? ⟨W.heap.size, 4, none⟩ = some (.int .u64 (ox.c : Int)) ∧ Z.cell? ⟨W.heap.size, 5, none⟩ = some (.int .u64 (ox.d : Int))) := Lib.hid fun Z h => ⟨blk_cell h 0, blk_cell h 1, blk_cell h 2, blk_cell h 3, blk_cell h 4, blk_cell h 5⟩
      have HLB := Lib.hid hlb
      have HOB := Lib.hid (fun k (e : (Value.slice Ab m cb).ownBlock = some k) => (hO.out.lt k e).2)
      have hkD : Below Wb.heap.size Wb Wb.drew := Below.drew (Below.refl _ _)
      clear hWb hk x0 x1 x2 x3 x4 x5 hlb
      go_wp2_with fail
      rw [HWB.out]
      go_region_held_law (fun Z => Z.cell? ⟨W.heap.size, 0, none⟩ = some (.string ot) ∧ Z.cell? ⟨W.heap.size, 1, none⟩ = some (.string od) ∧ Z.cell? ⟨W.heap.size, 2, none⟩ = some (.int .u64 (ox.a : Int)) ∧ Z.cell? ⟨W.heap.size, 3, none⟩ = some (.int .u64 (ox.b : Int)) ∧ Z.cell? ⟨W.heap.size, 4, none⟩ = some (.int .u64 (ox.c : Int)) ∧ Z.cell? ⟨W.heap.size, 5, none⟩ = some (.int .u64 (ox.d : Int)))
        (with_reducible first | exact HCC.out _ (HKB.out _ hk4) | exact HCC.out _ (HKB.out _ hk3) | exact HCC.out _ (HKB.out _ hk2) | exact HCC.out _ (HKB.out _ hk1) | exact HCC.out _ (HKB.out _ hkD))
        ((first
          | (go_at_call 73; first
              | (refine (HT2.out _ _ _ ho1).mono ?_; rintro e w4 ⟨v4, rfl, ho2, hb4⟩; have hk2 := below_chain hk1 hk1.size hb4)
              | (refine (HT.out _ _ _ (HOA.out _ hkD)).mono ?_; rintro e w3 ⟨v3, rfl, ho1, hb3⟩; have hk1 := below_chain hkD hkD.size hb3))
          | (go_at_call 74; refine (HY.out _).mono ?_; rintro e w5 ⟨v5, rfl, hoU, hb5⟩; have hk3 := below_chain hk2 hk2.size hb5; have ho2' := ho2.below hb5)
          | (go_at_call 72; refine (HQ.out _ _ _ _ _ ho2' hoU).mono ?_; rintro e w6 ⟨v6, rfl, hoQ, hb6⟩; have hk4 := below_chain hk3 hk3.size hb6)))
      all_goals
        have hq6 := below_chain hq hq.size hk4
        have ho8 : Own w6 w.heap.size v6 (ordsB l (j + 1)) := by rw [HNX.out, HE.out]; exact hoQ.more (Nat.le_trans hq.size (Nat.le_trans hk3.size (Nat.le_refl _)))
        go_wp2_with fail
        exact ⟨⟨j + 1, by omega, by go_num, ho8, hq6⟩, by simp [intOf]; omega⟩
    · have hjn : j = n := by omega
      have i2 : ¬ (j : Int) < (n : Int) := by omega
      subst hjn
      have hO := Lib.hid ho
      obtain ⟨Ab, cb, rfl⟩ := ho.form
      generalize (ordsB l j).length = m at *
      go_wp2_with fail
      go_ret
      exact ⟨_, rfl, hO.out, hb⟩
end Go.Proofs.YtlkbjhhbpmmamaaGreatDoor
namespace Go.Proofs.YtlkbjhhbpmmamaaGreatDoor
set_option maxRecDepth 100000
open Go Go.RowKit
set_option linter.unusedVariables false

def OrdV.fit (o : OrdV) : Prop := o.x.ok ∧ o.t.size ≤ maxLen ∧ o.d.size ≤ maxLen
theorem OSt.at_fit {s : OSt} (h : ∀ o ∈ s.acc, o.fit) (j : Nat) : ∀ o ∈ (s.at j).acc, o.fit := by
  induction j with
  | zero => exact h
  | succ j ih =>
    intro o ho
    have e : (s.at (j + 1)).acc = (s.at j).acc ++ [(s.at j).o] := rfl
    rw [e] at ho
    rcases List.mem_append.1 ho with ho | ho
    · exact ih o ho
    · rw [List.mem_singleton.1 ho]
      have b1 := rB_le (s.at j).rest (s.at j).fault
      have b2 := rB_le (rB (s.at j).rest (s.at j).fault).2.1 (rB (s.at j).rest (s.at j).fault).2.2
      refine ⟨fromU_ok _, ?_, ?_⟩
      · show (rB (s.at j).rest (s.at j).fault).1.toArray.size ≤ maxLen
        unfold maxLen
        simp
        omega
      · show (rB (rB (s.at j).rest (s.at j).fault).2.1 (rB (s.at j).rest (s.at j).fault).2.2).1.toArray.size ≤ maxLen
        unfold maxLen
        simp
        omega
theorem ordsR_fit (b : List UInt8) : ∀ o ∈ (ordsR b).acc, o.fit := by
  unfold ordsR
  exact OSt.at_fit (fun o h => by cases h) _
theorem ordsR_len (b : List UInt8) : (ordsR b).acc.length ≤ 8 := by
  have h := rC_range b
  unfold ordsR
  rw [OSt.at_acc]
  simp
  omega
theorem OwnOr.ords {w : World} {B : Nat} {v : Value} {l : List OrdV} (h : OwnOr w B v l) : OrdsAt w v l := by
  obtain ⟨A, c, rfl⟩ := h.form
  refine ⟨A, c, rfl, fun h0 => ?_⟩
  obtain ⟨g, rfl, hg, hc⟩ := h.at_ 0 h0
  refine ⟨g, 0, rfl, hg, fun j hj i u hi hu => ?_⟩
  obtain ⟨g', e, _, hc'⟩ := h.at_ j hj
  injection e with e
  injection e with e _ _
  subst e
  have := hc' i u (by simpa [OrdV.cells, OrdV.cl] using hu)
  simpa using this
theorem OrdsAt.up {w w' : World} {v : Value} {l : List OrdV} (h : OrdsAt w v l) (hb : Below w.heap.size w w') : OrdsAt w' v l := by
  obtain ⟨A, c, rfl, hc⟩ := h
  refine ⟨A, c, rfl, fun h0 => ?_⟩
  obtain ⟨b, o, rfl, hb1, hcell⟩ := hc h0
  exact ⟨b, o, rfl, Nat.lt_of_lt_of_le hb1 hb.size, fun j hj i u hi hu => (hb.cell (p := ⟨b, o + j * 6 + i, none⟩) hb1).trans (hcell j hj i u hi hu)⟩
end Go.Proofs.YtlkbjhhbpmmamaaGreatDoor
