/- Texts joined: RChn2, AtP, ValA0, ValQ0, ValB, Ord0, MsgV, Make3, ClnF0, ValH, RShaG0, ValG, ClnN1. -/
import Derived.Test.YtpcoonnfaoakhaaGreatDoorM22
import Derived.Test.YtpcoonnfaoakhaaGreatDoorM14
import Derived.Test.YtpcoonnfaoakhaaGreatDoorM17
import Derived.Test.YtpcoonnfaoakhaaGreatDoorM09
import Derived.Test.YtpcoonnfaoakhaaGreatDoorM01
import Derived.LoopTactic
import Derived.BigQuiet
import Derived.Deep.QuietTactic
import Derived.WalkLawsBesides
import Derived.StringKeys
import Derived.Maps.OwnSet
import Derived.Test.YtpcoonnfaoakhaaGreatDoorM05
import Derived.Deep.RegionHeldLaw
import Derived.Test.YtpcoonnfaoakhaaGreatDoorM02
import Derived.Test.YtpcoonnfaoakhaaGreatDoorM08
import Derived.Test.YtpcoonnfaoakhaaGreatDoorM20
import Derived.Test.YtpcoonnfaoakhaaGreatDoorM13
import Derived.Test.YtpcoonnfaoakhaaGreatDoorM21
import Derived.Test.YtpcoonnfaoakhaaGreatDoorM04
import Derived.Deep.MidRow
namespace Go.Proofs.YtpcoonnfaoakhaaGreatDoor
set_option maxRecDepth 100000
open Go Go.RowKit
set_option linter.unusedVariables false

theorem newID_szD (R : List Pr) (kind : ByteArray) (hk : kind.size ≤ 1000) (hd : (decB (numN R kind)).size ≤ 1000) : (newID R kind).size ≤ 3000 := by
  unfold newID
  rw [ByteArray.size_append, ByteArray.size_append, dash_size]
  omega
set_option maxHeartbeats 8000000 in
theorem rbegin16_any {w0 w : World} {b N : Nat} {R : List Pr} (h : Doc w0 b R N w) (hN : N + 5 ≤ 100000000) (hd : (decB (numN R sChan)).size ≤ 1000) (c : ChV) (h_st : c.st < 18446744073709551616) (h_po : c.po.size ≤ maxLen) (h_cp : c.cp.size ≤ maxLen) (h_cn : c.cn.size ≤ maxLen) (h_cc : c.cc.size ≤ maxLen) (h_ve : c.ve.size ≤ maxLen) :
    Calls Tryz.prog 92 #[.pointer (some ⟨b, 0, none⟩), c.val] w fun e w' => e = .returned (.string (newID R sChan)) ∧ Doc w0 b (madeCh R c) (N + 5) w' ∧ Chg w w' (fun k => k = b) := by
  have hbox := heap_alloc_new w (.cells #[.int .u64 (c.st : Int), .bool c.od, .string c.po, .string c.cp, .string c.cn, .string c.cc, .string c.ve] 71)
  have ha0 : Below w.heap.size w (w.alloc (.cells #[.int .u64 (c.st : Int), .bool c.od, .string c.po, .string c.cp, .string c.cn, .string c.cc, .string c.ve] 71)) := (Below.refl _ _).alloc (Nat.le_refl _) _
  have A0 := h.up ha0
  generalize hW0 : w.alloc (.cells #[.int .u64 (c.st : Int), .bool c.od, .string c.po, .string c.cp, .string c.cn, .string c.cc, .string c.ve] 71) = W0 at *
  have hgl := blk_lt hbox
  have hnb : ¬ w.heap.size = b := DocS.ne_cell A0.s (blk_cell hbox 0) (by simp) (by simp)
  have hcW : Chg w W0 (fun k => k = b) := Chg.of_below ha0 _
  generalize hgg : w.heap.size = g0 at *
  have HC : Hid (∀ Z, Chg W0 Z (fun k => k = b) → Z.cell? ⟨g0, 0, none⟩ = some (.int .u64 (c.st : Int)) ∧ Z.cell? ⟨g0, 1, none⟩ = some (.bool c.od) ∧ Z.cell? ⟨g0, 2, none⟩ = some (.string c.po) ∧ Z.cell? ⟨g0, 3, none⟩ = some (.string c.cp) ∧ Z.cell? ⟨g0, 4, none⟩ = some (.string c.cn) ∧ Z.cell? ⟨g0, 5, none⟩ = some (.string c.cc) ∧ Z.cell? ⟨g0, 6, none⟩ = some (.string c.ve)) := Lib.hid fun Z hz => ⟨blk_cell ((hz.block _ hgl hnb).trans hbox) 0, blk_cell ((hz.block _ hgl hnb).trans hbox) 1, blk_cell ((hz.block _ hgl hnb).trans hbox) 2, blk_cell ((hz.block _ hgl hnb).trans hbox) 3, blk_cell ((hz.block _ hgl hnb).trans hbox) 4, blk_cell ((hz.block _ hgl hnb).trans hbox) 5, blk_cell ((hz.block _ hgl hnb).trans hbox) 6⟩
  have HN := Lib.hid (rnewid_any A0 (by omega) sChan (by decide +kernel) hd)
  have zid := newID_szD R sChan (by decide +kernel) hd
  have HP : Hid (∀ Z, Doc w0 b (newR R sChan) (N + 1) Z → Calls Tryz.prog 153 #[.pointer (some ⟨b, 0, none⟩), .string (newID R sChan), c.val] Z fun e w' => e = .returned (.tuple #[]) ∧ Doc w0 b (setL (kChn (newID R sChan)) (chB c) (newR R sChan)) (N + 1 + 1) w' ∧ Chg Z w' (fun k => k = b)) :=
    Lib.hid fun Z hz => rchput_any hz (by omega) _ (by omega) c h_st h_po h_cp h_cn h_cc h_ve
  have hmade : madeCh R c = setL (ackedP ++ newID R sChan) (be 1 8) (setL (recvP ++ newID R sChan) (be 1 8) (setL (nextP ++ newID R sChan) (be 1 8) (setL (kChn (newID R sChan)) (chB c) (newR R sChan)))) := rfl
  rw [hmade]
  generalize setL (kChn (newID R sChan)) (chB c) (newR R sChan) = R2 at *
  generalize newR R sChan = R1 at *
  generalize newID R sChan = id at *
  have HK1 := Lib.hid (fun Z : World => rchnext_any id Z (by omega))
  have HK2 := Lib.hid (fun Z : World => rchrecv_any id Z (by omega))
  have HK3 := Lib.hid (fun Z : World => rchacked_any id Z (by omega))
  have y1 : (nextP ++ id).size ≤ maxLen := by rw [ByteArray.size_append, show nextP.size = 9 from rfl]; unfold maxLen; omega
  have y2 : (recvP ++ id).size ≤ maxLen := by rw [ByteArray.size_append, show recvP.size = 9 from rfl]; unfold maxLen; omega
  have y3 : (ackedP ++ id).size ≤ maxLen := by rw [ByteArray.size_append, show ackedP.size = 10 from rfl]; unfold maxLen; omega
  generalize nextP ++ id = k1 at *
  generalize recvP ++ id = k2 at *
  generalize ackedP ++ id = k3 at *
  have HNW : Hid (∀ Z : World, Calls Tryz.prog 74 #[.slice none 0 0, .int .u64 1] Z fun e w' => ∃ v', e = .returned v' ∧ Own w' Z.heap.size v' (be 1 8) ∧ Below Z.heap.size Z w') := Lib.hid fun Z => by
    have := refN_any (.slice none 0 0) [] 1 Z (Rd.nil _ _) (by decide) (by simp)
    rwa [List.nil_append] at this
  have HS : Hid (∀ (key : ByteArray) (hk : key.size ≤ maxLen) (Z : World) (R' : List Pr) (M : Nat) (hM : M + 1 ≤ N + 5) (hz : Doc w0 b R' M Z) (Z2 : World) (h2 : Below Z.heap.size Z Z2) (v : Value) (B : Nat) (ho : Own Z2 B v (be 1 8)), Calls Tryz.prog 79 #[.pointer (some ⟨b, 0, none⟩), .string key, v] Z2 fun e w' => (∃ c, e = .returned (.int .i64 c)) ∧ Doc w0 b (setL key (be 1 8) R') (M + 1) w' ∧ Chg Z2 w' (fun k => k = b)) :=
    Lib.hid fun key hk Z R' M hM hz Z2 h2 v B ho => (hz.up h2).setAny (by omega) key hk v _ ho.rd (by rw [be_length]; decide)
  have HY := Lib.hid (And.intro y1 (And.intro y2 y3))
  have hbl : (be 1 8).length = 8 := be_length 1 8
  obtain ⟨st, od, po, cp, cn, cc, ve⟩ := c
  unfold ChV.val at *
  dsimp only at *
  clear hmade zid h A0 y1 y2 y3 ha0 h_st h_po h_cp h_cn h_cc h_ve hbox hd hnb
  generalize be 1 8 = L1 at *
  have HBL := Lib.hid hbl
  clear hbl
  unfold sChan at HN
  go_enter Tryz.func92, Tryz.ntmps92
  go_wp2_with fail
  try rw [hW0]
  clear hW0
  try rw [hgg]
  refine HN.out.mono ?_
  rintro e w1 ⟨rfl, A1, hc1⟩
  have HP1 := Lib.hid (HP.out _ A1)
  obtain ⟨b0, b1, b2, b3, b4, b5, b6⟩ := HC.out _ hc1
  have hq1 := hcW.trans' hc1
  clear HN HP A1 HC hc1
  go_wp2_with fail
  refine HP1.out.mono ?_
  rintro e w2 ⟨rfl, A2, hc2⟩
  have hq2 := hq1.trans' hc2
  clear HP1 b0 b1 b2 b3 b4 b5 b6 hc2 hq1
  go_wp2_with fail
  refine (HK1.out _).mono ?_
  rintro e w3 ⟨rfl, rfl⟩
  go_wp2_with fail
  refine (HNW.out _).mono ?_
  rintro e w3 ⟨v3, rfl, ho3, hb3⟩
  have HS3 := Lib.hid (HS.out k1 HY.out.1 _ R2 (N + 1 + 1) (by omega) A2 _ hb3 _ _ ho3)
  obtain ⟨A3, c3, rfl⟩ := ho3.form
  rw [HBL.out] at HS3 ⊢
  have hq3 := hq2.trans' (Chg.of_below hb3 _)
  clear ho3 A2 hq2 hb3
  go_wp2_with fail
  refine HS3.out.mono ?_
  rintro e w4 ⟨⟨x4, rfl⟩, A4, hc4⟩
  have hq4 := hq3.trans' hc4
  clear HS3 hq3 hc4
  go_wp2_with fail
  refine (HK2.out _).mono ?_
  rintro e w5 ⟨rfl, rfl⟩
  go_wp2_with fail
  refine (HNW.out _).mono ?_
  rintro e w5 ⟨v5, rfl, ho5, hb5⟩
  have HS5 := Lib.hid (HS.out k2 HY.out.2.1 _ _ (N + 1 + 1 + 1) (by omega) A4 _ hb5 _ _ ho5)
  obtain ⟨A5, c5, rfl⟩ := ho5.form
  rw [HBL.out] at HS5 ⊢
  have hq5 := hq4.trans' (Chg.of_below hb5 _)
  clear ho5 A4 hq4 hb5
  go_wp2_with fail
  refine HS5.out.mono ?_
  rintro e w6 ⟨⟨x6, rfl⟩, A6, hc6⟩
  have hq6 := hq5.trans' hc6
  clear HS5 hq5 hc6
  go_wp2_with fail
  refine (HK3.out _).mono ?_
  rintro e w7 ⟨rfl, rfl⟩
  go_wp2_with fail
  refine (HNW.out _).mono ?_
  rintro e w7 ⟨v7, rfl, ho7, hb7⟩
  have HS7 := Lib.hid (HS.out k3 HY.out.2.2 _ _ (N + 1 + 1 + 1 + 1) (by omega) A6 _ hb7 _ _ ho7)
  obtain ⟨A7, c7, rfl⟩ := ho7.form
  rw [HBL.out] at HS7 ⊢
  have hq7 := hq6.trans' (Chg.of_below hb7 _)
  clear ho7 A6 hq6 hb7
  go_wp2_with fail
  refine HS7.out.mono ?_
  rintro e w8 ⟨⟨x8, rfl⟩, A8, hc8⟩
  have hq8 := hq7.trans' hc8
  clear HS7 hq7 hc8 HS HNW HK1 HK2 HK3
  go_wp2_with fail
  go_ret
  exact ⟨rfl, A8, hq8⟩
set_option maxHeartbeats 8000000 in
/-- a channel that is asked for over a connection that is open -/
theorem rBegin16_yes {w0 w : World} {b N : Nat} {R : List Pr} (h : Doc w0 b R N w) (hN : N + 5 ≤ 100000000) (hd : (decB (numN R sChan)).size ≤ 1000) (via po cp : ByteArray) (od : Bool) (ve : ByteArray) (h_via : via.size ≤ 100000000) (h_po : po.size ≤ 100000000) (h_cp : cp.size ≤ 100000000) (h_ve : ve.size ≤ 100000000) (hO0 : openE R via = 0) :
    Calls Tryz.prog 29 #[.pointer (some ⟨b, 0, none⟩), .string via, .string po, .string cp, .bool od, .string ve] w fun e w' => e = .returned (.tuple #[.string (beginI R via po cp od ve), .int .i64 (beginE R via po cp od ve)]) ∧ Doc w0 b (beginR R via po cp od ve) (N + 5) w' ∧ Chg w w' (fun k => k = b) := by
  have hbox := heap_alloc_new w (.cells #[.int .u64 1, .bool od, .string po, .string cp, .string via, .string ⟨#[]⟩, .string ve] 71)
  have ha0 : Below w.heap.size w (w.alloc (.cells #[.int .u64 1, .bool od, .string po, .string cp, .string via, .string ⟨#[]⟩, .string ve] 71)) := (Below.refl _ _).alloc (Nat.le_refl _) _
  have A0 := h.up ha0
  have HO := Lib.hid (ropen16_any (A0.rget (by omega)) via h_via)
  have hgl := blk_lt hbox
  generalize hW0 : w.alloc (.cells #[.int .u64 1, .bool od, .string po, .string cp, .string via, .string ⟨#[]⟩, .string ve] 71) = W0 at *
  generalize hgg : w.heap.size = g0 at *
  have HC : Hid (∀ Z, Below W0.heap.size W0 Z → Z.cell? ⟨g0, 0, none⟩ = some (.int .u64 1) ∧ Z.cell? ⟨g0, 1, none⟩ = some (.bool od) ∧ Z.cell? ⟨g0, 2, none⟩ = some (.string po) ∧ Z.cell? ⟨g0, 3, none⟩ = some (.string cp) ∧ Z.cell? ⟨g0, 4, none⟩ = some (.string via) ∧ Z.cell? ⟨g0, 5, none⟩ = some (.string ⟨#[]⟩) ∧ Z.cell? ⟨g0, 6, none⟩ = some (.string ve)) := Lib.hid fun Z hz => ⟨blk_cell ((hz.block _ hgl).trans hbox) 0, blk_cell ((hz.block _ hgl).trans hbox) 1, blk_cell ((hz.block _ hgl).trans hbox) 2, blk_cell ((hz.block _ hgl).trans hbox) 3, blk_cell ((hz.block _ hgl).trans hbox) 4, blk_cell ((hz.block _ hgl).trans hbox) 5, blk_cell ((hz.block _ hgl).trans hbox) 6⟩
  have HF : Hid (∀ Z : World, Calls Tryz.prog 91 #[.agg #[.int .u64 1, .bool od, .string po, .string cp, .string via, .string ⟨#[]⟩, .string ve], .bool true] Z fun e w' => e = .returned (.int .i64 (formM po cp od ve)) ∧ Below Z.heap.size Z w') := Lib.hid fun Z => (rform16_any 1 od po cp via ⟨#[]⟩ ve true Z h_ve).mono fun e w' ⟨h1, h2⟩ => ⟨by rw [h1, if_pos rfl], h2⟩
  have HM : Hid (∀ Z, Below W0.heap.size W0 Z → Calls Tryz.prog 92 #[.pointer (some ⟨b, 0, none⟩), .agg #[.int .u64 1, .bool od, .string po, .string cp, .string via, .string ⟨#[]⟩, .string ve]] Z fun e w' => e = .returned (.string (newID R sChan)) ∧ Doc w0 b (madeCh R ⟨1, od, po, cp, via, ⟨#[]⟩, ve⟩) (N + 5) w' ∧ Chg Z w' (fun k => k = b)) :=
    Lib.hid fun Z hz => rbegin16_any (A0.up hz) hN hd ⟨1, od, po, cp, via, ⟨#[]⟩, ve⟩ (by show 1 < _; decide) (by show po.size ≤ _; unfold maxLen; omega) (by show cp.size ≤ _; unfold maxLen; omega) (by show via.size ≤ _; unfold maxLen; omega) (by show 0 ≤ _; omega) (by show ve.size ≤ _; unfold maxLen; omega)
  have HA := Lib.hid (fun (Z : World) (hz : Below W0.heap.size W0 Z) => (A0.up hz).more (show N ≤ N + 5 by omega))
  have hcW : Chg w W0 (fun k => k = b) := Chg.of_below (by rw [hgg]; exact ha0) _
  unfold beginI beginR beginE
  rw [hO0] at HO ⊢
  generalize madeCh R ⟨1, od, po, cp, via, ⟨#[]⟩, ve⟩ = R2 at *
  generalize newID R sChan = id at *
  generalize formM po cp od ve = F at *
  generalize openV R via = V at *
  obtain ⟨st, cl, cc, ct⟩ := V
  unfold CnV.val at HO
  dsimp only at HO
  clear h hN hd h_via h_po h_cp h_ve A0 hbox hO0 ha0
  simp only [if_true]
  obtain ⟨II, hII⟩ : ∃ x, x = (if F = 0 then id else (⟨#[]⟩ : ByteArray)) := ⟨_, rfl⟩
  obtain ⟨RR, hRR⟩ : ∃ x, x = (if F = 0 then R2 else R) := ⟨_, rfl⟩
  rw [← hII, ← hRR]
  have HII := Lib.hid (And.intro hII hRR)
  clear hII hRR
  go_enter Tryz.func29, Tryz.ntmps29
  go_wp2_with fail
  try rw [hW0]
  clear hW0
  try rw [hgg]
  refine HO.out.mono ?_
  rintro e w1 ⟨rfl, hb1⟩
  have hb2 := hb1.alloc hb1.size (.cells #[.int .u64 (st : Int), .string cl, .string cc, .string ct] 133)
  obtain ⟨c0, c1, c2, c3, c4, c5, c6⟩ := HC.out _ hb2
  clear hb1 HO
  go_wp2_with fail
  generalize w1.alloc (.cells #[.int .u64 (st : Int), .string cl, .string cc, .string ct] 133) = w2 at *
  refine (HF.out _).mono ?_
  rintro e w3 ⟨rfl, hb3⟩
  have hq3 := below_chain hb2 hb2.size hb3
  clear c0 c1 c2 c3 c4 c5 c6 hb2 hb3
  by_cases hF : F = 0
  · replace HII : Hid (II = id ∧ RR = R2) := Lib.hid ⟨by rw [HII.out.1, if_pos hF], by rw [HII.out.2, if_pos hF]⟩
    subst hF
    obtain ⟨c0, c1, c2, c3, c4, c5, c6⟩ := HC.out _ hq3
    have HM3 := Lib.hid (HM.out _ hq3)
    have hk3 := hcW.trans' (Chg.of_below hq3 _)
    clear HF HA HM hq3 HC
    go_wp2_with fail
    refine HM3.out.mono ?_
    rintro e w4 ⟨rfl, A4, hc4⟩
    have hkf := hk3.trans' hc4
    go_wp2_with fail
    go_ret2
    rw [HII.out.1, HII.out.2]
    exact ⟨rfl, A4, hkf⟩
  · have he : (F != 0) = true := by simpa using hF
    replace HII : Hid (II = ⟨#[]⟩ ∧ RR = R) := Lib.hid ⟨by rw [HII.out.1, if_neg hF], by rw [HII.out.2, if_neg hF]⟩
    have A3 := HA.out _ hq3
    have hk3 := hcW.trans' (Chg.of_below hq3 _)
    clear HF HA HM hq3 HC hF
    go_wp2_with fail
    go_ret2
    rw [HII.out.1, HII.out.2]
    exact ⟨rfl, A3, hk3⟩
set_option maxHeartbeats 8000000 in
/-- a channel that is tried over an open connection, by a client that shows nothing -/
theorem rTry16_no {w : World} {b : Nat} {R : List Pr} (h : RGet w b R) (st : Nat) (od : Bool) (po cp cn cc ve : ByteArray) (h_po : po.size ≤ 1048576) (h_cp : cp.size ≤ 1048576) (h_cn : cn.size ≤ 1048576) (h_cc : cc.size ≤ 1048576) (h_ve : ve.size ≤ 1048576) (ht now : Nat)
    (n : Int) (A : Option Addr) (m c : Nat) (hO0 : openE R cn = 0) (hvs : (openV R cn).cl.size ≤ 1048576 ∧ (openV R cn).ct.size ≤ 1048576) (hal : aliveE R (openV R cn).cl ≠ 0) :
    Calls Tryz.prog 31 #[.pointer (some ⟨b, 0, none⟩), .agg #[.int .u64 (st : Int), .bool od, .string po, .string cp, .string cn, .string cc, .string ve], .int .u64 (ht : Int), .agg #[.int .i64 n, .slice A m c], .int .u64 (now : Int)] w fun e w' => e = .returned (.tuple #[.string ⟨#[]⟩, .int .i64 (if formM cp po od ve = 0 then (if identB cc = true then aliveE R (openV R cn).cl else 40) else formM cp po od ve)]) ∧ Below w.heap.size w w' := by
  have hb1 : Below w.heap.size w (w.alloc (.cells #[.int .u64 2, .bool od, .string po, .string cp, .string cn, .string cc, .string ve] 71)) := (Below.refl _ _).alloc (Nat.le_refl _) _
  have ha0 := hb1.alloc hb1.size (.cells #[.int .i64 n, .slice A m c] 69)
  have q1 := heap_alloc_new w (.cells #[.int .u64 2, .bool od, .string po, .string cp, .string cn, .string cc, .string ve] 71)
  have q2 := heap_alloc_new (w.alloc (.cells #[.int .u64 2, .bool od, .string po, .string cp, .string cn, .string cc, .string ve] 71)) (.cells #[.int .i64 n, .slice A m c] 69)
  replace q1 := (Below.heap_alloc (w.alloc (.cells #[.int .u64 2, .bool od, .string po, .string cp, .string cn, .string cc, .string ve] 71)) (.cells #[.int .i64 n, .slice A m c] 69) _ (blk_lt q1)).trans q1
  rw [show (w.alloc (.cells #[.int .u64 2, .bool od, .string po, .string cp, .string cn, .string cc, .string ve] 71)).heap.size = w.heap.size + 1 by simp] at q2
  clear hb1
  generalize hW1 : (w.alloc (.cells #[.int .u64 2, .bool od, .string po, .string cp, .string cn, .string cc, .string ve] 71)).alloc (.cells #[.int .i64 n, .slice A m c] 69) = W1 at *
  have p1 := q1
  have p2 := q2
  have ha1 := ha0
  have HUP := Lib.hid (fun (Z : World) (hz : Below W1.heap.size W1 Z) => h.up (below_chain ha1 ha1.size hz))
  have hO := ropen16_any (HUP.out _ (Below.refl _ _)) cn (by omega)
  obtain ⟨V, hV⟩ : ∃ v, v = openV R cn := ⟨_, rfl⟩
  rw [hO0, ← hV] at hO
  rw [← hV] at hal ⊢
  have HSH : Hid (∀ Z, Below W1.heap.size W1 Z → Calls Tryz.prog 95 #[.pointer (some ⟨b, 0, none⟩), .agg #[.int .u64 2, .bool od, .string po, .string cp, .string cn, .string cc, .string ve], .string ⟨#[]⟩, .int .u64 1, .int .u64 (ht : Int), .agg #[.int .i64 n, .slice A m c], .int .u64 (now : Int)] Z fun e w' => e = .returned (.int .i64 (aliveE R V.cl)) ∧ Below Z.heap.size Z w') := Lib.hid fun Z hz => by
    have := rshown16_no (HUP.out Z hz) ⟨#[]⟩ (by decide) 2 1 od po cp cn cc ve (by decide) h_po h_cp h_cn h_cc h_ve ht now n A m c hO0 hvs (by rw [← hV]; exact hal)
    rw [← hV] at this
    exact this
  have HF : Hid (∀ Z : World, Calls Tryz.prog 91 #[.agg #[.int .u64 2, .bool od, .string po, .string cp, .string cn, .string cc, .string ve], .bool false] Z fun e w' => e = .returned (.int .i64 (formM cp po od ve)) ∧ Below Z.heap.size Z w') := Lib.hid fun Z => (rform16_any 2 od po cp cn cc ve false Z (by omega)).mono fun e w' ⟨h1, h2⟩ => ⟨by rw [h1, if_neg (by decide)], h2⟩
  have HI : Hid (∀ Z : World, Calls Tryz.prog 94 #[.string cc] Z fun e w' => e = .returned (.bool (identB cc)) ∧ Z = w') := Lib.hid fun Z => rident_any cc Z (by unfold maxLen; omega)
  have HAL := Lib.hid hal
  generalize aliveE R V.cl = E at *
  obtain ⟨vst, vcl, vcc, vct⟩ := V
  unfold CnV.val at hO
  dsimp only at hO
  have HO := Lib.hid hO
  have HW : Hid (∀ Z, Below W1.heap.size W1 Z → Below w.heap.size w Z) := Lib.hid fun Z hz => below_chain ha1 ha1.size hz
  generalize hgg : w.heap.size = g0 at *
  have HC : Hid (∀ Z, Below W1.heap.size W1 Z → Z.cell? ⟨g0, 0, none⟩ = some (.int .u64 2) ∧ Z.cell? ⟨g0, 1, none⟩ = some (.bool od) ∧ Z.cell? ⟨g0, 2, none⟩ = some (.string po) ∧ Z.cell? ⟨g0, 3, none⟩ = some (.string cp) ∧ Z.cell? ⟨g0, 4, none⟩ = some (.string cn) ∧ Z.cell? ⟨g0, 5, none⟩ = some (.string cc) ∧ Z.cell? ⟨g0, 6, none⟩ = some (.string ve) ∧ Z.cell? ⟨g0 + 1, 0, none⟩ = some (.int .i64 n) ∧ Z.cell? ⟨g0 + 1, 1, none⟩ = some (.slice A m c)) := Lib.hid fun Z hz => by
    have e1 := (hz.block _ (blk_lt p1)).trans p1
    have e2 := (hz.block _ (blk_lt p2)).trans p2
    exact ⟨blk_cell e1 0, blk_cell e1 1, blk_cell e1 2, blk_cell e1 3, blk_cell e1 4, blk_cell e1 5, blk_cell e1 6, blk_cell e2 0, blk_cell e2 1⟩
  generalize formM cp po od ve = F at *
  generalize identB cc = bi at *
  have HW1 := Lib.hid hW1
  obtain ⟨EE, hEE⟩ : ∃ x, x = (if F = 0 then (if bi = true then E else 40) else F) := ⟨_, rfl⟩
  rw [← hEE]
  have HEE := Lib.hid hEE
  clear hEE
  have HGG := Lib.hid hgg
  clear hgg
  clear h h_po h_cp h_cn h_cc h_ve hO hV hal hO0 hvs p1 p2 q1 q2 ha0 ha1 hW1
  go_enter Tryz.func31, Tryz.ntmps31
  go_wp2_with fail
  rw [HW1.out]
  rw [HGG.out]
  refine HO.out.mono ?_
  rintro e w1 ⟨rfl, hb1⟩
  have hb2 := hb1.alloc hb1.size (.cells #[.int .u64 (vst : Int), .string vcl, .string vcc, .string vct] 133)
  clear HW1 hb1 HO
  obtain ⟨d0, d1, d2, d3, d4, d5, d6, d7, d8⟩ := HC.out _ hb2
  go_wp2_with fail
  generalize w1.alloc (.cells #[.int .u64 (vst : Int), .string vcl, .string vcc, .string vct] 133) = w2 at *
  refine (HF.out _).mono ?_
  rintro e w3 ⟨rfl, hb3⟩
  have hq3 := below_chain hb2 hb2.size hb3
  clear d0 d1 d2 d3 d4 d5 d6 d7 d8 hb2 hb3 HF
  rcases Classical.em (F = 0) with hF0 | hF
  rotate_left
  · have he : (F != 0) = true := by simpa using hF
    replace HEE : Hid (EE = F) := Lib.hid (by rw [HEE.out, if_neg hF])
    have hfin := HW.out _ hq3
    clear hF HC HW HSH HI
    go_wp2_with fail
    go_ret2
    rw [HEE.out]
    exact ⟨rfl, hfin⟩
  replace HEE : Hid (EE = if bi = true then E else 40) := Lib.hid (by rw [HEE.out, if_pos hF0])
  subst hF0
  obtain ⟨d0, d1, d2, d3, d4, d5, d6, d7, d8⟩ := HC.out _ hq3
  go_wp2_with fail
  refine (HI.out _).mono ?_
  rintro e w4 ⟨rfl, rfl⟩
  cases bi with
  | false =>
    have hfin := HW.out _ hq3
    clear HC HW HSH HI d0 d1 d2 d3 d4 d5 d6 d7 d8
    go_wp2_with fail
    go_ret2
    rw [show EE = 40 from HEE.out]
    exact ⟨rfl, hfin⟩
  | true =>
    have HS3 := Lib.hid (HSH.out _ hq3)
    have he : (E != 0) = true := by simpa using HAL.out
    clear HSH HI HAL
    go_wp2_with fail
    refine HS3.out.mono ?_
    rintro e w5 ⟨rfl, hb5⟩
    have hfin := HW.out _ (below_chain hq3 hq3.size hb5)
    clear HC HW HS3 d0 d1 d2 d3 d4 d5 d6 d7 d8
    go_wp2_with fail
    go_ret2
    rw [show EE = E from HEE.out]
    exact ⟨rfl, hfin⟩
end Go.Proofs.YtpcoonnfaoakhaaGreatDoor
namespace Go.Proofs.YtpcoonnfaoakhaaGreatDoor
set_option maxRecDepth 100000
open Go Go.RowKit
set_option linter.unusedVariables false

theorem Kept.blockP {w w' : World} (h : Kept w w') {b : Nat} {cs : Array Value} {t : TypeId} {fr : Nat × Nat} (hb : w.heap[b]? = some (.cells cs t fr)) : w'.heap[b]? = some (.cells cs t fr) := by
  obtain ⟨F, h1, h2⟩ := h
  have hn : ¬ F b := fun k => by
    obtain ⟨es, c, e⟩ := h2 _ k
    rw [hb] at e; cases e
  rw [h1.block b (blk_lt hb) hn]
  exact hb
section
variable {W W' : World} {y : Lyr} {l : List Lyr} {R : List Pr} {k : Nat}
theorem At.rise (h : At W y l R k W') : Rise R := by obtain ⟨n, f, h1, h2, h3, h4⟩ := h.b; exact h2.rise
theorem At.pairs (h : At W y l R k W') (hn : y.n + k + sumN l ≤ 1000000000) (pfx : ByteArray) (hp : pfx.size ≤ maxLen) :
    Calls Tryz.prog 15 #[.pointer (some ⟨y.b, 0, none⟩), .string pfx] W' fun e w' => ∃ v, e = .returned v ∧ OutP w' W'.heap.size v (R.filter (fun p => begB pfx p.1)) ∧ Below W'.heap.size W' w' := by
  obtain ⟨n, f, h1, h2, h3, h4⟩ := h.b
  have hs : SeenL pfx (⟨y.b, y.m, n, f⟩ :: l) (R.filter (fun p => begB pfx p.1)) := ⟨h2.rise.filter _, fun p hp => h2.small p (List.mem_filter.1 hp).1, fun s hs => by
    have := h2.get s hs
    rw [begB_empty, if_pos rfl] at this
    rw [getL_filter, this]⟩
  exact pairs_any h1 (by simp [sumN] at hn ⊢; omega) pfx hp hs
theorem At.root (h : At W y l R k W') (hn : y.n + k + sumN l ≤ 1000000000) (fr : TypeId × Nat × Nat) (hk : W'.heap[0]? = some (.cells kVals fr.1 fr.2)) :
    Calls Tryz.prog 9 #[.pointer (some ⟨y.b, 0, none⟩)] W' fun e w' => ∃ v, e = .returned v ∧ Own w' W'.heap.size v (rootM R).1 ∧ Below W'.heap.size W' w' := by
  obtain ⟨n, f, h1, h2, h3, h4⟩ := h.b
  exact sroot_any h1 (by simp [sumN] at hn ⊢; omega) h2 fr hk
end
/-- maps alone have turned: what floats in a region may be known of such worlds -/
def KepS (w Z : World) : Prop := Kept w Z
theorem KepS.refl (w : World) : KepS w w := Kept.refl w
/-! ### a cell of a struct of one's own is set: a store stays -/
section
variable {W w w' : World} {y : Lyr} {l : List Lyr} {R : List Pr} {k g : Nat} {cs : Array Value} {t : TypeId}
theorem At.size (h : At W y l R k w) : W.heap.size ≤ w.heap.size := by obtain ⟨n, f, h1, h2, h3, h4⟩ := h.b; exact h4.size
end
end Go.Proofs.YtpcoonnfaoakhaaGreatDoor
namespace Go.Proofs.YtpcoonnfaoakhaaGreatDoor
set_option maxRecDepth 100000
open Go

structure VD where
  name : ByteArray
  power : Nat

def VD.key (x : VD) : List UInt8 := x.name.data.toList
def okV (x : VD) : Bool := identL x.key && decide (1 ≤ x.power) && decide (x.power ≤ 4294967296)
def lessV (x y : VD) : Bool := Op.bytesLess x.name.toList y.name.toList
/-- is what stands at a place as it must be? -/
def goodAt (l : List VD) : Nat → Bool
  | 0 => (l[0]?).any okV
  | j + 1 => (l[j + 1]?).any fun x => okV x && (l[j]?).any fun y => lessV y x
def rightB (l : List VD) : Bool := decide (1 ≤ l.length) && decide (l.length ≤ 8) && (List.range l.length).all (goodAt l)

/-- the power of those whose name has a property -/
def vsum (p : List UInt8 → Bool) (l : List VD) : Nat := (l.map fun x => if p x.key = true then x.power else 0).sum
def powerN (l : List VD) : Nat := vsum (fun _ => true) l
def votedN (l : List VD) (votes : List (List UInt8)) : Nat := vsum (fun k => votes.contains k) l

def quorumB (l : List VD) (votes : List (List UInt8)) : Bool := rightB l && decide (2 * powerN l < 3 * votedN l votes)
def thirdB (l : List VD) (votes : List (List UInt8)) : Bool := rightB l && decide (powerN l < 3 * votedN l votes)

end Go.Proofs.YtpcoonnfaoakhaaGreatDoor
namespace Go.Proofs.YtpcoonnfaoakhaaGreatDoor
set_option maxRecDepth 100000
open Go Go.RowKit

def VD.fits (x : VD) : Prop := x.name.size ≤ maxLen ∧ x.power < 18446744073709551616
def ValAt (w : World) (b o : Nat) (x : VD) : Prop := w.cell? ⟨b, o, none⟩ = some (.string x.name) ∧ w.cell? ⟨b, o + 1, none⟩ = some (.int .u64 (x.power : Int))
/-- the slice value v reads as the validators l, in blocks below B -/
def ValsAt (w : World) (B : Nat) (v : Value) (l : List VD) : Prop :=
  ∃ A c, v = .slice A l.length c ∧ l.length ≤ c ∧ c ≤ maxLen ∧ (∀ x ∈ l, x.fits) ∧
    (0 < l.length → ∃ b o, A = some ⟨b, o, none⟩ ∧ b < B ∧ ∀ j (h : j < l.length), ValAt w b (o + j * 2) l[j])
/-- the slice value v reads as the texts l, in blocks below B -/
def StrsAt (w : World) (B : Nat) (v : Value) (l : List ByteArray) : Prop :=
  ∃ A c, v = .slice A l.length c ∧ l.length ≤ c ∧ c ≤ maxLen ∧ (∀ x ∈ l, x.size ≤ maxLen) ∧
    (0 < l.length → ∃ b o, A = some ⟨b, o, none⟩ ∧ b < B ∧ ∀ j (h : j < l.length), w.cell? ⟨b, o + j, none⟩ = some (.string l[j]))

section
variable {w w' : World} {B B' : Nat} {v : Value}
theorem ValsAt.below {l : List VD} (h : ValsAt w B v l) (hk : Below B w w') : ValsAt w' B v l := by
  obtain ⟨A, c, hv, hc, hm, hf, hp⟩ := h
  refine ⟨A, c, hv, hc, hm, hf, fun h0 => ?_⟩
  obtain ⟨b, o, hA, hb, ha⟩ := hp h0
  exact ⟨b, o, hA, hb, fun j hj => ⟨(hk.cell (p := ⟨b, o + j * 2, none⟩) hb).trans (ha j hj).1, (hk.cell (p := ⟨b, o + j * 2 + 1, none⟩) hb).trans (ha j hj).2⟩⟩
theorem ValsAt.more {l : List VD} (h : ValsAt w B v l) (hB : B ≤ B') : ValsAt w B' v l := by
  obtain ⟨A, c, hv, hc, hm, hf, hp⟩ := h
  refine ⟨A, c, hv, hc, hm, hf, fun h0 => ?_⟩
  obtain ⟨b, o, hA, hb, ha⟩ := hp h0
  exact ⟨b, o, hA, by omega, ha⟩
theorem ValsAt.up {l : List VD} (h : ValsAt w B v l) (hB : B ≤ w.heap.size) (hb : Below w.heap.size w w') : ValsAt w' w'.heap.size v l := ((h.more hB).below hb).more hb.size
theorem StrsAt.below {l : List ByteArray} (h : StrsAt w B v l) (hk : Below B w w') : StrsAt w' B v l := by
  obtain ⟨A, c, hv, hc, hm, hf, hp⟩ := h
  refine ⟨A, c, hv, hc, hm, hf, fun h0 => ?_⟩
  obtain ⟨b, o, hA, hb, ha⟩ := hp h0
  exact ⟨b, o, hA, hb, fun j hj => (hk.cell (p := ⟨b, o + j, none⟩) hb).trans (ha j hj)⟩
theorem StrsAt.more {l : List ByteArray} (h : StrsAt w B v l) (hB : B ≤ B') : StrsAt w B' v l := by
  obtain ⟨A, c, hv, hc, hm, hf, hp⟩ := h
  refine ⟨A, c, hv, hc, hm, hf, fun h0 => ?_⟩
  obtain ⟨b, o, hA, hb, ha⟩ := hp h0
  exact ⟨b, o, hA, by omega, ha⟩
theorem StrsAt.up {l : List ByteArray} (h : StrsAt w B v l) (hB : B ≤ w.heap.size) (hb : Below w.heap.size w w') : StrsAt w' w'.heap.size v l := ((h.more hB).below hb).more hb.size
theorem StrsAt.nil (w : World) (B : Nat) : StrsAt w B (.slice none 0 0) [] := ⟨none, 0, rfl, Nat.le_refl _, Nat.zero_le _, fun _ h => absurd h (by simp), fun h => absurd h (by simp)⟩
theorem StrsAt.form {l : List ByteArray} (h : StrsAt w B v l) : ∃ A c, v = .slice A l.length c := by obtain ⟨A, c, h, _⟩ := h; exact ⟨A, c, h⟩
theorem ValsAt.form {l : List VD} (h : ValsAt w B v l) : ∃ A c, v = .slice A l.length c := by obtain ⟨A, c, h, _⟩ := h; exact ⟨A, c, h⟩
end

def keysOf (l : List ByteArray) : List (List UInt8) := l.map fun s => s.data.toList
end Go.Proofs.YtpcoonnfaoakhaaGreatDoor
namespace Go.Proofs.YtpcoonnfaoakhaaGreatDoor
set_option maxRecDepth 100000
open Go Go.RowKit

end Go.Proofs.YtpcoonnfaoakhaaGreatDoor
namespace Go.Proofs.YtpcoonnfaoakhaaGreatDoor
set_option maxRecDepth 100000
open Go Go.RowKit Go.Maps Go.WideMaps

def litsOf (l : List ByteArray) : List Lit := l.map fun s => Lit.string s.data.toList
def setS (l : List ByteArray) : DataW Unit := setOf (.agg []) (litsOf l)
end Go.Proofs.YtpcoonnfaoakhaaGreatDoor
namespace Go.Proofs.YtpcoonnfaoakhaaGreatDoor
set_option maxRecDepth 100000
open Go Go.RowKit

end Go.Proofs.YtpcoonnfaoakhaaGreatDoor
namespace Go.Proofs.YtpcoonnfaoakhaaGreatDoor
set_option maxRecDepth 100000
open Go Go.RowKit

end Go.Proofs.YtpcoonnfaoakhaaGreatDoor
namespace Go.Proofs.YtpcoonnfaoakhaaGreatDoor
set_option maxRecDepth 100000
open Go Go.RowKit

end Go.Proofs.YtpcoonnfaoakhaaGreatDoor
namespace Go.Proofs.YtpcoonnfaoakhaaGreatDoor
set_option maxRecDepth 100000
open Go Go.RowKit

def formV (x : VD) : List UInt8 := be ((strBytes x.name).take 65535).length 4 ++ (strBytes x.name).take 65535 ++ be x.power 8
def formVs (l : List VD) : List UInt8 := l.flatMap formV
def bytesV (l : List VD) : List UInt8 := be l.length 8 ++ formVs l
/-- what a round of Bytes carries through its region -/
def BoxS (g B : Nat) (w0 : World) (x : VD) (v : Value) (L : List UInt8) (w' : World) : Prop := ValAt w' g 0 x ∧ g < w'.heap.size ∧ Own w' B v L ∧ Below B w0 w' ∧ B ≤ w'.heap.size ∧ v.ownBlock ≠ some g
section
variable {g B : Nat} {w0 w' w'' : World} {x : VD} {v : Value} {L : List UInt8}
theorem BoxS.drew (h : BoxS g B w0 x v L w') : BoxS g B w0 x v L w'.drew := ⟨h.1, h.2.1, h.2.2.1.drewN 1, below_drewN' h.2.2.2.1 1, h.2.2.2.2⟩
theorem BoxS.below (h : BoxS g B w0 x v L w') (hb : Below w'.heap.size w' w'') : BoxS g B w0 x v L w'' :=
  ⟨⟨(hb.cell (p := ⟨g, 0, none⟩) h.2.1).trans h.1.1, (hb.cell (p := ⟨g, 0 + 1, none⟩) h.2.1).trans h.1.2⟩, Nat.lt_of_lt_of_le h.2.1 hb.size, h.2.2.1.below hb, below_chain h.2.2.2.1 h.2.2.2.2.1 hb, Nat.le_trans h.2.2.2.2.1 hb.size, h.2.2.2.2.2⟩
theorem BoxS.c (h : BoxS g B w0 x v L w') : w'.cell? ⟨g, 0, none⟩ = some (.string x.name) ∧ w'.cell? ⟨g, 1, none⟩ = some (.int .u64 (x.power : Int)) := ⟨h.1.1, h.1.2⟩
theorem BoxS.grown (h : BoxS g B w0 x v L w') (hg : w'.grownBy w'' v.ownBlock) : w''.cell? ⟨g, 0, none⟩ = some (.string x.name) ∧ w''.cell? ⟨g, 1, none⟩ = some (.int .u64 (x.power : Int)) := by
  have := hg.block g h.2.1 (Ne.symm h.2.2.2.2.2)
  exact ⟨(World.cell?_of_block (a := ⟨g, 0, none⟩) this).trans h.1.1, (World.cell?_of_block (a := ⟨g, 0 + 1, none⟩) this).trans h.1.2⟩
end

def valsWord : ByteArray := ⟨#[118, 97, 108, 115]⟩
end Go.Proofs.YtpcoonnfaoakhaaGreatDoor
namespace Go.Proofs.YtpcoonnfaoakhaaGreatDoor
set_option maxRecDepth 100000
open Go Go.RowKit
set_option linter.unusedVariables false

structure OrdV where
  t : ByteArray
  d : ByteArray
  x : U4
def OrdV.cells (o : OrdV) : Array Value := #[.string o.t, .string o.d, .int .u64 (o.x.a : Int), .int .u64 (o.x.b : Int), .int .u64 (o.x.c : Int), .int .u64 (o.x.d : Int)]
def OrdsAt (W : World) (v : Value) (l : List OrdV) : Prop := ∃ A c, v = .slice A l.length c ∧ (0 < l.length → ∃ b o, A = some ⟨b, o, none⟩ ∧ b < W.heap.size ∧
  ∀ (j : Nat) (h : j < l.length) (i : Nat) (u : Value), i < 6 → l[j].cells[i]? = some u → W.cell? ⟨b, o + j * 6 + i, none⟩ = some u)
theorem OrdsAt.keptX {W W' : World} {v : Value} {l : List OrdV} (h : OrdsAt W v l) (hk : Kept W W') : OrdsAt W' v l := by
  obtain ⟨A, c, rfl, hc⟩ := h
  refine ⟨A, c, rfl, fun h0 => ?_⟩
  obtain ⟨b, o, rfl, hb1, hcell⟩ := hc h0
  have hs : W.heap.size ≤ W'.heap.size := by obtain ⟨F, h1, _⟩ := hk; exact h1.size
  exact ⟨b, o, rfl, Nat.lt_of_lt_of_le hb1 hs, fun j hj i u hi hu => hk.cell (hcell j hj i u hi hu)⟩
end Go.Proofs.YtpcoonnfaoakhaaGreatDoor
namespace Go.Proofs.YtpcoonnfaoakhaaGreatDoor
set_option maxRecDepth 100000
open Go Go.RowKit
set_option linter.unusedVariables false

section
variable {W W' : World} {v : Value}
end
/-- a header, with the rows of bytes that it names -/
structure HdW where
  ch : ByteArray
  ht : Nat
  tm : Nat
  vr : Value
  vv : Value
  vn : Value
  rt : List UInt8
  va : List UInt8
  nx : List UInt8
structure HdW.rd (W : World) (h : HdW) : Prop where
  r : Rd W W.heap.size h.vr h.rt
  v : Rd W W.heap.size h.vv h.va
  n : Rd W W.heap.size h.vn h.nx
  ht : h.ht < 18446744073709551616
  tm : h.tm < 18446744073709551616
/-- a packet -/
structure PkW where
  src : ByteArray
  dst : ByteArray
  seq : Nat
  vd : Value
  da : List UInt8
  ht : Nat
  tm : Nat
structure PkW.rd (W : World) (p : PkW) : Prop where
  d : Rd W W.heap.size p.vd p.da
  sq : p.seq < 18446744073709551616
  ht : p.ht < 18446744073709551616
  tm : p.tm < 18446744073709551616
/-- fees -/
structure PyW where
  d : ByteArray
  x : U4
  y : U4
  z : U4
/-- a message -/
structure MsgV where
  kd : Int
  to : ByteArray
  dn : ByteArray
  am : U4
  cl : ByteArray
  cc : ByteArray
  cn : ByteArray
  cd : ByteArray
  ch : ByteArray
  ce : ByteArray
  po : ByteArray
  pe : ByteArray
  ve : ByteArray
  od : Bool
  h : HdW
  o : HdW
  vs1 : Value
  s1 : List VD
  vs2 : Value
  s2 : List VD
  vs3 : Value
  s3 : List VD
  vt1 : Value
  t1 : List ByteArray
  vt2 : Value
  t2 : List ByteArray
  ht : Nat
  tm : Nat
  at_ : Nat
  per : Nat
  pk : PkW
  vak : Value
  ak : List UInt8
  vpf : Value
  pf : Pf
  nx : Nat
  pay : PyW
  vos : Value
  os : List OrdV
def MsgV.cells (m : MsgV) : List Value := [.int .i64 m.kd, .string m.to, .string m.dn, .int .u64 (m.am.a : Int), .int .u64 (m.am.b : Int), .int .u64 (m.am.c : Int), .int .u64 (m.am.d : Int), .string m.cl, .string m.cc, .string m.cn, .string m.cd, .string m.ch, .string m.ce, .string m.po, .string m.pe, .string m.ve, .bool m.od, .string m.h.ch, .int .u64 (m.h.ht : Int), .int .u64 (m.h.tm : Int), m.h.vr, m.h.vv, m.h.vn, .string m.o.ch, .int .u64 (m.o.ht : Int), .int .u64 (m.o.tm : Int), m.o.vr, m.o.vv, m.o.vn, m.vs1, m.vs2, m.vs3, m.vt1, m.vt2, .int .u64 (m.ht : Int), .int .u64 (m.tm : Int), .int .u64 (m.at_ : Int), .int .u64 (m.per : Int), .string m.pk.src, .string m.pk.dst, .int .u64 (m.pk.seq : Int), m.pk.vd, .int .u64 (m.pk.ht : Int), .int .u64 (m.pk.tm : Int), m.vak, .int .i64 m.pf.n, m.vpf, .int .u64 (m.nx : Int), .string m.pay.d, .int .u64 (m.pay.x.a : Int), .int .u64 (m.pay.x.b : Int), .int .u64 (m.pay.x.c : Int), .int .u64 (m.pay.x.d : Int), .int .u64 (m.pay.y.a : Int), .int .u64 (m.pay.y.b : Int), .int .u64 (m.pay.y.c : Int), .int .u64 (m.pay.y.d : Int), .int .u64 (m.pay.z.a : Int), .int .u64 (m.pay.z.b : Int), .int .u64 (m.pay.z.c : Int), .int .u64 (m.pay.z.d : Int), m.vos]
def MsgV.texts (m : MsgV) : List ByteArray := [m.to, m.dn, m.cl, m.cc, m.cn, m.cd, m.ch, m.ce, m.po, m.pe, m.ve, m.h.ch, m.o.ch, m.pk.src, m.pk.dst, m.pay.d]
def MsgV.lens (m : MsgV) : List Nat := [m.h.rt.length, m.h.va.length, m.h.nx.length, m.o.rt.length, m.o.va.length, m.o.nx.length, m.s1.length, m.s2.length, m.s3.length, m.t1.length, m.t2.length, m.pk.da.length, m.ak.length, m.pf.ls.length, m.os.length]
structure MsgV.rd (W : World) (m : MsgV) : Prop where
  in_kd : -9223372036854775808 ≤ m.kd ∧ m.kd ≤ 9223372036854775807
  ok_am : m.am.ok
  r_h : m.h.rd W
  r_o : m.o.rd W
  r_s1 : ValsAt W W.heap.size m.vs1 m.s1
  r_s2 : ValsAt W W.heap.size m.vs2 m.s2
  r_s3 : ValsAt W W.heap.size m.vs3 m.s3
  r_t1 : StrsAt W W.heap.size m.vt1 m.t1
  r_t2 : StrsAt W W.heap.size m.vt2 m.t2
  lt_ht : m.ht < 18446744073709551616
  lt_tm : m.tm < 18446744073709551616
  lt_at_ : m.at_ < 18446744073709551616
  lt_per : m.per < 18446744073709551616
  r_pk : m.pk.rd W
  r_ak : Rd W W.heap.size m.vak m.ak
  r_pf : LeavesV W W.heap.size m.vpf m.pf.ls
  in_pf : -9223372036854775808 ≤ m.pf.n ∧ m.pf.n ≤ 9223372036854775807
  lt_nx : m.nx < 18446744073709551616
  ok_pay : m.pay.x.ok ∧ m.pay.y.ok ∧ m.pay.z.ok
  r_os : OrdsAt W m.vos m.os
  ok_os : ∀ q ∈ m.os, q.x.ok ∧ q.t.size ≤ maxLen ∧ q.d.size ≤ maxLen
/-- all texts and rows are of at most n bytes or parts -/
structure MsgV.small (n : Nat) (m : MsgV) : Prop where
  t : ∀ s ∈ m.texts, s.size ≤ n
  l : ∀ k ∈ m.lens, k ≤ n
/-- a step -/
structure StepV where
  on : Int
  self : Nat
  now : Nat
  sg : ByteArray
  m : MsgV
def StepV.cells (x : StepV) : List Value := .int .i64 x.on :: .int .u64 (x.self : Int) :: .int .u64 (x.now : Int) :: .string x.sg :: x.m.cells
structure StepV.fine (x : StepV) : Prop where
  on : -9223372036854775808 ≤ x.on ∧ x.on ≤ 9223372036854775807
  self : x.self < 18446744073709551616
  now : x.now < 18446744073709551616
  sg : x.sg.size ≤ 1048576
  m : x.m.small 1048576
/-- steps handed in -/
def RdSt (W : World) (v : Value) (l : List StepV) : Prop := ∃ A c, v = .slice A l.length c ∧ (∀ x ∈ l, x.m.rd W) ∧ (0 < l.length → ∃ b o, A = some ⟨b, o, none⟩ ∧ b < W.heap.size ∧
  ∀ (j : Nat) (h : j < l.length) (i : Nat) (u : Value), i < 66 → l[j].cells[i]? = some u → W.cell? ⟨b, o + j * 66 + i, none⟩ = some u)
end Go.Proofs.YtpcoonnfaoakhaaGreatDoor
namespace Go.Proofs.YtpcoonnfaoakhaaGreatDoor
set_option maxRecDepth 100000
open Go Go.RowKit
set_option linter.unusedVariables false

/-- 32 zero bytes in a block of their own -/
def Zr (W : World) (g : Nat) : Prop := W.heap[g]? = some (.cells (bcells (List.replicate 32 0)).toArray 5 (0, 0))
/-- a struct of six cells in a block of its own -/
def Sx (t : TypeId) (cs : Array Value) (W : World) (g : Nat) : Prop := W.heap[g]? = some (.cells cs t (0, 0))
section
variable {W W' : World} {g g' : Nat} {t : TypeId} {cs : Array Value}
theorem Zr.alloc (h : Zr W g) (o : Obj) : Zr (W.alloc o) g := (Below.heap_alloc W o g (blk_lt h)).trans h
theorem Sx.alloc (h : Sx t cs W g) (o : Obj) : Sx t cs (W.alloc o) g := (Below.heap_alloc W o g (blk_lt h)).trans h
theorem Zr.below (h : Zr W g) (hb : Below W.heap.size W W') : Zr W' g := (hb.block _ (blk_lt h)).trans h
theorem Zr.new (W : World) : Zr (W.alloc (.cells (bcells (List.replicate 32 0)).toArray 5)) W.heap.size := heap_alloc_new W _
theorem Zr.ne (h : Zr W g) (k : Sx t cs W g') (hc : cs.size = 6) : g ≠ g' := fun e => by
  subst e
  unfold Zr at h
  unfold Sx at k
  rw [h] at k
  injection k with k
  injection k with k
  rw [← k] at hc
  simp [bcells] at hc
theorem Zr.set (h : Zr W g) (hne : g ≠ g') (i : Nat) (u : Value) : Zr (W.setCell ⟨g', i, none⟩ u) g := (Below.heap_setCell W ⟨g', i, none⟩ u g hne).trans h
theorem Zr.rd (h : Zr W g) : Rd W W.heap.size (.slice (some ⟨g, 0, none⟩) 32 32) (List.replicate 32 0) := by
  refine ⟨some ⟨g, 0, none⟩, 32, by simp, by simp, by simp [maxLen], fun _ => ⟨g, 0, rfl, blk_lt h, fun j hj => ?_⟩⟩
  rw [Nat.zero_add, blk_cell h, List.getElem?_toArray, bcells_get, List.getElem?_eq_getElem hj]
  rfl
end
end Go.Proofs.YtpcoonnfaoakhaaGreatDoor
namespace Go.Proofs.YtpcoonnfaoakhaaGreatDoor
set_option maxRecDepth 100000
open Go Go.RowKit
set_option linter.unusedVariables false

theorem dlist (a b : ByteArray) : (a ++ b).data.toList = a.data.toList ++ b.data.toList := by simp
theorem begQ_iff (p s : ByteArray) : begB p s = true ↔ ∃ r, s.data.toList = p.data.toList ++ r := by
  unfold begB
  simp only [Lib.hasPrefix]
  rw [List.isPrefixOf_iff_prefix]
  constructor
  · rintro ⟨t, ht⟩; exact ⟨t, ht.symm⟩
  · rintro ⟨t, ht⟩; exact ⟨t, ht.symm⟩
/-! ### what is written is read back -/
theorem rB_encQ (s : ByteArray) (h : s.size ≤ 65535) (rest : List UInt8) : rB (encS s ++ rest) 0 = (strBytes s, rest, 0) := by
  unfold encS
  rw [rB_enc, List.take_of_length_le (by rw [strBytes_length]; exact h)]
/-! ### keys -/
theorem keyB_of {a : ByteArray} (h1 : 1 ≤ a.size) (h2 : a.size ≤ 200) : keyB a = true := by
  unfold keyB
  simp only [Bool.and_eq_true, decide_eq_true_eq]
  omega
theorem getL_setL (key : ByteArray) (v : List UInt8) (R : List Pr) (s : ByteArray) (h : pairB (key, v) = true) : getL (setL key v R) s = if s = key then some v else getL R s := by
  unfold setL
  rw [if_pos h, getL_putL]
theorem getL_setL_ne (key : ByteArray) (v : List UInt8) (R : List Pr) (s : ByteArray) (h : s ≠ key) : getL (setL key v R) s = getL R s := by
  unfold setL
  split
  · rw [getL_putL, if_neg h]
  · rfl
theorem pairB_of {key : ByteArray} {v : List UInt8} (h1 : 1 ≤ key.size) (h2 : key.size ≤ 200) (h3 : v.length ≤ 65535) : pairB (key, v) = true := by
  unfold pairB
  simp only [Bool.and_eq_true, decide_eq_true_eq]
  exact ⟨keyB_of h1 h2, h3⟩
theorem app_inj {p a b : ByteArray} (h : p ++ a = p ++ b) : a = b := by
  have e := congrArg (fun s => s.data.toList) h
  simp only [dlist] at e
  have e2 := List.append_cancel_left e
  exact ByteArray.ext (by simpa using congrArg List.toArray e2)
theorem kCons_list (a : ByteArray) (n : Nat) : (kCons a n).data.toList = [105, 98, 99, 47, 99, 111, 110, 115] ++ ([47] ++ (a.data.toList ++ ([47] ++ (hexN n).data.toList))) := by
  unfold kCons consP slB
  rw [dlist, dlist, dlist]
  simp
theorem kNum_list (a : ByteArray) : (kNum a).data.toList = [105, 98, 99, 47, 110] ++ ([47] ++ a.data.toList) := by
  unfold kNum numP
  rw [dlist]
  rfl
theorem cons_ne_num (a b : ByteArray) (n : Nat) : kCons a n ≠ kNum b := fun e => by
  have e := congrArg (fun s => s.data.toList) e
  simp only [kNum_list, kCons_list] at e
  simp at e
/-! ### how many pairs -/
theorem lenF_no {p : ByteArray → Bool} {key : ByteArray} (hp : p key = false) (v : List UInt8) (R : List Pr) : ((putL (key, some v) R).filter (fun q => p q.1)).length = (R.filter (fun q => p q.1)).length := by
  have h := ((putL_perm key (some v) R).filter (fun q => p q.1)).length_eq
  rw [h]
  simp only [List.filter_append, List.filter_cons, List.filter_nil, hp, Bool.false_eq_true, if_false, List.nil_append, List.filter_filter]
  congr 1
  apply List.filter_congr
  intro q _
  by_cases e : q.1 = key
  · simp [e, hp]
  · simp [e]
theorem lenF_new {p : ByteArray → Bool} {key : ByteArray} (hp : p key = true) {R : List Pr} (hr : Rise R) (hn : getL R key = none) (v : List UInt8) : ((putL (key, some v) R).filter (fun q => p q.1)).length = (R.filter (fun q => p q.1)).length + 1 := by
  have h := ((putL_perm key (some v) R).filter (fun q => p q.1)).length_eq
  rw [h]
  have e : R.filter (fun q => !decide (q.1 = key)) = R := by
    apply List.filter_eq_self.2
    intro q hq
    have : q.1 ≠ key := fun e => by
      have := hr.get hq
      rw [e, hn] at this
      cases this
    simpa using this
  rw [e]
  simp [List.filter_append, hp]
theorem lenF_setNo {p : ByteArray → Bool} {key : ByteArray} (hp : p key = false) (v : List UInt8) (R : List Pr) : ((setL key v R).filter (fun q => p q.1)).length = (R.filter (fun q => p q.1)).length := by
  unfold setL
  split
  · exact lenF_no hp v R
  · rfl
theorem Rise.setL {R : List Pr} (h : Rise R) (key : ByteArray) (v : List UInt8) : Rise (Go.Proofs.YtpcoonnfaoakhaaGreatDoor.setL key v R) := by
  unfold Go.Proofs.YtpcoonnfaoakhaaGreatDoor.setL
  split
  · exact h.put _
  · exact h
/-! ### a store that no other chain has touched -/
def ibcP : ByteArray := ⟨#[105, 98, 99, 47]⟩
theorem beg_ibc (s : ByteArray) (r : List UInt8) (h : s.data.toList = [105, 98, 99, 47] ++ r) : begB ibcP s = true := (begQ_iff _ _).2 ⟨r, h⟩
theorem ibc_num (a : ByteArray) : begB ibcP (kNum a) = true := beg_ibc _ _ (by rw [kNum_list]; rfl)
theorem untouched {R : List Pr} (hr : Rise R) (h : R.filter (fun p => begB ibcP p.1) = []) {key : ByteArray} (hk : begB ibcP key = true) : getL R key = none := by
  have e := getL_filter R (fun s => begB ibcP s) key
  rw [h, if_pos hk] at e
  exact e.symm
def ClV.cs (v : ClV) : Array Value := #[.string v.ch, .int .u64 (v.la : Int), .int .u64 (v.pe : Int), .bool v.fr]
/-! ### what a client that is made leaves -/
section
variable {R : List Pr} {h : HdV} {pe now : Nat}
theorem numN_of {key : ByteArray} {n : Nat} (hn : n < 18446744073709551616) (e : getL R (kNum key) = some (be n 8)) : numN R key = n := by
  unfold numN
  rw [e]
  have := rN_enc n [] hn
  rw [List.append_nil] at this
  show (rN (be n 8) 0).1 = n
  rw [this]
structure MadeC (R R3 : List Pr) (h : HdV) (pe n : Nat) (id : ByteArray) : Prop where
  num : getL R3 (kNum sClient) = some (be (n + 1) 8)
  cl : getCl R3 id = some ⟨h.ch, h.ht, pe, false⟩
  cs : getCs R3 id h.ht = some ⟨h.tm, h.rt, h.nx⟩
  len : (R3.filter (fun p => begB consP p.1)).length = (R.filter (fun p => begB consP p.1)).length + 1
  rise : Rise R3
  other : ∀ a n, a ≠ id → getL R3 (kCons a n) = getL R (kCons a n)
end
end Go.Proofs.YtpcoonnfaoakhaaGreatDoor
namespace Go.Proofs.YtpcoonnfaoakhaaGreatDoor
set_option maxRecDepth 100000
open Go Go.RowKit
set_option linter.unusedVariables false

def zR32F : List UInt8 := List.replicate 32 0
def fix4H : HdV := ⟨⟨#[111, 110, 101]⟩, 5, 50, zR32F, zR32F, zR32F⟩
def fix4E : HdV := ⟨⟨#[]⟩, 0, 0, [], [], []⟩
def sCl0F : ByteArray := ⟨#[99, 108, 105, 101, 110, 116, 45, 48]⟩
def fix4R : List Pr := createR [] fix4H 9
end Go.Proofs.YtpcoonnfaoakhaaGreatDoor
namespace Go.Proofs.YtpcoonnfaoakhaaGreatDoor
set_option maxRecDepth 100000
open Go Go.RowKit

/-- a header as it is handed about -/
structure HV where
  chain : ByteArray
  height : Nat
  time : Nat
  vrA : Option Addr
  vrC : Nat
  vvA : Option Addr
  vvC : Nat
  vnA : Option Addr
  vnC : Nat
  root : List UInt8
  vals : List UInt8
  next : List UInt8
def HV.cells (h : HV) : Array Value := #[.string h.chain, .int .u64 (h.height : Int), .int .u64 (h.time : Int), .slice h.vrA h.root.length h.vrC, .slice h.vvA h.vals.length h.vvC, .slice h.vnA h.next.length h.vnC]
structure HV.at (h : HV) (w : World) : Prop where
  c : h.chain.size ≤ maxLen
  h1 : h.height < 18446744073709551616
  h2 : h.time < 18446744073709551616
  r : Rd w w.heap.size (.slice h.vrA h.root.length h.vrC) h.root
  v : Rd w w.heap.size (.slice h.vvA h.vals.length h.vvC) h.vals
  n : Rd w w.heap.size (.slice h.vnA h.next.length h.vnC) h.next
theorem HV.at.up {h : HV} {w w' : World} (a : h.at w) (hb : Below w.heap.size w w') : h.at w' :=
  ⟨a.c, a.h1, a.h2, a.r.up (Nat.le_refl _) hb, a.v.up (Nat.le_refl _) hb, a.n.up (Nat.le_refl _) hb⟩
def headL1 (h : HV) : List UInt8 := formB (strBytes h.chain) ++ be h.height 8 ++ be h.time 8
def headL (h : HV) : List UInt8 := headL1 h ++ formB h.root ++ formB h.vals ++ formB h.next
/-- the box of a header, and what is known behind each call -/
def HB (g : Nat) (w : World) (h : HV) (w' : World) : Prop :=
  w'.heap[g]? = some (.cells h.cells 109 (0, 0)) ∧ Below w.heap.size w w' ∧ w.heap.size ≤ w'.heap.size
theorem HB.below {g : Nat} {w w' w'' : World} {h : HV} (a : HB g w h w') (hb : Below w'.heap.size w' w'') : HB g w h w'' :=
  ⟨(hb.block g (blk_lt a.1)).trans a.1, below_chain a.2.1 a.2.2 hb, Nat.le_trans a.2.2 hb.size⟩
theorem HB.drew {g : Nat} {w w' : World} {h : HV} (a : HB g w h w') : HB g w h w'.drew := ⟨a.1, a.2.1.drew, a.2.2⟩
theorem HB.r {g : Nat} {w w' : World} {h : HV} (a : HB g w h w') (hh : h.at w) : Rd w' w'.heap.size (.slice h.vrA h.root.length h.vrC) h.root := hh.r.up (Nat.le_refl _) a.2.1
theorem HB.v {g : Nat} {w w' : World} {h : HV} (a : HB g w h w') (hh : h.at w) : Rd w' w'.heap.size (.slice h.vvA h.vals.length h.vvC) h.vals := hh.v.up (Nat.le_refl _) a.2.1
theorem HB.n {g : Nat} {w w' : World} {h : HV} (a : HB g w h w') (hh : h.at w) : Rd w' w'.heap.size (.slice h.vnA h.next.length h.vnC) h.next := hh.n.up (Nat.le_refl _) a.2.1
theorem HB.c {g : Nat} {w w' : World} {h : HV} (a : HB g w h w') :
    w'.cell? ⟨g, 0, none⟩ = some (.string h.chain) ∧ w'.cell? ⟨g, 1, none⟩ = some (.int .u64 (h.height : Int)) ∧ w'.cell? ⟨g, 2, none⟩ = some (.int .u64 (h.time : Int)) ∧ w'.cell? ⟨g, 3, none⟩ = some (.slice h.vrA h.root.length h.vrC) ∧ w'.cell? ⟨g, 4, none⟩ = some (.slice h.vvA h.vals.length h.vvC) ∧ w'.cell? ⟨g, 5, none⟩ = some (.slice h.vnA h.next.length h.vnC) :=
  ⟨blk_cell a.1 0, blk_cell a.1 1, blk_cell a.1 2, blk_cell a.1 3, blk_cell a.1 4, blk_cell a.1 5⟩
theorem HB.new (w : World) (h : HV) : HB w.heap.size w h (w.alloc (.cells h.cells 109)) := ⟨heap_alloc_new w _, (Below.refl _ _).alloc (Nat.le_refl _) _, by simp⟩

end Go.Proofs.YtpcoonnfaoakhaaGreatDoor
namespace Go.Proofs.YtpcoonnfaoakhaaGreatDoor
set_option maxRecDepth 100000
open Go.RowKit

end Go.Proofs.YtpcoonnfaoakhaaGreatDoor
namespace Go.Proofs.YtpcoonnfaoakhaaGreatDoor
set_option maxRecDepth 100000
open Go.RowKit

def padS (M : List UInt8) (F b : Nat) : Nat → List UInt8
  | 0 => M
  | i + 1 => (padS M F b i).set (F - 1 - i) (UInt8.ofNat (b / 2 ^ (8 * i)))
end Go.Proofs.YtpcoonnfaoakhaaGreatDoor
namespace Go.Proofs.YtpcoonnfaoakhaaGreatDoor
set_option maxRecDepth 100000
open Go.RowKit

/-- what stays while the rounds are made -/
structure KB (n0 : Nat) (w : World) (s : S8) (p : List UInt32) (fr : TypeId × Nat × Nat) (w' : World) : Prop where
  st : w'.heap[n0]? = some (.cells #[.int .u32 (s.a.toNat : Int), .int .u32 (s.b.toNat : Int), .int .u32 (s.c.toNat : Int), .int .u32 (s.d.toNat : Int), .int .u32 (s.e.toNat : Int), .int .u32 (s.f.toNat : Int), .int .u32 (s.g.toNat : Int), .int .u32 (s.h.toNat : Int)] 162 (0, 0))
  res : w'.heap[n0 + 1]? = some (.cells #[.int .u32 0, .int .u32 0, .int .u32 0, .int .u32 0, .int .u32 0, .int .u32 0, .int .u32 0, .int .u32 0] 162 (0, 0))
  tab : w'.heap[5]? = some (.cells kVals fr.1 fr.2)
  row : w'.heap[n0 + 1 + 1]? = some (.cells (arr64 p).toArray 227 (0, 0))
  bel : Below n0 w w'
theorem KB.drew {n0 : Nat} {w : World} {s : S8} {p : List UInt32} {fr : TypeId × Nat × Nat} {w' : World} (h : KB n0 w s p fr w') : KB n0 w s p fr w'.drew := ⟨h.st, h.res, h.tab, h.row, h.bel.drew⟩
theorem KB.drewN {n0 : Nat} {w : World} {s : S8} {p : List UInt32} {fr : TypeId × Nat × Nat} {w' : World} (h : KB n0 w s p fr w') (k : Nat) : KB n0 w s p fr (w'.drewN k) := ⟨h.st, h.res, h.tab, h.row, below_drewN' h.bel k⟩
theorem KB.put {n0 : Nat} {w : World} {s : S8} {p : List UInt32} {fr : TypeId × Nat × Nat} {w' : World} (h : KB n0 w s p fr w') (h0 : 5 < n0) (x : UInt32) (t : Nat) (ht : p.length = t) (h64 : t < 64) :
    KB n0 w s (p ++ [x]) fr (w'.setCell ⟨n0 + 1 + 1, t, none⟩ (.int .u32 (x.toNat : Int))) := by
  subst ht
  refine ⟨(Below.heap_setCell w' _ _ n0 (by simp <;> omega)).trans h.st, (Below.heap_setCell w' _ _ (n0 + 1) (by simp)).trans h.res, (Below.heap_setCell w' _ _ _ (by simp <;> omega)).trans h.tab, ?_, h.bel.setCell (by simp <;> omega) _⟩
  rw [blk_set h.row, ← arr64_set _ _ h64]
  simp
theorem KB.start (w : World) (s : S8) (fr : TypeId × Nat × Nat) (hk : w.heap[5]? = some (.cells kVals fr.1 fr.2)) :
    KB w.heap.size w s [] fr (((w.alloc (.cells #[.int .u32 (s.a.toNat : Int), .int .u32 (s.b.toNat : Int), .int .u32 (s.c.toNat : Int), .int .u32 (s.d.toNat : Int), .int .u32 (s.e.toNat : Int), .int .u32 (s.f.toNat : Int), .int .u32 (s.g.toNat : Int), .int .u32 (s.h.toNat : Int)] 162)).alloc
      (.cells #[.int .u32 0, .int .u32 0, .int .u32 0, .int .u32 0, .int .u32 0, .int .u32 0, .int .u32 0, .int .u32 0] 162)).alloc (.cells (arr64 []).toArray 227)) := by
  have h0 := blk_lt hk
  refine ⟨?_, ?_, ?_, ?_, (((Below.refl _ _).alloc (Nat.le_refl _) _).alloc (by simp) _).alloc (by simp <;> omega) _⟩
  · exact (Below.heap_alloc _ _ _ (by simp <;> omega)).trans ((Below.heap_alloc _ _ _ (by simp)).trans (heap_alloc_new w _))
  · refine (Below.heap_alloc _ _ _ (by simp)).trans ?_
    have := heap_alloc_new (w.alloc (.cells #[.int .u32 (s.a.toNat : Int), .int .u32 (s.b.toNat : Int), .int .u32 (s.c.toNat : Int), .int .u32 (s.d.toNat : Int), .int .u32 (s.e.toNat : Int), .int .u32 (s.f.toNat : Int), .int .u32 (s.g.toNat : Int), .int .u32 (s.h.toNat : Int)] 162)) (.cells #[.int .u32 0, .int .u32 0, .int .u32 0, .int .u32 0, .int .u32 0, .int .u32 0, .int .u32 0, .int .u32 0] 162)
    simpa using this
  · exact (Below.heap_alloc _ _ _ (by simp <;> omega)).trans ((Below.heap_alloc _ _ _ (by simp <;> omega)).trans ((Below.heap_alloc _ _ _ h0).trans hk))
  · have := heap_alloc_new ((w.alloc (.cells #[.int .u32 (s.a.toNat : Int), .int .u32 (s.b.toNat : Int), .int .u32 (s.c.toNat : Int), .int .u32 (s.d.toNat : Int), .int .u32 (s.e.toNat : Int), .int .u32 (s.f.toNat : Int), .int .u32 (s.g.toNat : Int), .int .u32 (s.h.toNat : Int)] 162)).alloc (.cells #[.int .u32 0, .int .u32 0, .int .u32 0, .int .u32 0, .int .u32 0, .int .u32 0, .int .u32 0, .int .u32 0] 162)) (.cells (arr64 []).toArray 227)
    simpa using this

end Go.Proofs.YtpcoonnfaoakhaaGreatDoor
namespace Go.Proofs.YtpcoonnfaoakhaaGreatDoor
set_option maxRecDepth 100000
open Go.RowKit

/-! ### the whole message filled up is its whole blocks and the rest filled up -/
/-- block g holds the state s -/
def RBlk (w : World) (g : Nat) (s : S8) : Prop := w.heap[g]? = some (.cells s.list.toArray 162 (0, 0))

theorem RBlk.cells {w : World} {g : Nat} {s : S8} (h : RBlk w g s) : w.rangeAt g 0 s.list := by
  have := World.rangeAt_of_block h 0 8
  rwa [show (s.list.toArray.extract 0 (0 + 8)).toList = s.list by simp [S8.list]] at this
theorem RBlk.below {w w' : World} {g : Nat} {s : S8} (h : RBlk w g s) (hb : Below w.heap.size w w') : RBlk w' g s := (hb.block g (blk_lt h)).trans h

theorem RBlk.at8 {w : World} {g : Nat} {s : S8} (h : RBlk w g s) : w.cell? ⟨g, 0, none⟩ = some (.int .u32 (s.a.toNat : Int)) ∧ w.cell? ⟨g, 1, none⟩ = some (.int .u32 (s.b.toNat : Int)) ∧ w.cell? ⟨g, 2, none⟩ = some (.int .u32 (s.c.toNat : Int)) ∧ w.cell? ⟨g, 3, none⟩ = some (.int .u32 (s.d.toNat : Int)) ∧
    w.cell? ⟨g, 4, none⟩ = some (.int .u32 (s.e.toNat : Int)) ∧ w.cell? ⟨g, 5, none⟩ = some (.int .u32 (s.f.toNat : Int)) ∧ w.cell? ⟨g, 6, none⟩ = some (.int .u32 (s.g.toNat : Int)) ∧ w.cell? ⟨g, 7, none⟩ = some (.int .u32 (s.h.toNat : Int)) :=
  ⟨blk_cell h 0, blk_cell h 1, blk_cell h 2, blk_cell h 3, blk_cell h 4, blk_cell h 5, blk_cell h 6, blk_cell h 7⟩


theorem RBlk.word {w : World} {g : Nat} {s : S8} (h : RBlk w g s) (t : Nat) (ht : t < 8) : w.cell? ⟨g, t, none⟩ = some (.int .u32 ((s.word t).toNat : Int)) := by
  rw [blk_cell h t]
  have : t = 0 ∨ t = 1 ∨ t = 2 ∨ t = 3 ∨ t = 4 ∨ t = 5 ∨ t = 6 ∨ t = 7 := by omega
  rcases this with rfl | rfl | rfl | rfl | rfl | rfl | rfl | rfl <;> rfl

end Go.Proofs.YtpcoonnfaoakhaaGreatDoor
namespace Go.Proofs.YtpcoonnfaoakhaaGreatDoor
set_option maxRecDepth 100000
open Go.RowKit

end Go.Proofs.YtpcoonnfaoakhaaGreatDoor
namespace Go.Proofs.YtpcoonnfaoakhaaGreatDoor
set_option maxRecDepth 100000
open Go Go.RowKit

def headWord : ByteArray := ⟨#[104, 101, 97, 100, 101, 114]⟩
end Go.Proofs.YtpcoonnfaoakhaaGreatDoor
namespace Go.Proofs.YtpcoonnfaoakhaaGreatDoor
set_option maxRecDepth 100000
open Go Go.RowKit
set_option linter.unusedVariables false

/-- news: a header, the set that voted, the one that is trusted, the votes, the height that is trusted -/
structure NwW where
  h : HdW
  vs : Value
  s : List VD
  vt : Value
  t : List VD
  vo : Value
  o : List ByteArray
  ua : Nat
structure NwW.rd (W : World) (u : NwW) : Prop where
  h : u.h.rd W
  s : ValsAt W W.heap.size u.vs u.s
  t : ValsAt W W.heap.size u.vt u.t
  o : StrsAt W W.heap.size u.vo u.o
  ua : u.ua < 18446744073709551616
  ls : u.s.length ≤ 1048576
  lt : u.t.length ≤ 1048576
def NwW.val (u : NwW) : Value := .agg #[.string u.h.ch, .int .u64 (u.h.ht : Int), .int .u64 (u.h.tm : Int), u.h.vr, u.h.vv, u.h.vn, u.vs, u.vt, u.vo, .int .u64 (u.ua : Int)]
def vhash (l : List VD) : List UInt8 := shaSum (formB (strBytes valsWord) ++ formBs [bytesV l])
def linkedB (nx : List UInt8) (va : List UInt8) (ht ua : Nat) (t : List VD) (o : List ByteArray) : Bool := if ht = (ua + 1) % 18446744073709551616 then sameB va nx else rightB t && (sameB (vhash t) nx && thirdB t (keysOf o))
def wrongB (b1 b2 b3 b4 b5 b6 b7 b8 : Bool) : Int := if b1 = true then 103 else if b2 = true then 107 else if b3 = true then 104 else if b4 = true then 105 else if b5 = false then 21 else if b6 = false then 90 else if b7 = false then 106 else if b8 = false then 91 else 0
def wrongE (R : List Pr) (id : ByteArray) (c : ClV) (u : NwW) (now : Nat) : Int := match getCs R id u.ua with
  | none => 101
  | some t => wrongB (overB t.tm c.pe now) (u.h.ch.toList != c.ch.toList) (decide (u.h.ht ≤ u.ua)) (decide (u.h.tm ≤ t.tm) || aheadB u.h.tm now) (decide (u.h.rt.length = 32) && (decide (u.h.va.length = 32) && decide (u.h.nx.length = 32))) (rightB u.s && sameB (vhash u.s) u.h.va) (linkedB t.nx u.h.va u.h.ht u.ua u.t u.o) (quorumB u.s (keysOf u.o))
end Go.Proofs.YtpcoonnfaoakhaaGreatDoor
namespace Go.Proofs.YtpcoonnfaoakhaaGreatDoor
set_option maxRecDepth 100000
open Go Go.RowKit
set_option linter.unusedVariables false

end Go.Proofs.YtpcoonnfaoakhaaGreatDoor
namespace Go.Proofs.YtpcoonnfaoakhaaGreatDoor
set_option maxRecDepth 100000
open Go Go.RowKit
set_option linter.unusedVariables false

def updM (R : List Pr) (id : ByteArray) (u : NwW) (now : Nat) : Int × List Pr :=
  if aliveE R id = 0 then
    (if wrongE R id (aliveV R id) u now = 0 then
      (match getCs R id u.h.ht with
        | some t => (0, if ((t.tm != u.h.tm) || (!sameB t.rt u.h.rt || !sameB t.nx u.h.nx)) = true then setL (kCli id) (clB ⟨(aliveV R id).ch, (aliveV R id).la, (aliveV R id).pe, true⟩) R else R)
        | none => (0, setL (kCli id) (clB ⟨(aliveV R id).ch, max (aliveV R id).la u.h.ht, (aliveV R id).pe, (aliveV R id).fr⟩) (setL (kCons id u.h.ht) (csB ⟨u.h.tm, u.h.rt, u.h.nx⟩) R)))
    else (wrongE R id (aliveV R id) u now, R))
  else (aliveE R id, R)
end Go.Proofs.YtpcoonnfaoakhaaGreatDoor
namespace Go.Proofs.YtpcoonnfaoakhaaGreatDoor
set_option maxRecDepth 100000
open Go Go.RowKit
set_option linter.unusedVariables false

def hhash (h : HdW) : List UInt8 := shaSum (formB (strBytes headWord) ++ formBs [headL ⟨h.ch, h.ht, h.tm, none, 0, none, 0, none, 0, h.rt, h.va, h.nx⟩])
def misM (R : List Pr) (id : ByteArray) (u v : NwW) (now : Nat) : Int × List Pr :=
  if aliveE R id = 0 then
    (if u.h.ht = v.h.ht then
      (if sameB (hhash u.h) (hhash v.h) = true then (2, R)
      else if wrongE R id (aliveV R id) u now = 0 then
        (if wrongE R id (aliveV R id) v now = 0 then (0, setL (kCli id) (clB ⟨(aliveV R id).ch, (aliveV R id).la, (aliveV R id).pe, true⟩) R)
        else (wrongE R id (aliveV R id) v now, R))
      else (wrongE R id (aliveV R id) u now, R))
    else (104, R))
  else (aliveE R id, R)
end Go.Proofs.YtpcoonnfaoakhaaGreatDoor
